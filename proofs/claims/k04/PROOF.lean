import PyProof.Rows.All
import Wide.All
import OpenK.AllK
import Wide.FinOn
import PyProof.EqAt
import PyProof.EqKinds
import PyProof.TupleCall
import PyProof.NeKinds
import PyProof.ZipIter
import PyProof.EnumFor
import PyProof.EnumMake
import PySem.Challenge.RW_cisternyard_k04_water_above_lines
-- CHANGE: your row's module here, as the last of these rows
set_option Elab.async false
set_option linter.all false
set_option maxRecDepth 100000
/-! THE HAND LAYER, for ints, bools, texts, own classes, LISTS and tuples (index, slices, in, append, pop ..), calls, loops. Paste it whole ahead of your own text; what your proof does not reach may be deleted. -/
namespace L2
open PySem PySem.Spec PyProof.Rows

/-- a key: an int or a str -/
abbrev Key := Sum Int Str
def keyIs : Key → Value → Bool
  | .inl k, v => Value.isInt k v
  | .inr x, v => Value.isStrOf x v
def keyH (w : World) : Key → Int
  | .inl k => hashInt k
  | .inr x => hashStr w x
theorem keyIs_shape : ∀ {k : Key} {v : Value}, keyIs k v = true → (∃ i t, k = Sum.inl i ∧ v = Value.int i t) ∨ (∃ x t, k = Sum.inr x ∧ v = Value.str x t)
  | .inl i, v, h => by
    obtain ⟨t, e⟩ := Value.isInt_shape (k := i) (v := v) h
    exact .inl ⟨i, t, rfl, e⟩
  | .inr x, v, h => by
    obtain ⟨t, e⟩ := Value.isStrOf_shape (x := x) (v := v) h
    exact .inr ⟨x, t, rfl, e⟩
theorem key_ll (a b : Int) : decide ((Sum.inl a : Key) = Sum.inl b) = (a == b) := by
  by_cases e : a = b
  · subst e; simp
  · have h : ¬ (Sum.inl a : Key) = Sum.inl b := fun q => e (Sum.inl.inj q)
    rw [decide_eq_false h]
    exact (beq_eq_false_iff_ne.mpr e).symm
theorem key_rr (a b : Str) : decide ((Sum.inr a : Key) = Sum.inr b) = decide (a = b) := by
  by_cases e : a = b
  · subst e; simp
  · have h : ¬ (Sum.inr a : Key) = Sum.inr b := fun q => e (Sum.inr.inj q)
    rw [decide_eq_false h, decide_eq_false e]
theorem key_lr (a : Int) (b : Str) : decide ((Sum.inl a : Key) = Sum.inr b) = false := decide_eq_false (fun q => nomatch q)
theorem key_rl (a : Str) (b : Int) : decide ((Sum.inr a : Key) = Sum.inl b) = false := decide_eq_false (fun q => nomatch q)

def mixKind (prog : Program) (w : World) : PySem.KeyKind prog w Key where
  is := keyIs
  hash := keyH w
  inj := fun v a b ha hb => by
    rcases keyIs_shape ha with ⟨i, t, rfl, rfl⟩ | ⟨x, t, rfl, rfl⟩
    · rcases keyIs_shape hb with ⟨j, u, rfl, e⟩ | ⟨y, u, rfl, e⟩
      · injection e with e1 _; rw [e1]
      · exact nomatch e
    · rcases keyIs_shape hb with ⟨j, u, rfl, e⟩ | ⟨y, u, rfl, e⟩
      · exact nomatch e
      · injection e with e1 _; rw [e1]
  byValue := fun k v h => by
    rcases keyIs_shape h with ⟨i, t, rfl, rfl⟩ | ⟨x, t, rfl, rfl⟩ <;> rfl
  pyHash := fun hv h => by
    rcases keyIs_shape hv with ⟨i, t, rfl, rfl⟩ | ⟨x, t, rfl, rfl⟩
    · exact wpAny_pyHash_int h
    · exact wpAny_pyHash_str h
  eqBool := fun hu hv h => by
    rcases keyIs_shape hu with ⟨i, t, rfl, rfl⟩ | ⟨x, t, rfl, rfl⟩
    · rcases keyIs_shape hv with ⟨j, u, rfl, rfl⟩ | ⟨y, u, rfl, rfl⟩
      · rw [key_ll] at h; exact wpAny_eqBool_int h
      · rw [key_lr] at h; exact SeqAt.EqAt.int_str i t y u _ _ _ _ h
    · rcases keyIs_shape hv with ⟨j, u, rfl, rfl⟩ | ⟨y, u, rfl, rfl⟩
      · rw [key_rl] at h; exact SeqAt.EqAt.str_int x t j u _ _ _ _ h
      · rw [key_rr] at h; exact wpAny_eqBool_str h
  «strs» := fun k x t v h => by
    rcases keyIs_shape h with ⟨i, u, rfl, e⟩ | ⟨y, u, rfl, e⟩
    · exact nomatch e
    · injection e with e1 _
      subst e1
      cases v <;> rfl

end L2

namespace L2
open PySem PySem.Spec PyProof.Rows

/-- a value, without the heap -/
inductive V where
  | non | bl (b : Bool) | int (i : Int) | str (x : Str) | byt (b : Array UInt8) | flt (b : UInt64) | ref (a : Addr) | ty (n : String)
  deriving DecidableEq

def RelV : V → Value → Prop
  | .non, u => u = Value.none
  | .bl b, u => u = Value.bool b
  | .int i, u => ∃ t, u = Value.int i t
  | .str x, u => ∃ t, u = Value.str x t
  | .byt b, u => ∃ t, u = Value.bytes b t
  | .flt b, u => ∃ t, u = Value.float b t
  | .ref a, u => u = Value.ref a
  | .ty n, u => u = Value.type n

abbrev Vals : List V → List Value → Prop := Paired RelV
theorem Vals.length {xs : List V} {us : List Value} (r : Vals xs us) : xs.length = us.length := Paired.length r
theorem Vals.get : ∀ {xs : List V} {us : List Value} {i : Nat} {x : V}, Vals xs us → xs[i]? = some x → ∃ u, us[i]? = some u ∧ RelV x u
  | _, _, _, _, .nil, e => by simp at e
  | _, _, 0, _, .cons r _, e => by simp at e; subst e; exact ⟨_, rfl, r⟩
  | _, _, i + 1, x, .cons _ t, e => by
    obtain ⟨u, h1, h2⟩ := Vals.get (i := i) (x := x) t (by simpa using e)
    exact ⟨u, by simpa using h1, h2⟩
theorem Vals.set {x : V} {u : Value} (r : RelV x u) : ∀ {xs : List V} {us : List Value} (i : Nat), Vals xs us → Vals (xs.set i x) (us.set i u)
  | _, _, _, .nil => .nil
  | _, _, 0, .cons _ t => .cons r t
  | _, _, i + 1, .cons q t => .cons q (Vals.set r i t)
theorem Vals.append : ∀ {xs ys : List V} {us ws : List Value}, Vals xs us → Vals ys ws → Vals (xs ++ ys) (us ++ ws)
  | _, _, _, _, .nil, s => s
  | _, _, _, _, .cons r t, s => .cons r (Vals.append t s)
theorem Vals.take : ∀ {xs : List V} {us : List Value} (n : Nat), Vals xs us → Vals (xs.take n) (us.take n)
  | _, _, 0, _ => .nil
  | _, _, _ + 1, .nil => .nil
  | _, _, n + 1, .cons r t => .cons r (Vals.take n t)
theorem Vals.drop : ∀ {xs : List V} {us : List Value} (n : Nat), Vals xs us → Vals (xs.drop n) (us.drop n)
  | _, _, 0, r => r
  | _, _, _ + 1, .nil => .nil
  | _, _, n + 1, .cons _ t => Vals.drop n t
def RelO : Option V → Option Value → Prop
  | some v, some u => RelV v u
  | none, none => True
  | _, _ => False
def KV {κ : Type} : List (κ × V) → List (κ × Value) → Prop := Paired fun (p : κ × V) (q : κ × Value) => p.1 = q.1 ∧ RelV p.2 q.2

/-- a key of a dict (00_mix): an int or a text -/
def kV : Key → V
  | .inl i => .int i
  | .inr x => .str x

/-- what stands at a tracked address -/
inductive HO where
  /-- a list -/
  | lst (xs : List V)
  /-- a tuple (never changes) -/
  | tup (xs : List V)
  /-- a dict whose keys are ints and texts; one whose keys are tuples of ints and texts (the empty one is both) -/
  | dK (kvs : List (Key × V)) | dT (kvs : List (List Key × V))
  /-- a set of ints: its members, its size -/
  | set (S : Int → Bool) (n : Nat)
  /-- an instance of the class at C, its dict at dx, its attributes -/
  | ins (C dx : Addr) (fs : List (Str × V))
  /-- the dict of the instance at x -/
  | own (x : Addr)
  /-- the dict of an exception -/
  | xd (fs : List (Str × V))
  /-- a bound method, f of x -/
  | met (f x : Addr)
  /-- a range object lo, lo + 1, .. below hi -/
  | rng (lo hi : Int)
  /-- a thing that is known to the object (the script; a dict while a loop walks it): read, never written while it is so -/
  | frz (o : Obj) (u : HO)
  /-- a code object's table -/
  | tbl (ps : Array Value)
  /-- any other thing, by what is true of its one object (a def of one's own: SetO a S n := HO.ext fun h => ..) -/
  | ext (φ : Heap → Prop)

abbrev Hp := Addr → Option HO
def upd (H : Hp) (a : Addr) (o : HO) : Hp := fun b => if b = a then some o else H b
theorem upd_same {H : Hp} {a : Addr} {o : HO} : upd H a o a = some o := by unfold upd; rw [if_pos rfl]
theorem upd_ne {H : Hp} {a b : Addr} {o : HO} (h : b ≠ a) : upd H a o b = H b := by unfold upd; rw [if_neg h]
theorem upd_upd {H : Hp} {a : Addr} {o u : HO} : upd (upd H a o) a u = upd H a u := by
  funext b; unfold upd; split <;> rfl
/-- two objects of different content stand apart -/
theorem ne_of {H : Hp} {a b : Addr} {o u : HO} (h : H a = some o) (h' : H b = some u) (d : o ≠ u) : a ≠ b := by
  intro e; subst e; rw [h] at h'; exact d (Option.some.inj h')
theorem ne_of_none {H : Hp} {a b : Addr} {o : HO} (h : H a = some o) (h' : H b = none) : a ≠ b := by
  intro e; subst e; rw [h] at h'; cases h'

section
variable (P : Program) (w : World)
def ObjOk (H : Hp) (h : Heap) (a : Addr) : HO → Prop
  | .lst xs => xs.length ≤ sizeLine ∧ ∃ (its : List Value) (n : Nat), Vals xs its ∧ h.get? a = some { cls := .type "list", data := .seq its.toArray n }
  | .tup xs => xs.length ≤ sizeLine ∧ ∃ its : List Value, Vals xs its ∧ IsTup h a its.toArray
  | .dK kvs => kvs.length ≤ sizeLine ∧ (a == sysModules) = false ∧ ∃ vs, KV kvs vs ∧ h.DictOf (mixKind P w) a vs
  | .dT kvs => kvs.length ≤ sizeLine ∧ (a == sysModules) = false ∧ ∃ xs : List (List Key × Addr × Value),
      Paired (fun (p : List Key × V) (q : List Key × Addr × Value) => p.1 = q.1 ∧ H q.2.1 = some (.tup (p.1.map kV)) ∧ RelV p.2 q.2.2) kvs xs ∧
      ∃ o es ep, h.get? a = some o ∧ o.ExactDict ∧ o.data = .dict es ep ∧ es.toList = xs.map (entryOfKey (tupleKind (mixKind P w))) ∧ (xs.map (·.1)).Nodup
  | .set S n => h.SetOf (intKind P w) a S n
  | .ins C dx fs => H dx = some (.own a) ∧ fs.length ≤ 1000 ∧ dx ≠ a ∧ h.get? a = some (PySem.W.instObj C dx) ∧
      ∃ mA, h.Ns1 dx mA ∧ (∀ f, RelO (fs.lookup f) (mA f)) ∧ PySem.Within mA (fs.map (·.1))
  | .own _ => ∃ o, h.get? a = some o
  | .xd fs => ∃ mA, h.Ns1 a mA ∧ ∀ f, RelO (fs.lookup f) (mA f)
  | .rng lo hi => ∃ t u v, h.get? a = some { cls := .type "range", data := .fields #[.int lo t, .int hi u, .int 1 v] }
  | .frz o u => h.get? a = some o ∧ ObjOk H h a u
  | .tbl ps => h.get? a = some { cls := .none, data := .fields ps }
  | .met f x => h.get? a = some (PySem.W.methodObj (.ref f) (.ref x))
  | .ext φ => φ h ∧ (∃ o, h.get? a = some o) ∧ ∀ h1 h2 : Heap, φ h1 → (∀ o, h1.get? a = some o → h2.get? a = some o) → φ h2
/-- the abstract heap is held -/
def HOk (H : Hp) (h : Heap) : Prop := ∀ a o, H a = some o → ObjOk P w H h a o
end

section
variable {P : Program} {w : World} {H H' : Hp} {h h' : Heap} {a : Addr} {o : HO}
theorem ObjOk.lt (x : ObjOk P w H h a o) : a < h.objs.size := by
  cases o with
  | lst xs => obtain ⟨_, _, _, _, e⟩ := x; exact Heap.lt_size e
  | tup xs => obtain ⟨_, _, _, p⟩ := x; exact p.lt
  | dK kvs => obtain ⟨_, _, _, _, o, _, _, e, _⟩ := x; exact Heap.lt_size e
  | dT kvs => obtain ⟨_, _, _, _, o, _, _, e, _⟩ := x; exact Heap.lt_size e
  | set S n => obtain ⟨o, _, _, _, e, _⟩ := x; exact Heap.lt_size e
  | ins C dx fs => obtain ⟨_, _, _, e, _⟩ := x; exact Heap.lt_size e
  | own y => obtain ⟨_, e⟩ := x; exact Heap.lt_size e
  | xd fs => obtain ⟨_, ⟨_, _, _, e, _⟩, _⟩ := x; exact Heap.lt_size e
  | rng lo hi => obtain ⟨_, _, _, e⟩ := x; exact Heap.lt_size e
  | frz ob u => obtain ⟨e, _⟩ := x; exact Heap.lt_size e
  | tbl ps => exact Heap.lt_size (show h.get? a = some _ from x)
  | met f y => exact Heap.lt_size (show h.get? a = some _ from x)
  | ext φ => obtain ⟨_, ⟨_, e⟩, _⟩ := x; exact Heap.lt_size e
theorem Paired.mapP {α β : Type} {F G : α → β → Prop} : ∀ {l₁ : List α} {l₂ : List β}, Paired F l₁ l₂ → (∀ a b, F a b → G a b) → Paired G l₁ l₂
  | _, _, .nil, _ => .nil
  | _, _, .cons r t, f => .cons (f _ _ r) (Paired.mapP t f)
/-- what an object's description leans on: its own object, its own dict, the tuples -/
theorem ObjOk.stay (x : ObjOk P w H h a o) (k : ∀ b u, (b = a ∨ H b = some (.own a)) → h.get? b = some u → h'.get? b = some u)
    (ho : ∀ b, H b = some (.own a) → H' b = some (.own a)) (ht : ∀ b xs, H b = some (.tup xs) → H' b = some (.tup xs)) : ObjOk P w H' h' a o := by
  induction o with
  | lst xs => obtain ⟨z, its, n, r, e⟩ := x; exact ⟨z, its, n, r, k _ _ (.inl rfl) e⟩
  | tup xs => obtain ⟨z, its, r, ob, e, c⟩ := x; exact ⟨z, its, r, ob, k _ _ (.inl rfl) e, c⟩
  | dK kvs => obtain ⟨z, y, vs, r, ob, es, ep, e, c⟩ := x; exact ⟨z, y, vs, r, ob, es, ep, k _ _ (.inl rfl) e, c⟩
  | dT kvs =>
    obtain ⟨z, y, xs, r, ob, es, ep, e, c⟩ := x
    exact ⟨z, y, xs, Paired.mapP r fun p q z => ⟨z.1, ht _ _ z.2.1, z.2.2⟩, ob, es, ep, k _ _ (.inl rfl) e, c⟩
  | set S n => obtain ⟨ob, es, ep, t, e, c⟩ := x; exact ⟨ob, es, ep, t, k _ _ (.inl rfl) e, c⟩
  | ins C dx fs =>
    obtain ⟨d, z, ne, e, mA, ⟨od, es, ep, e2, c⟩, r⟩ := x
    exact ⟨ho _ d, z, ne, k _ _ (.inl rfl) e, mA, ⟨od, es, ep, k _ _ (.inr d) e2, c⟩, r⟩
  | own y => obtain ⟨ob, e⟩ := x; exact ⟨ob, k _ _ (.inl rfl) e⟩
  | xd fs => obtain ⟨mA, ⟨od, es, ep, e, c⟩, r⟩ := x; exact ⟨mA, ⟨od, es, ep, k _ _ (.inl rfl) e, c⟩, r⟩
  | rng lo hi => obtain ⟨t, u, v, e⟩ := x; exact ⟨t, u, v, k _ _ (.inl rfl) e⟩
  | frz ob u ih => obtain ⟨e, q⟩ := x; exact ⟨k _ _ (.inl rfl) e, ih q⟩
  | tbl ps =>
    have e : h.get? a = some { cls := .none, data := .fields ps } := x
    show h'.get? a = some { cls := .none, data := .fields ps }
    exact k a _ (.inl rfl) e
  | met f y =>
    have e : h.get? a = some (PySem.W.methodObj (.ref f) (.ref y)) := x
    show h'.get? a = some (PySem.W.methodObj (.ref f) (.ref y))
    exact k a _ (.inl rfl) e
  | ext φ => obtain ⟨p, ⟨o, e⟩, st⟩ := x; exact ⟨st _ _ p fun o q => k _ _ (.inl rfl) q, ⟨o, k _ _ (.inl rfl) e⟩, st⟩
theorem HOk.lt (x : HOk P w H h) (e : H a = some o) : a < h.objs.size := (x a o e).lt
theorem HOk.fresh (x : HOk P w H h) (e : h.objs.size ≤ a) : H a = none := by
  cases q : H a with
  | none => rfl
  | some u => exact absurd (Nat.lt_of_lt_of_le (x.lt q) e) (Nat.lt_irrefl _)
/-- every object of the heap is kept -/
theorem HOk.kept (x : HOk P w H h) (k : ∀ b u, h.get? b = some u → h'.get? b = some u) : HOk P w H h' := fun a o e =>
  (x a o e).stay (fun b u _ q => k b u q) (fun _ q => q) fun _ _ q => q
/-- a new object is laid and tracked -/
theorem HOk.laid (x : HOk P w H h) (k : ∀ b u, h.get? b = some u → h'.get? b = some u) (hp : h.objs.size ≤ a) (new : ObjOk P w (upd H a o) h' a o) : HOk P w (upd H a o) h' := fun b u e => by
  have hn := x.fresh hp
  by_cases hb : b = a
  · subst hb; rw [upd_same] at e; cases e; exact new
  · rw [upd_ne hb] at e
    exact (x b u e).stay (fun c v _ q => k c v q) (fun c q => by rw [upd_ne (ne_of_none q hn)]; exact q) fun c xs q => by rw [upd_ne (ne_of_none q hn)]; exact q
end

/-- what may be read as u: it is u, or a known u -/
def Rd (H : Hp) (a : Addr) (u : HO) : Prop := H a = some u ∨ ∃ o, H a = some (.frz o u)
theorem Rd.ok {P : Program} {w : World} {H : Hp} {h : Heap} {a : Addr} {u : HO} (r : Rd H a u) (x : HOk P w H h) : ObjOk P w H h a u := by
  rcases r with r | ⟨o, r⟩
  · exact x a u r
  · obtain ⟨_, q⟩ := x a _ r
    exact q
/-- what may be written -/
def Mut : Option HO → Prop
  | some (.lst _) => True
  | some (.dK _) => True
  | some (.dT _) => True
  | some (.set _ _) => True
  | some (.ins _ _ _) => True
  | some (.ext _) => True
  | _ => False
section
variable {P : Program} {w : World} {H : Hp} {h h' : Heap} {x e : Addr} {o' : HO}
/-- the object at e is changed: x itself, or the dict of the instance x -/
theorem HOk.write (ok : HOk P w H h) (mu : Mut (H x)) (he : e = x ∨ H e = some (.own x)) (k : ∀ b u, b ≠ e → h.get? b = some u → h'.get? b = some u) (heo : ∃ u, h'.get? e = some u)
    (new : ObjOk P w (upd H x o') h' x o') : HOk P w (upd H x o') h' := fun b u q => by
  have nown : ∀ c y, H c = some (.own y) → c ≠ x := fun c y r z => by subst z; rw [r] at mu; exact mu
  have ntup : ∀ c xs, H c = some (.tup xs) → c ≠ x := fun c xs r z => by subst z; rw [r] at mu; exact mu
  by_cases hb : b = x
  · subst hb; rw [upd_same] at q; cases q; exact new
  · rw [upd_ne hb] at q
    by_cases hbe : b = e
    · have q' : H b = some (.own x) := by
        rcases he with z | z
        · exact absurd (hbe.trans z) hb
        · rw [hbe]; exact z
      rw [q] at q'; cases q'
      obtain ⟨v, hv⟩ := heo
      exact ⟨v, by rw [hbe]; exact hv⟩
    · refine (ok b u q).stay (fun c v hc r => k c v ?_ r) (fun c r => by rw [upd_ne (nown c b r)]; exact r) fun c xs r => by rw [upd_ne (ntup c xs r)]; exact r
      rcases hc with rfl | hc
      · exact hbe
      · rintro rfl
        rcases he with z | z
        · exact nown c b hc z
        · rw [hc] at z; cases z; exact hb rfl
end

/-! ### kept unless tracked; of the frames at fs (the callers') the slots may change (an exception that passes writes there); of the records at ex (iterators) nothing is said -/
structure Un (fs ex : List Addr) (H H' : Hp) (h h' : Heap) : Prop where
  keep : ∀ b o, h.get? b = some o → H b = none → b ∉ fs → b ∉ ex → h'.get? b = some o
  slot : ∀ b o, h.get? b = some o → H b = none → b ∈ fs → b ∉ ex → ∃ sl, h'.get? b = some { o with slots := sl }
  free : ∀ b o, h.get? b = some o → H b = none → b ∉ ex → H' b = none
  there : ∀ b o, h.get? b = some o → b ∉ ex → ∃ o', h'.get? b = some o'
  tups : ∀ b xs, H b = some (.tup xs) → H' b = some (.tup xs)
  frzs : ∀ b o u, H b = some (.frz o u) → H' b = some (.frz o u)
  tbls : ∀ b ps, H b = some (.tbl ps) → ∃ more, H' b = some (.tbl (ps ++ more))
section
variable {fs fs' ex ex' : List Addr} {H H1 H2 : Hp} {h h1 h2 h' : Heap} {a x e : Addr} {o : HO}
theorem Un.any (u : Un fs ex H H1 h h1) {b : Addr} {ob : Obj} (q : h.get? b = some ob) (n : H b = none) (hx : b ∉ ex) : ∃ sl, h1.get? b = some { ob with slots := sl } := by
  by_cases hb : b ∈ fs
  · exact u.slot b ob q n hb hx
  · exact ⟨ob.slots, u.keep b ob q n hb hx⟩
theorem Un.kept (k : ∀ b u, h.get? b = some u → h'.get? b = some u) : Un fs ex H H h h' :=
  ⟨fun b ob q _ _ _ => k b ob q, fun b ob q _ _ _ => ⟨ob.slots, k b ob q⟩, fun _ _ _ n _ => n, fun b ob q _ => ⟨ob, k b ob q⟩, fun _ _ q => q, fun _ _ _ q => q, fun _ ps q => ⟨#[], by rw [q]; simp⟩⟩
theorem Un.refl : Un fs ex H H h h := Un.kept fun _ _ q => q
theorem Un.laid (k : ∀ b u, h.get? b = some u → h'.get? b = some u) (hp : h.objs.size ≤ a) (hn : H a = none) : Un fs ex H (upd H a o) h h' where
  keep := fun b u q _ _ _ => k b u q
  slot := fun b u q _ _ _ => ⟨u.slots, k b u q⟩
  free := fun b u q n _ => by rw [upd_ne (Nat.ne_of_lt (Nat.lt_of_lt_of_le (Heap.lt_size q) hp))]; exact n
  there := fun b u q _ => ⟨u, k b u q⟩
  tups := fun b xs q => by rw [upd_ne (ne_of_none q hn)]; exact q
  frzs := fun b u xs q => by rw [upd_ne (ne_of_none q hn)]; exact q
  tbls := fun b ps q => ⟨#[], by rw [upd_ne (ne_of_none q hn), q]; simp⟩
theorem Un.write (mu : Mut (H x)) (he : e = x ∨ H e = some (.own x)) (k : ∀ b u, b ≠ e → h.get? b = some u → h'.get? b = some u) (heo : ∃ u, h'.get? e = some u) : Un fs ex H (upd H x o) h h' := by
  have hx : ∀ b, H b = none → b ≠ x := fun b n z => by subst z; rw [n] at mu; exact mu
  have hb : ∀ b, H b = none → b ≠ e := fun b n z => by
    subst z
    rcases he with r | r
    · exact hx b n r
    · rw [n] at r; cases r
  have hm : ∀ b u, H b = some u → ¬ Mut (some u) → b ≠ x := fun b u q nm z => by subst z; rw [q] at mu; exact nm mu
  refine ⟨fun b u q n _ _ => k b u (hb b n) q, fun b u q n _ _ => ⟨u.slots, k b u (hb b n) q⟩, fun b u q n _ => by rw [upd_ne (hx b n)]; exact n, fun b u q _ => ?_,
    fun b xs q => by rw [upd_ne (hm b _ q fun z => z)]; exact q, fun b u xs q => by rw [upd_ne (hm b _ q fun z => z)]; exact q, fun b ps q => ⟨#[], by rw [upd_ne (hm b _ q fun z => z), q]; simp⟩⟩
  by_cases hbe : b = e
  · subst hbe; exact heo
  · exact ⟨u, k b u hbe q⟩
end

/-! ### the heap without what is tracked -/
def trk (h : Heap) (H : Hp) : List Addr := (List.range h.objs.size).filter fun a => (H a).isSome
def hidT (h : Heap) (H : Hp) : Heap := PySem.W.hideAll h (trk h H)
theorem hidT_size (h : Heap) (H : Hp) : (hidT h H).objs.size = h.objs.size := PySem.W.hideAll_size _ _
theorem hidT_get {h : Heap} {H : Hp} {b : Addr} {o : Obj} (e : h.get? b = some o) (n : H b = none) : (hidT h H).get? b = some o :=
  PySem.W.hideAll_get _ e fun hm => by
    have q : (H b).isSome = true := (List.mem_filter.mp hm).2
    rw [n] at q; simp at q
theorem of_hidT {h : Heap} {H : Hp} {b : Addr} {o : Obj} (e : (hidT h H).get? b = some o) : h.get? b = some o ∧ H b = none := by
  have e' : h.get? b = some o := PySem.W.of_hideAll (trk h H) e
  refine ⟨e', ?_⟩
  cases q : H b with
  | none => rfl
  | some x =>
    have hm : b ∈ trk h H := List.mem_filter.mpr ⟨List.mem_range.mpr (Heap.lt_size e'), by simp [q]⟩
    have z : (hidT h H).get? b = none := PySem.W.hideAll_none (trk h H) hm
    rw [z] at e; cases e

/-! ### OpenK's ledger, filled with every new object but one -/
def allNews (g h : Heap) (L : Addr) : List (Addr × Obj) := (List.range h.objs.size).filterMap fun a => if a = L ∨ (g.get? a).isSome = true then none else (h.get? a).map fun o => (a, o)
def rest (g h : Heap) (L d : Addr) : List (Addr × Obj) := (allNews g h L).filter fun p => decide (p.1 ≠ d)
end L2

namespace L2
open PySem PySem.Spec PyProof.Rows

/-- the module's facts, over the base: the heap at the law's entry without what is tracked there -/
structure Mod (K : PySem.W.Frag) (mg : Str → Option Value) (base : Heap) : Prop where
  kin : K.In base
  glob : base.Ns mainGlobals mg
  blt : ∃ mb, base.Ns builtinsNs mb ∧ ∀ x : Str, x ≠ "__name__" → mb x = bootBuiltins x
  nolimit : base.NoLimit

/-- the context: a def's body (or a comprehension's block) running. base: fixed through the whole law; s₀, H₀: the entry; outer: the frames whose slots others may change (a def's callers); stack: all frames that run;
   ex: iterators that were made ahead of the entry and are walked here (a comprehension's); fn: the names whose cells were made at the entry (a def: all; a comprehension's block: its own); calm: not within an except suite; pn: pins that every state bears; xe: what is wanted of an exception that leaves the code -/
structure Cx where
  prog : Program
  w : World
  K : PySem.W.Frag
  mg : Str → Option Value
  base : Heap
  A : Around
  N : List Str
  s₀ : Shared
  H₀ : Hp
  env : Env
  outer : List Env
  stack : List Env
  ex : List Addr
  fn : Str → Bool
  calm : Bool
  pn : List (Addr × Obj)
  xe : Value → Shared → Prop
/-- the callers' frames -/
def frs (l : List Env) : List Addr := l.filterMap (·.frame)
abbrev Cx.fs (X : Cx) : List Addr := frs X.outer

def Vis (sc : Scope) (x : Str) : Prop := sc.names.lookup x = some .local ∨ sc.names.lookup x = some .cell ∨ sc.names.lookup x = some .free
def Loc (sc : Scope) (x : Str) : Prop := sc.names.lookup x = some .local ∨ sc.names.lookup x = some .cell
def Look (env : Env) (h : Heap) (m : Str → Option Value) (x : Str) (u : Value) : Prop :=
  (env.kindOf x = some .local ∧ m x = some u) ∨ ((env.kindOf x = some .cell ∨ env.kindOf x = some .free) ∧ ∃ c, env.cells.lookup x = some c ∧ h.IsCell c (some u))

structure Cx.Ok (X : Cx) : Prop where
  mod : Mod X.K X.mg X.base
  kind : X.env.scope.kind = .function
  glob : X.env.globals = mainGlobals
  blt : X.env.builtins = builtinsNs
  above : X.s₀.heap.objs.size ≤ X.env.locals
  inj : ∀ x y c, X.env.cells.lookup x = some c → X.env.cells.lookup y = some c → x = y
  has : ∀ x, (X.env.kindOf x = some .cell ∨ X.env.kindOf x = some .free) → ∃ c, X.env.cells.lookup x = some c
  cab : ∀ x c, X.fn x = true → X.env.cells.lookup x = some c → X.s₀.heap.objs.size ≤ c
  hd : X.calm = true → X.A.handled = none
  frames : X.A.frames = some X.stack
  stk : X.stack = X.outer ∨ (X.stack = X.env :: X.outer ∧ X.env.frame = some X.env.locals)
  exf : ∀ b ∈ X.ex, b ≠ X.env.locals ∧ ∀ x c, X.env.cells.lookup x = some c → c ≠ b
  bs : ∀ b o, X.base.get? b = some o → X.s₀.heap.get? b = some o ∧ X.H₀ b = none
  bsz : X.base.objs.size ≤ X.s₀.heap.objs.size
  noex : ∀ b o, X.base.get? b = some o → b ∉ X.ex
  exfs : ∀ b ∈ X.ex, b ∉ X.fs
  funs : X.s₀.heap.FunFrames X.base X.outer
  frf : ∀ b ∈ X.fs, X.H₀ b = none

structure Inv (X : Cx) (pins : List (Addr × Obj)) (σ : List (Option V)) (H : Hp) (s : Shared) : Prop where
  ok : X.Ok
  os : s.os = X.s₀.os
  bare : AllBare s.gens
  base : Un X.fs X.ex X.H₀ H X.s₀.heap s.heap
  loc : ∃ m, s.heap.Ns X.env.locals m ∧ ∀ (i : Nat) (x : Str) (v : V), X.N[i]? = some x → σ[i]? = some (some v) → Vis X.env.scope x → ∃ u, RelV v u ∧ Look X.env s.heap m x u
  cell : ∀ x c, X.env.cells.lookup x = some c → ∃ v, s.heap.IsCell c v
  free : H X.env.locals = none
  freeC : ∀ x c, X.env.cells.lookup x = some c → H c = none
  pin : ∀ p ∈ X.pn ++ pins, s.heap.get? p.1 = some p.2 ∧ H p.1 = none ∧ p.1 ≠ X.env.locals ∧ p.1 ∉ X.fs ∧ ∀ v, p.2.data ≠ .cell v
  hok : HOk X.prog X.w H s.heap
  len : σ.length = X.N.length

section
variable {X : Cx} {pins : List (Addr × Obj)} {σ : List (Option V)} {H H' : Hp} {s : Shared} {h' : Heap}

theorem Cx.Ok.nofr (ok : X.Ok) {b : Addr} {o : Obj} (e : X.base.get? b = some o) : b ∉ X.fs := fun hb => by
  have := (ok.funs.mem hb).1
  rw [e] at this; cases this
theorem Inv.bs (I : Inv X pins σ H s) : ∀ b o, X.base.get? b = some o → s.heap.get? b = some o ∧ H b = none := fun b o e =>
  ⟨I.base.keep b o (I.ok.bs b o e).1 (I.ok.bs b o e).2 (I.ok.nofr e) (I.ok.noex b o e), I.base.free b o (I.ok.bs b o e).1 (I.ok.bs b o e).2 (I.ok.noex b o e)⟩
theorem Inv.bk (I : Inv X pins σ H s) : ∀ b o, X.base.get? b = some o → s.heap.get? b = some o := fun b o e => (I.bs b o e).1
theorem Inv.mod (I : Inv X pins σ H s) : Mod X.K X.mg X.base := I.ok.mod
theorem Inv.kIn (I : Inv X pins σ H s) : X.K.In s.heap := I.ok.mod.kin.keeps I.bk
theorem Inv.lt (I : Inv X pins σ H s) : X.env.locals < s.heap.objs.size := let ⟨_, hn, _⟩ := I.loc; hn.lt
theorem Inv.sz (I : Inv X pins σ H s) : X.s₀.heap.objs.size ≤ s.heap.objs.size := Nat.le_trans I.ok.above (Nat.le_of_lt I.lt)
theorem Inv.nofs (I : Inv X pins σ H s) {a : Addr} (h : s.heap.objs.size ≤ a) : a ∉ X.fs := fun hb => by
  obtain ⟨_, o, ho, _⟩ := I.ok.funs.mem hb
  exact absurd (Nat.lt_of_lt_of_le (Heap.lt_size ho) (Nat.le_trans I.sz h)) (Nat.lt_irrefl _)
theorem Inv.cne (I : Inv X pins σ H s) : ∀ x c, X.env.cells.lookup x = some c → c ≠ X.env.locals := fun x c e z => by
  obtain ⟨v, o, ho, hd⟩ := I.cell x c e
  obtain ⟨m, ⟨o', es, ep, ho', hd', _⟩, _⟩ := I.loc
  rw [z, ho'] at ho; cases ho; rw [hd'] at hd; cases hd
theorem Inv.funs (I : Inv X pins σ H s) : s.heap.FunFrames X.base X.outer := by
  have all : ∀ (l : List Env), (∀ b ∈ frs l, b ∈ X.fs) → X.s₀.heap.FunFrames X.base l → s.heap.FunFrames X.base l := by
    intro l
    induction l with
    | nil => intro _ _; trivial
    | cons env r ih =>
      intro hs hl
      obtain ⟨hk, ⟨L, o, hf, hn, ho, hd⟩, hr⟩ := hl
      have hL : L ∈ X.fs := hs L (by unfold frs; rw [List.filterMap_cons, hf]; exact List.mem_cons_self)
      obtain ⟨sl, e⟩ := I.base.slot L o ho (I.ok.frf L hL) hL fun z => I.ok.exfs L z hL
      exact ⟨hk, ⟨L, _, hf, hn, e, hd⟩, ih (fun b hb => hs b (by unfold frs; rw [List.filterMap_cons, hf]; exact List.mem_cons_of_mem _ hb)) hr⟩
  exact all X.outer (fun _ hb => hb) I.ok.funs

/-- the frames that run, for a call -/
theorem Inv.stack (I : Inv X pins σ H s) : s.heap.FunFrames X.base X.stack := by
  rcases I.ok.stk with e | ⟨e, hf⟩
  · rw [e]; exact I.funs
  · rw [e]
    obtain ⟨m, hn, _⟩ := I.loc
    refine .cons (by rw [I.ok.kind]; decide) hf hn ?_ I.funs
    exact Heap.get?_none_of_le (Nat.le_trans I.ok.bsz I.ok.above)
theorem Inv.stkSub (I : Inv X pins σ H s) : ∀ b ∈ frs X.stack, b ∈ X.env.locals :: X.fs := fun b hb => by
  rcases I.ok.stk with e | ⟨e, hf⟩
  · rw [e] at hb; exact List.mem_cons_of_mem _ hb
  · rw [e] at hb
    unfold frs at hb
    rw [List.filterMap_cons, hf] at hb
    exact hb
theorem Inv.stkFree (I : Inv X pins σ H s) : ∀ b ∈ frs X.stack, H b = none := fun b hb => by
  rcases List.mem_cons.mp (I.stkSub b hb) with e | hb
  · rw [e]; exact I.free
  · obtain ⟨_, o, ho, _⟩ := I.ok.funs.mem hb
    exact I.base.free b o ho (I.ok.frf b hb) fun z => I.ok.exfs b z hb

/-- THE STEP: the untracked objects but the frame and the records at ch are kept (the callers' frames up to slots), the frame's map is kept, the new abstract heap is held -/
theorem Inv.step {g' : Array GenState} {t' : Nat} {d' : Drawn} {ch : List Addr} (I : Inv X pins σ H s)
    (hch : ∀ b ∈ ch, (b ∈ X.ex ∨ X.s₀.heap.objs.size ≤ b) ∧ b ≠ X.env.locals ∧ (∀ x c, X.env.cells.lookup x = some c → c ≠ b) ∧ ∀ p ∈ X.pn ++ pins, p.1 ≠ b)
    (keep : ∀ b o, b ≠ X.env.locals → b ∉ X.fs → b ∉ ch → s.heap.get? b = some o → H b = none → h'.get? b = some o)
    (slot : ∀ b o, b ≠ X.env.locals → b ∈ X.fs → b ∉ ch → s.heap.get? b = some o → H b = none → ∃ sl, h'.get? b = some { o with slots := sl }) (free : ∀ b o, b ∉ ch → s.heap.get? b = some o → H b = none → H' b = none)
    (there : ∀ b o, b ∉ ch → s.heap.get? b = some o → ∃ o', h'.get? b = some o')
    (tups : ∀ b xs, H b = some (.tup xs) → H' b = some (.tup xs)) (frzs : ∀ b o u, H b = some (.frz o u) → H' b = some (.frz o u)) (tbls : ∀ b ps, H b = some (.tbl ps) → ∃ more, H' b = some (.tbl (ps ++ more)))
    (ns : ∀ m, s.heap.Ns X.env.locals m → h'.Ns X.env.locals m) (hok : HOk X.prog X.w H' h') (hg : AllBare g') :
    Inv X pins σ H' { s with heap := h', gens := g', drawn := d', toks := t' } := by
  have neL : ∀ b o, X.s₀.heap.get? b = some o → b ≠ X.env.locals := fun b o e => Nat.ne_of_lt (Nat.lt_of_lt_of_le (Heap.lt_size e) I.ok.above)
  have neC : ∀ b o, X.s₀.heap.get? b = some o → b ∉ X.ex → b ∉ ch := fun b o e hx hb => by
    rcases (hch b hb).1 with z | z
    · exact hx z
    · exact absurd (Nat.lt_of_lt_of_le (Heap.lt_size e) z) (Nat.lt_irrefl _)
  have cellK : ∀ x c, X.env.cells.lookup x = some c → ∀ v, s.heap.IsCell c v → h'.IsCell c v := fun x c e v ⟨o, ho, hd⟩ => by
    have nch : c ∉ ch := fun z => (hch c z).2.2.1 x c e rfl
    by_cases hc : c ∈ X.fs
    · obtain ⟨sl, q⟩ := slot c o (I.cne x c e) hc nch ho (I.freeC x c e)
      exact ⟨_, q, hd⟩
    · exact ⟨o, keep c o (I.cne x c e) hc nch ho (I.freeC x c e), hd⟩
  refine ⟨I.ok, I.os, hg, ⟨fun b o e n hb hx => ?_, fun b o e n hb hx => ?_, fun b o e n hx => ?_, fun b o e hx => ?_, fun b xs e => tups b xs (I.base.tups b xs e), fun b o xs e => frzs b o xs (I.base.frzs b o xs e), fun b ps e => ?_⟩, ?_, fun x c e => ?_, ?_, fun x c e => ?_, fun p hp => ?_, hok, I.len⟩
  · exact keep b o (neL b o e) hb (neC b o e hx) (I.base.keep b o e n hb hx) (I.base.free b o e n hx)
  · obtain ⟨sl, e1⟩ := I.base.slot b o e n hb hx
    obtain ⟨sl', e2⟩ := slot b _ (neL b o e) hb (neC b o e hx) e1 (I.base.free b o e n hx)
    exact ⟨sl', e2⟩
  · obtain ⟨o', e1⟩ := I.base.there b o e hx
    exact free b o' (neC b o e hx) e1 (I.base.free b o e n hx)
  · obtain ⟨o', e1⟩ := I.base.there b o e hx
    exact there b o' (neC b o e hx) e1
  · obtain ⟨m1, e1⟩ := I.base.tbls b ps e
    obtain ⟨m2, e2⟩ := tbls b _ e1
    exact ⟨m1 ++ m2, by rw [e2, Array.append_assoc]⟩
  · obtain ⟨m, hn, hl⟩ := I.loc
    refine ⟨m, ns m hn, fun i x v e1 e2 e3 => ?_⟩
    obtain ⟨u, r, l⟩ := hl i x v e1 e2 e3
    refine ⟨u, r, ?_⟩
    rcases l with l | ⟨k, c, e, z⟩
    · exact .inl l
    · exact .inr ⟨k, c, e, cellK x c e _ z⟩
  · obtain ⟨v, z⟩ := I.cell x c e
    exact ⟨v, cellK x c e v z⟩
  · obtain ⟨m, ⟨o, _, _, ho, _⟩, _⟩ := I.loc
    exact free _ o (fun z => (hch _ z).2.1 rfl) ho I.free
  · obtain ⟨v, o, ho, hd⟩ := I.cell x c e
    exact free c o (fun z => (hch c z).2.2.1 x c e rfl) ho (I.freeC x c e)
  · obtain ⟨e, n, ne, nf, d⟩ := I.pin p hp
    have nch : p.1 ∉ ch := fun z => (hch p.1 z).2.2.2 p hp rfl
    exact ⟨keep p.1 p.2 ne nf nch e n, free p.1 p.2 nch e n, ne, nf, d⟩
/-- .. where the frame's own object is kept too -/
theorem Inv.un {t' : Nat} (I : Inv X pins σ H s) (u : Un X.fs [] H H' s.heap h') (hok : HOk X.prog X.w H' h') : Inv X pins σ H' { s with heap := h', toks := t' } := by
  obtain ⟨m, ⟨o, es, ep, ho, r⟩, _⟩ := id I.loc
  obtain ⟨sl, hL⟩ := u.any ho I.free (by simp)
  exact I.step (g' := s.gens) (d' := s.drawn) (ch := []) (fun _ z => nomatch z) (fun b o _ hb _ e n => u.keep b o e n hb (by simp)) (fun b o _ hb _ e n => u.slot b o e n hb (by simp)) (fun b o _ e n => u.free b o e n (by simp)) (fun b o _ e => u.there b o e (by simp)) u.tups u.frzs u.tbls (fun m' hm => by
    obtain ⟨o', es', ep', ho', r'⟩ := hm
    rw [ho] at ho'; cases ho'
    exact ⟨_, es', ep', hL, r'⟩) hok I.bare
/-- behind a call (or a comprehension's block): the slots of this frame may have changed too, the records at ch may have turned -/
theorem Inv.call {g' : Array GenState} {t' : Nat} {d' : Drawn} {ch : List Addr} (I : Inv X pins σ H s) (u : Un (frs X.stack) ch H H' s.heap h') (hok : HOk X.prog X.w H' h') (hg : AllBare g')
    (hch : ∀ b ∈ ch, (b ∈ X.ex ∨ X.s₀.heap.objs.size ≤ b) ∧ b ≠ X.env.locals ∧ (∀ x c, X.env.cells.lookup x = some c → c ≠ b) ∧ ∀ p ∈ X.pn ++ pins, p.1 ≠ b) :
    Inv X pins σ H' { s with heap := h', gens := g', drawn := d', toks := t' } := by
  obtain ⟨m, ⟨o, es, ep, ho, r⟩, _⟩ := id I.loc
  obtain ⟨sl, hL⟩ := u.any ho I.free fun z => (hch _ z).2.1 rfl
  exact I.step (ch := ch) hch (fun b o hL hb hc e n => u.keep b o e n (fun z => (List.mem_cons.mp (I.stkSub b z)).elim hL hb) hc) (fun b o _ _ hc e n => u.any e n hc) (fun b o hc e n => u.free b o e n hc) (fun b o hc e => u.there b o e hc) u.tups u.frzs u.tbls (fun m' hm => by
    obtain ⟨o', es', ep', ho', r'⟩ := hm
    rw [ho] at ho'; cases ho'
    exact ⟨_, es', ep', hL, r'⟩) hok hg
/-- an untracked record of ours (an iterator) has turned -/
theorem Inv.turned {t' : Nat} {it : Addr} (I : Inv X pins σ H s) (k : ∀ b o, b ≠ it → s.heap.get? b = some o → h'.get? b = some o) (hn : H it = none) (hL : it ≠ X.env.locals)
    (h1 : it ∈ X.ex ∨ X.s₀.heap.objs.size ≤ it) (h2 : ∀ x c, X.env.cells.lookup x = some c → c ≠ it) (h3 : ∀ p ∈ X.pn ++ pins, p.1 ≠ it) : Inv X pins σ H { s with heap := h', toks := t' } := by
  have nit : ∀ b u, H b = some u → b ≠ it := fun b u e z => by rw [z, hn] at e; cases e
  refine I.step (g' := s.gens) (d' := s.drawn) (ch := [it]) (fun b hb => ?_) (fun b o _ _ hc e _ => k b o (fun z => hc (by simp [z])) e) (fun b o _ _ hc e _ => ⟨o.slots, k b o (fun z => hc (by simp [z])) e⟩) (fun _ _ _ _ n => n)
    (fun b o hc e => ⟨o, k b o (fun z => hc (by simp [z])) e⟩) (fun _ _ e => e) (fun _ _ _ e => e) (fun b ps e => ⟨#[], by rw [e]; simp⟩) (fun m hm => ?_) (fun b u e => ?_) I.bare
  · have e : b = it := by simpa using hb
    subst e
    exact ⟨h1, hL, h2, h3⟩
  · obtain ⟨o, es, ep, ho, r⟩ := hm
    exact ⟨o, es, ep, k _ o (Ne.symm hL) ho, r⟩
  · refine (I.hok b u e).stay (fun c v hc q => k c v ?_ q) (fun _ q => q) fun _ _ q => q
    rcases hc with z | z
    · rw [z]; exact nit b u e
    · exact nit c _ z
theorem Inv.tok (I : Inv X pins σ H s) (t : Nat) : Inv X pins σ H { s with toks := t } := I.un (h' := s.heap) (t' := t) Un.refl I.hok
/-- all objects kept -/
theorem Inv.kept {t' : Nat} (I : Inv X pins σ H s) (k : ∀ b u, s.heap.get? b = some u → h'.get? b = some u) : Inv X pins σ H { s with heap := h', toks := t' } := I.un (Un.kept k) (I.hok.kept k)
/-- a new object laid and tracked -/
theorem Inv.laid {a : Addr} {o : HO} {t' : Nat} (I : Inv X pins σ H s) (k : ∀ b u, s.heap.get? b = some u → h'.get? b = some u) (hp : s.heap.objs.size ≤ a) (new : ObjOk X.prog X.w (upd H a o) h' a o) :
    Inv X pins σ (upd H a o) { s with heap := h', toks := t' } := I.un (Un.laid k hp (I.hok.fresh hp)) (I.hok.laid k hp new)
/-- an object written -/
theorem Inv.write {x e : Addr} {o : HO} {t' : Nat} (I : Inv X pins σ H s) (mu : Mut (H x)) (he : e = x ∨ H e = some (.own x)) (k : ∀ b u, b ≠ e → s.heap.get? b = some u → h'.get? b = some u) (heo : ∃ u, h'.get? e = some u)
    (new : ObjOk X.prog X.w (upd H x o) h' x o) : Inv X pins σ (upd H x o) { s with heap := h', toks := t' } := I.un (Un.write mu he k heo) (I.hok.write mu he k heo new)
theorem Inv.pins_of {pins' : List (Addr × Obj)} (I : Inv X pins σ H s) (h : ∀ p ∈ pins', s.heap.get? p.1 = some p.2 ∧ H p.1 = none ∧ p.1 ≠ X.env.locals ∧ p.1 ∉ X.fs ∧ ∀ v, p.2.data ≠ .cell v) : Inv X pins' σ H s :=
  ⟨I.ok, I.os, I.bare, I.base, I.loc, I.cell, I.free, I.freeC, fun p hp => (List.mem_append.mp hp).elim (fun z => I.pin p (List.mem_append_left _ z)) (h p), I.hok, I.len⟩

theorem nodup_ix {N : List Str} (hN : N.Nodup) {i j : Nat} {x : Str} (a : N[i]? = some x) (b : N[j]? = some x) : i = j := by
  obtain ⟨h1, e1⟩ := List.getElem?_eq_some_iff.mp a
  obtain ⟨h2, e2⟩ := List.getElem?_eq_some_iff.mp b
  exact (List.getElem_inj hN).mp (e1.trans e2.symm)

/-- a name is stored; what changed -/
theorem store_ok2 {M : Model} {A : Around} {E : Value → Shared → Prop} {i : Nat} {x : Str} {v : V} {u : Value} {Q : Unit → Shared → Prop} (I : Inv X pins σ H s) (hN : X.N.Nodup) (hi : X.N[i]? = some x) (hx : Loc X.env.scope x) (r : RelV v u)
    (h : ∀ s', Inv X pins (σ.set i (some v)) H s' → (∃ a, Heap.SameBut a s.heap s'.heap ∧ (a = X.env.locals ∨ X.env.cells.lookup x = some a)) → Q () s') (hf : X.fn x = true ∨ X.env.scope.names.lookup x = some .local := by first | exact .inl rfl | exact .inr rfl | assumption) : wpAny M A (storeName X.env x u) Q E s := by
  obtain ⟨m, hn, hl⟩ := id I.loc
  have hcls : (X.env.scope.kind == .class || (X.env.scope.kind == .module && X.env.locals != X.env.globals)) = false := by rw [I.ok.kind]; rfl
  have hiσ : i < σ.length := by rw [I.len]; exact (List.getElem?_eq_some_iff.mp hi).1
  have cne := I.cne
  have tracked : ∀ {a : Addr} {h' : Heap}, (∃ o, s.heap.get? a = some o ∧ H a = none) → Heap.SameBut a s.heap h' → HOk X.prog X.w H h' := fun {a h'} ha hs b ob e => by
    obtain ⟨_, _, hfree⟩ := ha
    refine (I.hok b ob e).stay (fun c w' hc q => (hs.2 c ?_).trans q) (fun _ q => q) fun _ _ q => q
    rintro rfl
    rcases hc with rfl | hc
    · rw [hfree] at e; cases e
    · rw [hfree] at hc; cases hc
  rcases hx with hk | hk
  · refine wpAny_storeName_local hk hn (fun h' hn' hs => ?_) hcls
    obtain ⟨oL, _, _, hoL, _⟩ := id hn
    refine h _ ⟨I.ok, I.os, I.bare, ⟨fun b o e n hb hx => ?_, fun b o e n hb hx => ?_, I.base.free, fun b o e hx => ?_, I.base.tups, I.base.frzs, I.base.tbls⟩, ⟨_, hn', fun j y v' e1 e2 e3 => ?_⟩, fun y c e => ?_, I.free, I.freeC, fun p hp => ?_, tracked ⟨oL, hoL, I.free⟩ hs, by simpa using I.len⟩ ⟨_, hs, .inl rfl⟩
    · exact (hs.2 b (Nat.ne_of_lt (Nat.lt_of_lt_of_le (Heap.lt_size e) I.ok.above))).trans (I.base.keep b o e n hb hx)
    · obtain ⟨sl, e1⟩ := I.base.slot b o e n hb hx
      exact ⟨sl, (hs.2 b (Nat.ne_of_lt (Nat.lt_of_lt_of_le (Heap.lt_size e) I.ok.above))).trans e1⟩
    · obtain ⟨o', e1⟩ := I.base.there b o e hx
      exact ⟨o', (hs.2 b (Nat.ne_of_lt (Nat.lt_of_lt_of_le (Heap.lt_size e) I.ok.above))).trans e1⟩
    · by_cases hj : j = i
      · subst hj
        rw [hi] at e1; cases e1
        rw [List.getElem?_set_self hiσ] at e2
        cases e2
        exact ⟨u, r, .inl ⟨hk, by simp⟩⟩
      · rw [List.getElem?_set_ne (Ne.symm hj)] at e2
        obtain ⟨u', r', q⟩ := hl j y v' e1 e2 e3
        refine ⟨u', r', ?_⟩
        rcases q with ⟨k, e⟩ | ⟨k, c, e, z⟩
        · refine .inl ⟨k, ?_⟩
          have : y ≠ x := fun e => hj (nodup_ix hN e1 (e ▸ hi))
          simp [this, e]
        · exact .inr ⟨k, c, e, z.sameBut hs (cne y c e)⟩
    · obtain ⟨w', z⟩ := I.cell y c e
      exact ⟨w', z.sameBut hs (cne y c e)⟩
    · obtain ⟨e, n, ne, nf, d⟩ := I.pin p hp
      exact ⟨(hs.2 p.1 ne).trans e, n, ne, nf, d⟩
  · have hfn : X.fn x = true := by
      rcases hf with z | z
      · exact z
      · rw [z] at hk; cases hk
    obtain ⟨c, hc⟩ := I.ok.has x (.inl hk)
    obtain ⟨w', z⟩ := I.cell x c hc
    refine wpAny_storeName_cell I.ok.kind hk hc z (fun h' hc' hs => ?_)
    obtain ⟨oc, hoc, hocd⟩ := id z
    refine h { s with heap := h' } ⟨I.ok, I.os, I.bare, ⟨fun b o e n hb hx => ?_, fun b o e n hb hx => ?_, I.base.free, fun b o e hx => ?_, I.base.tups, I.base.frzs, I.base.tbls⟩, ⟨m, hn.sameBut hs (Ne.symm (cne x c hc)), fun j y v' e1 e2 e3 => ?_⟩, fun y c' e => ?_, I.free, I.freeC, fun p hp => ?_, tracked ⟨oc, hoc, I.freeC x c hc⟩ hs, by simpa using I.len⟩ ⟨c, hs, .inr hc⟩
    · exact (hs.2 b (Nat.ne_of_lt (Nat.lt_of_lt_of_le (Heap.lt_size e) (I.ok.cab x c hfn hc)))).trans (I.base.keep b o e n hb hx)
    · obtain ⟨sl, e1⟩ := I.base.slot b o e n hb hx
      exact ⟨sl, (hs.2 b (Nat.ne_of_lt (Nat.lt_of_lt_of_le (Heap.lt_size e) (I.ok.cab x c hfn hc)))).trans e1⟩
    · obtain ⟨o', e1⟩ := I.base.there b o e hx
      exact ⟨o', (hs.2 b (Nat.ne_of_lt (Nat.lt_of_lt_of_le (Heap.lt_size e) (I.ok.cab x c hfn hc)))).trans e1⟩
    · by_cases hj : j = i
      · subst hj
        rw [hi] at e1; cases e1
        rw [List.getElem?_set_self hiσ] at e2
        cases e2
        exact ⟨u, r, .inr ⟨.inl hk, c, hc, hc'⟩⟩
      · rw [List.getElem?_set_ne (Ne.symm hj)] at e2
        obtain ⟨u', r', q⟩ := hl j y v' e1 e2 e3
        refine ⟨u', r', ?_⟩
        rcases q with q | ⟨k, c', e, z'⟩
        · exact .inl q
        · refine .inr ⟨k, c', e, z'.sameBut hs ?_⟩
          rintro rfl
          exact hj (nodup_ix hN e1 (I.ok.inj _ _ _ e hc ▸ hi))
    · by_cases hcc : c' = c
      · subst hcc; exact ⟨_, hc'⟩
      · obtain ⟨w2, z2⟩ := I.cell y c' e
        exact ⟨w2, z2.sameBut hs hcc⟩
    · obtain ⟨e, n, ne, nf, d⟩ := I.pin p hp
      refine ⟨(hs.2 p.1 ?_).trans e, n, ne, nf, d⟩
      intro q
      rw [q, hoc] at e
      have q' : oc = p.2 := Option.some.inj e
      exact d w' (by rw [← q']; exact hocd)
theorem store_ok {M : Model} {A : Around} {E : Value → Shared → Prop} {i : Nat} {x : Str} {v : V} {u : Value} {Q : Unit → Shared → Prop} (I : Inv X pins σ H s) (hN : X.N.Nodup) (hi : X.N[i]? = some x) (hx : Loc X.env.scope x) (r : RelV v u)
    (h : ∀ s', Inv X pins (σ.set i (some v)) H s' → Q () s') (hf : X.fn x = true ∨ X.env.scope.names.lookup x = some .local := by first | exact .inl rfl | exact .inr rfl | assumption) : wpAny M A (storeName X.env x u) Q E s :=
  store_ok2 I hN hi hx r (fun s' I' _ => h s' I') hf
/-- behind a call or a block, the state as it is -/
theorem Inv.call' {s' : Shared} {ch : List Addr} (I : Inv X pins σ H s) (ho : s'.os = s.os) (u : Un (frs X.stack) ch H H' s.heap s'.heap) (hok : HOk X.prog X.w H' s'.heap) (hg : AllBare s'.gens)
    (hch : ∀ b ∈ ch, (b ∈ X.ex ∨ X.s₀.heap.objs.size ≤ b) ∧ b ≠ X.env.locals ∧ (∀ x c, X.env.cells.lookup x = some c → c ≠ b) ∧ ∀ p ∈ X.pn ++ pins, p.1 ≠ b) : Inv X pins σ H' s' := by
  obtain ⟨h', g', d', t', o'⟩ := s'
  have e : o' = s.os := ho
  subst e
  exact I.call (g' := g') (t' := t') (d' := d') u hok hg hch
end

/-! ### the judgements -/
/-- an exception: its class, its own dict's address (where it has one), the abstract heap behind it -/
abbrev XK := Value → Option Addr → Hp → Prop
abbrev St := List (Option V)
abbrev VK := V → Hp → Prop
/-- an expression's reading; a test's; an argument list's -/
abbrev TE := St → Hp → VK → Prop
abbrev TT := St → Hp → (Bool → Hp → Prop) → Prop
abbrev TA := St → Hp → (List V → Hp → Prop) → Prop
/-- what is wanted behind a statement -/
structure Ends where
  nx : St → Hp → Prop
  rt : VK
  bk : St → Hp → Prop := fun _ _ => False
  ct : St → Hp → Prop := fun _ _ => False
abbrev TS := Ends → St → Hp → Prop

def EP (X : Cx) (pins : List (Addr × Obj)) (σ : St) (Q : VK) (u : Value) (s' : Shared) : Prop := ∃ v H', Inv X pins σ H' s' ∧ RelV v u ∧ Q v H'
def TP (X : Cx) (pins : List (Addr × Obj)) (σ : St) (Q : Bool → Hp → Prop) (b : Bool) (s' : Shared) : Prop := ∃ H', Inv X pins σ H' s' ∧ Q b H'
def AP (X : Cx) (pins : List (Addr × Obj)) (σ : St) (Q : List V → Hp → Prop) (us : List Value) (s' : Shared) : Prop := ∃ vs H', Inv X pins σ H' s' ∧ Vals vs us ∧ Q vs H'
def SP (X : Cx) (pins : List (Addr × Obj)) (D : Ends) (f : Flow) (s' : Shared) : Prop :=
  match f with
  | .next => ∃ σ' H', Inv X pins σ' H' s' ∧ D.nx σ' H'
  | .brk => ∃ σ' H', Inv X pins σ' H' s' ∧ D.bk σ' H'
  | .cont => ∃ σ' H', Inv X pins σ' H' s' ∧ D.ct σ' H'
  | .ret u => ∃ v σ' H', Inv X pins σ' H' s' ∧ RelV v u ∧ D.rt v H'

def PE (X : Cx) (e : Expr) (t : TE) : Prop :=
  ∀ (pins : List (Addr × Obj)) (s : Shared) (σ : St) (H : Hp) (Q : VK), Inv X pins σ H s → t σ H Q → wpAny (model X.prog X.w) X.A (eval e X.env) (EP X pins σ Q) X.xe s
def PT (X : Cx) (e : Expr) (t : TT) : Prop :=
  ∀ (pins : List (Addr × Obj)) (s : Shared) (σ : St) (H : Hp) (Q : Bool → Hp → Prop), Inv X pins σ H s → t σ H Q → wpAny (model X.prog X.w) X.A (isTrue e X.env (eval e X.env)) (TP X pins σ Q) X.xe s
/-- a test whatever its 'whole' is (and, or) -/
def PW (X : Cx) (e : Expr) (t : TT) : Prop :=
  ∀ (whole : Sem Value) (pins : List (Addr × Obj)) (s : Shared) (σ : St) (H : Hp) (Q : Bool → Hp → Prop), Inv X pins σ H s → t σ H Q → wpAny (model X.prog X.w) X.A (isTrue e X.env whole) (TP X pins σ Q) X.xe s
theorem PW.pt {X : Cx} {e : Expr} {t : TT} (h : PW X e t) : PT X e t := h _
/-- an argument list (no star), from the left -/
def PA (X : Cx) (es : List Expr) (t : TA) : Prop :=
  ∀ (pos : Pos) (pins : List (Addr × Obj)) (s : Shared) (σ : St) (H : Hp) (Q : List V → Hp → Prop), Inv X pins σ H s → t σ H Q → wpAny (model X.prog X.w) X.A (spliced (backTo pos (starEach es X.env))) (AP X pins σ Q) X.xe s
def PS (X : Cx) (st : Stmt) (t : TS) : Prop :=
  ∀ (pins : List (Addr × Obj)) (s : Shared) (σ : St) (H : Hp) (D : Ends), Inv X pins σ H s → t D σ H → wpAny (model X.prog X.w) X.A (exec st X.env) (SP X pins D) X.xe s
def PSs (X : Cx) (st : List Stmt) (t : TS) : Prop :=
  ∀ (pins : List (Addr × Obj)) (s : Shared) (σ : St) (H : Hp) (D : Ends), Inv X pins σ H s → t D σ H → wpAny (model X.prog X.w) X.A (execs st X.env) (SP X pins D) X.xe s
/-- weaken the end -/
theorem thn {α : Type} {t : Sem α} {Q Q' : α → Shared → Prop} {M : Model} {A : Around} {E : Value → Shared → Prop} {s : Shared} (h : wpAny M A t Q E s) (hQ : ∀ a s, Q a s → Q' a s) : wpAny M A t Q' E s := wpAny_mono h hQ fun _ _ x => x
end L2

namespace L2
open PySem PySem.Spec PyProof.Rows
section
variable {X : Cx}

/-- two expressions in a row -/
theorem bin {a b : Expr} {ta tb : TE} (ha : PE X a ta) (hb : PE X b tb) {pins : List (Addr × Obj)} {s : Shared} {σ : St} {H : Hp} {R : V → V → Hp → Prop} (I : Inv X pins σ H s) (h : ta σ H fun x H1 => tb σ H1 fun y H2 => R x y H2)
    {α : Type} {Q : α → Shared → Prop} {f : Value → Value → Sem α}
    (hf : ∀ v u s2 x y H2, Inv X pins σ H2 s2 → RelV x v → RelV y u → R x y H2 → wpAny (model X.prog X.w) X.A (f v u) Q X.xe s2) :
    wpAny (model X.prog X.w) X.A (eval a X.env) (fun v s₁ => wpAny (model X.prog X.w) X.A (eval b X.env) (fun u s₂ => wpAny (model X.prog X.w) X.A (f v u) Q X.xe s₂) X.xe s₁) X.xe s := by
  refine thn (ha pins s σ H _ I h) fun v s1 ⟨x, H1, I1, r1, q1⟩ => ?_
  refine thn (hb pins s1 σ H1 _ I1 q1) fun u s2 ⟨y, H2, I2, r2, q2⟩ => ?_
  exact hf v u s2 x y H2 I2 r1 r2 q2

/-! ### names and constants -/
def tVar (i : Nat) : TE := fun σ H Q => ∃ v, σ[i]? = some (some v) ∧ Q v H
def tC (v : V) : TE := fun _ H Q => Q v H
theorem pe_var {i : Nat} {x : Str} {pos : Pos} (hN : X.N[i]? = some x) (hv : Vis X.env.scope x) (hd : (x == ("__debug__" : Str)) = false := by decide) (hcd : (x == ("__classdict__" : Str)) = false := by decide) : PE X (.Name x pos) (tVar i) := by
  intro pins s σ H Q I h
  obtain ⟨v, e, h⟩ := h
  obtain ⟨m, hn, hl⟩ := I.loc
  obtain ⟨u, r, l⟩ := hl i x v hN e hv
  have fin : EP X pins σ Q u s := ⟨v, H, I, r, h⟩
  rcases l with ⟨hk, hm⟩ | ⟨hk, c, hc, hcell⟩
  · exact wpAny_Name (wpAny_loadName_local I.ok.kind hk hn hm fin) hd
  · rcases hk with hk | hk
    · exact wpAny_Name (wpAny_loadName_cell I.ok.kind hk hc hcell fin) hd
    · exact wpAny_Name (wpAny_loadName_free I.ok.kind hk hc hcell fin hcd) hd
theorem pe_int {i j pos} : PE X (.Constant (.int i) j pos) (tC (.int i)) := fun _ _ _ H _ I h => wpAny_Constant_int ⟨.int i, H, I.tok _, ⟨_, rfl⟩, h⟩
theorem pe_bl {b j pos} : PE X (.Constant (.bool b) j pos) (tC (.bl b)) := fun _ _ _ H _ I h => Constant_bool ⟨.bl b, H, I, rfl, h⟩
theorem pe_non {j pos} : PE X (.Constant .none j pos) (tC .non) := fun _ _ _ H _ I h => Constant_none ⟨.non, H, I, rfl, h⟩
theorem pe_str {x j pos} : PE X (.Constant (.str x) j pos) (tC (.str x)) := fun _ _ _ H _ I h => Calls.Constant_str ⟨.str x, H, I.tok _, ⟨_, rfl⟩, h⟩

/-- a global name of the def -/
def Gl (X : Cx) (x : Str) : Prop := X.env.kindOf x = some .globalImplicit
theorem ld_glob {E : Value → Shared → Prop} {pins : List (Addr × Obj)} {s : Shared} {σ : St} {H : Hp} {x : Str} {u : Value} {pos : Pos} {Q : Value → Shared → Prop} (I : Inv X pins σ H s) (hg : Gl X x) (hm : X.mg x = some u) (h : Q u s)
    (hd : (x == ("__debug__" : Str)) = false := by decide) : wpAny (model X.prog X.w) X.A (eval (.Name x pos) X.env) Q E s :=
  Calls.Name_function_global I.ok.kind hg (Calls.loadGlobal_global (by rw [I.ok.glob]; exact I.mod.glob.keeps I.bk) hm h) hd
theorem ld_blt {E : Value → Shared → Prop} {pins : List (Addr × Obj)} {s : Shared} {σ : St} {H : Hp} {x : Str} {u : Value} {pos : Pos} {Q : Value → Shared → Prop} (I : Inv X pins σ H s) (hg : Gl X x) (hm : X.mg x = none) (hv : bootBuiltins x = some u) (h : Q u s)
    (hn : x ≠ "__name__" := by decide) (hd : (x == ("__debug__" : Str)) = false := by decide) : wpAny (model X.prog X.w) X.A (eval (.Name x pos) X.env) Q E s := by
  obtain ⟨mb, h1, h2⟩ := I.mod.blt
  exact Calls.Name_function_global I.ok.kind hg (Calls.loadGlobal_builtin (by rw [I.ok.glob]; exact I.mod.glob.keeps I.bk) hm (by rw [I.ok.blt]; exact h1.keeps I.bk) ((h2 x hn).trans hv) h) hd
/-- a module's constant, a class, a function, as a value -/
theorem pe_glob {x : Str} {v : V} {u : Value} {pos : Pos} (hg : Gl X x) (hm : X.mg x = some u) (r : RelV v u) (hd : (x == ("__debug__" : Str)) = false := by decide) : PE X (.Name x pos) (tC v) :=
  fun _ _ _ H _ I h => ld_glob I hg hm ⟨v, H, I, r, h⟩ hd
theorem pe_bltn {x : Str} {v : V} {u : Value} {pos : Pos} (hg : Gl X x) (hm : X.mg x = none) (hv : bootBuiltins x = some u) (r : RelV v u) (hn : x ≠ "__name__" := by decide) (hd : (x == ("__debug__" : Str)) = false := by decide) : PE X (.Name x pos) (tC v) :=
  fun _ _ _ H _ I h => ld_blt I hg hm hv ⟨v, H, I, r, h⟩ hn hd

/-! ### arithmetic -/
/-- two ints -/
def t2I (ta tb : TE) (k : Int → Int → Hp → Prop) : St → Hp → Prop := fun σ H => ta σ H fun x H1 => tb σ H1 fun y H2 => ∃ i j, x = .int i ∧ y = .int j ∧ k i j H2
def tAdd (ta tb : TE) : TE := fun σ H Q => t2I ta tb (fun i j H2 => Q (.int (i + j)) H2) σ H
def tSub (ta tb : TE) : TE := fun σ H Q => t2I ta tb (fun i j H2 => Q (.int (i - j)) H2) σ H
/-- the left factor below 2^64 -/
def tMul (ta tb : TE) : TE := fun σ H Q => t2I ta tb (fun i j H2 => (-(2 ^ 64) < i ∧ i < 2 ^ 64) ∧ Q (.int (i * j)) H2) σ H
variable {a b : Expr} {ta tb : TE} {pos : Pos}
/-! ### comparisons -/
def PC (X : Cx) (op : CmpOp) (a b : Expr) (t : TE) : Prop :=
  ∀ (pins : List (Addr × Obj)) (s : Shared) (σ : St) (H : Hp) (Q : VK), Inv X pins σ H s → t σ H Q →
    wpAny (model X.prog X.w) X.A (eval a X.env) (fun v s₁ => wpAny (model X.prog X.w) X.A (eval b X.env) (fun u s₂ => wpAny (model X.prog X.w) X.A (compareOp op v u) (EP X pins σ Q) X.xe s₂) X.xe s₁) X.xe s
def tCmp (p : Int → Int → Bool) (ta tb : TE) : TE := fun σ H Q => t2I ta tb (fun i j H2 => Q (.bl (p i j)) H2) σ H
abbrev tLt : TE → TE → TE := tCmp fun i j => decide (i < j)
abbrev tLe : TE → TE → TE := tCmp fun i j => decide (i ≤ j)
abbrev tGt : TE → TE → TE := tCmp fun i j => decide (j < i)
abbrev tGe : TE → TE → TE := tCmp fun i j => decide (j ≤ i)
abbrev tEqI : TE → TE → TE := tCmp fun i j => decide (i = j)
abbrev tNeI : TE → TE → TE := tCmp fun i j => !decide (i = j)
/-- is None -/
def tIsN (ta : TE) : TE := fun σ H Q => ta σ H fun x H1 => Q (.bl (decide (x = .non))) H1
def tNotN (ta : TE) : TE := fun σ H Q => ta σ H fun x H1 => Q (.bl (!decide (x = .non))) H1
/-- a comparison as a value, as a test -/
def tB (t : TE) : TT := fun σ H Q => t σ H fun x H1 => ∃ c, x = .bl c ∧ Q c H1
theorem pt_cmp {op : CmpOp} {t : TE} (h : PC X op a b t) (h1 : behindInMarks op b = false := by first | exact nobehind _ (by decide) (by decide) | rfl) : PT X (.Compare a [op] [b] pos) (tB t) := by
  intro pins s σ H Q I hw
  refine wpAny_isTrue_Compare1 (thn (h pins s σ H _ I hw) fun v s1 h1 => thn h1 fun u s2 h2 => thn h2 fun c s3 ⟨x, H1, I1, r1, q1⟩ => ?_) h1
  obtain ⟨d, rfl, q⟩ := q1
  cases r1
  exact wpAny_truthy_bool ⟨H1, I1, q⟩
/-- an expression whose value is a bool, as a test -/
theorem pt_val {e : Expr} {t : TE} (h : PE X e t) (he : ∀ whole, isTrue e X.env whole = (do let v ← whole; standAt e.pos; holding [v] (truthy v)) := by intro _; rfl) : PT X e (tB t) := by
  intro pins s σ H Q I hw
  refine isTrue_plain (thn (h pins s σ H _ I hw) fun v s1 ⟨x, H1, I1, r1, q1⟩ => ?_) (he _)
  obtain ⟨d, rfl, q⟩ := q1
  cases r1
  exact wpAny_truthy_bool ⟨H1, I1, q⟩

/-! ### and, or, not -/
variable {tA tB' : TT} {rest : List Expr}
def tAnd (t u : TT) : TT := fun σ H Q => t σ H fun c H1 => if c = true then u σ H1 Q else Q false H1
def tOr (t u : TT) : TT := fun σ H Q => t σ H fun c H1 => if c = true then Q true H1 else u σ H1 Q
def tNot (t : TT) : TT := fun σ H Q => t σ H fun c H1 => Q (!c) H1
theorem pw_and1 (ha : PT X a tA) : PW X (.BoolOp .And [a] pos) tA := by
  intro wh pins s σ H Q I h
  refine isTrue_and (thn (ha pins s σ H Q I h) fun c s1 e => ?_)
  cases c with
  | true => exact isTrue_and_nil e
  | false => exact e
theorem pw_or1 (ha : PT X a tA) : PW X (.BoolOp .Or [a] pos) tA := by
  intro wh pins s σ H Q I h
  refine isTrue_or (thn (ha pins s σ H Q I h) fun c s1 e => ?_)
  cases c with
  | false => exact isTrue_or_nil e
  | true => exact e
theorem pw_and (ha : PT X a tA) (hb : PW X (.BoolOp .And (b :: rest) pos) tB') : PW X (.BoolOp .And (a :: b :: rest) pos) (tAnd tA tB') := by
  intro wh pins s σ H Q I h
  refine isTrue_and (thn (ha pins s σ H _ I h) fun c s1 ⟨H1, I1, q1⟩ => ?_)
  cases c with
  | true => exact hb wh pins s1 σ H1 Q I1 q1
  | false => exact ⟨H1, I1, q1⟩
theorem pw_or (ha : PT X a tA) (hb : PW X (.BoolOp .Or (b :: rest) pos) tB') : PW X (.BoolOp .Or (a :: b :: rest) pos) (tOr tA tB') := by
  intro wh pins s σ H Q I h
  refine isTrue_or (thn (ha pins s σ H _ I h) fun c s1 ⟨H1, I1, q1⟩ => ?_)
  cases c with
  | true => exact ⟨H1, I1, q1⟩
  | false => exact hb wh pins s1 σ H1 Q I1 q1
theorem pt_not (ha : PT X a tA) : PT X (.UnaryOp .Not a pos) (tNot tA) := by
  intro pins s σ H Q I h
  exact isTrue_not (ha pins s σ H (fun c H1 => Q (!c) H1) I h)
/-- .. as values (bools) -/
def tAndV (ta tb : TE) : TE := fun σ H Q => ta σ H fun x H1 => ∃ c, x = .bl c ∧ if c = true then tb σ H1 Q else Q (.bl false) H1
def tOrV (ta tb : TE) : TE := fun σ H Q => ta σ H fun x H1 => ∃ c, x = .bl c ∧ if c = true then Q (.bl true) H1 else tb σ H1 Q
def tNotV (ta : TE) : TE := fun σ H Q => ta σ H fun x H1 => ∃ c, x = .bl c ∧ Q (.bl (!c)) H1
theorem pe_one {op} {t : TE} (h : PE X a t) : PE X (.BoolOp op [a] pos) t := fun pins s σ H Q I hw => BoolOp_one (h pins s σ H Q I hw)
theorem pe_and (ha : PE X a ta) (hb : PE X (.BoolOp .And (b :: rest) pos) tb) : PE X (.BoolOp .And (a :: b :: rest) pos) (tAndV ta tb) := by
  intro pins s σ H Q I h
  refine BoolOp_and (thn (ha pins s σ H _ I h) fun v s1 ⟨x, H1, I1, r1, q1⟩ => ?_)
  obtain ⟨c, rfl, q1⟩ := q1
  cases r1
  refine wpAny_truthy_bool ?_
  cases c with
  | true => exact hb pins s1 σ H1 Q I1 q1
  | false => exact ⟨.bl false, H1, I1, rfl, q1⟩
theorem pe_not (ha : PE X a ta) : PE X (.UnaryOp .Not a pos) (tNotV ta) := by
  intro pins s σ H Q I h
  refine UnaryOp_ (thn (ha pins s σ H _ I h) fun v s1 ⟨x, H1, I1, r1, q1⟩ => ?_)
  obtain ⟨c, rfl, q1⟩ := q1
  cases r1
  exact not_of (wpAny_truthy_bool ⟨.bl (!c), H1, I1, rfl, q1⟩)
/-- a if t else b -/
def tIf (t : TT) (ta tb : TE) : TE := fun σ H Q => t σ H fun c H1 => if c = true then ta σ H1 Q else tb σ H1 Q
end
end L2

namespace L2
open PySem PySem.Spec PyProof.Rows

/-! ### a list, a tuple that is read: tracked, frozen, or an object of the module -/
def SqL (K : PySem.W.Frag) (H : Hp) (a : Addr) (xs : List V) : Prop :=
  Rd H a (.lst xs) ∨
    ∃ (o : Obj) (its : Array Value) (n : Nat), K.lookup a = some o ∧ o.cls = .type "list" ∧ o.dict = none ∧ o.data = .seq its n ∧ its.size ≤ sizeLine ∧ Vals xs its.toList
def SqT (K : PySem.W.Frag) (H : Hp) (a : Addr) (xs : List V) : Prop :=
  Rd H a (.tup xs) ∨
    ∃ (o : Obj) (its : Array Value) (n : Nat), K.lookup a = some o ∧ o.cls = .type "tuple" ∧ o.data = .seq its n ∧ its.size ≤ sizeLine ∧ Vals xs its.toList
def absV : Value → Option V
  | .none => some .non
  | .bool b => some (.bl b)
  | .int i _ => some (.int i)
  | .str x _ => some (.str x)
  | .bytes b _ => some (.byt b)
  | .float b _ => some (.flt b)
  | .ref a => some (.ref a)
  | .type n => some (.ty n)
  | _ => none
theorem RelV.abs {x : V} {u : Value} (r : RelV x u) : absV u = some x := by
  cases x with
  | non => cases r; rfl
  | bl _ => cases r; rfl
  | int _ => obtain ⟨t, rfl⟩ := r; rfl
  | str _ => obtain ⟨t, rfl⟩ := r; rfl
  | byt _ => obtain ⟨t, rfl⟩ := r; rfl
  | flt _ => obtain ⟨t, rfl⟩ := r; rfl
  | ref _ => cases r; rfl
  | ty _ => cases r; rfl
theorem RelV.inj {x y : V} {u : Value} (r : RelV x u) (q : RelV y u) : x = y := Option.some.inj (r.abs.symm.trans q.abs)
theorem Vals.inj : ∀ {xs ys : List V} {us : List Value}, Vals xs us → Vals ys us → xs = ys
  | _, _, _, .nil, .nil => rfl
  | _, _, _, .cons r t, .cons r' t' => by rw [r.inj r', Vals.inj t t']
section
variable {X : Cx} {pins : List (Addr × Obj)} {σ : St} {H : Hp} {s : Shared} {a : Addr} {xs ys : List V}
theorem SqL.of {K : PySem.W.Frag} (h : H a = some (.lst xs)) : SqL K H a xs := .inl (.inl h)
theorem SqT.of {K : PySem.W.Frag} (h : H a = some (.tup xs)) : SqT K H a xs := .inl (.inl h)
theorem Inv.list (I : Inv X pins σ H s) (h : SqL X.K H a xs) : ∃ its : List Value, Vals xs its ∧ PlainL s.heap a its.toArray ∧ xs.length ≤ sizeLine := by
  rcases h with h | ⟨o, its, n, hk, hc, hd, hs, hz, r⟩
  · obtain ⟨z, its, n, r, e⟩ := h.ok I.hok
    exact ⟨its, r, ⟨_, n, e, rfl, rfl, rfl⟩, z⟩
  · refine ⟨its.toList, r, ⟨o, n, I.kIn a o hk, hc, hd, by simpa using hs⟩, ?_⟩
    have e := r.length
    simp only [Array.length_toList] at e
    omega
theorem Inv.tuple (I : Inv X pins σ H s) (h : SqT X.K H a xs) : ∃ its : List Value, Vals xs its ∧ IsTup s.heap a its.toArray ∧ xs.length ≤ sizeLine := by
  rcases h with h | ⟨o, its, n, hk, hc, hs, hz, r⟩
  · obtain ⟨z, its, r, p⟩ := h.ok I.hok
    exact ⟨its, r, p, z⟩
  · refine ⟨its.toList, r, ⟨o, I.kIn a o hk, hc, n, by simpa using hs⟩, ?_⟩
    have e := r.length
    simp only [Array.length_toList] at e
    omega
theorem Inv.list_inj (I : Inv X pins σ H s) (h : SqL X.K H a xs) (h' : SqL X.K H a ys) : xs = ys := by
  obtain ⟨its, r, ⟨o, n, e, _, _, d⟩, _⟩ := I.list h
  obtain ⟨its', r', ⟨o', n', e', _, _, d'⟩, _⟩ := I.list h'
  rw [e] at e'; cases e'
  rw [d] at d'
  injection d' with d1 _
  have : its = its' := by simpa using congrArg Array.toList d1
  subst this
  exact r.inj r'
theorem Inv.tuple_inj (I : Inv X pins σ H s) (h : SqT X.K H a xs) (h' : SqT X.K H a ys) : xs = ys := by
  obtain ⟨its, r, ⟨o, e, _, n, d⟩, _⟩ := I.tuple h
  obtain ⟨its', r', ⟨o', e', _, n', d'⟩, _⟩ := I.tuple h'
  rw [e] at e'; cases e'
  rw [d] at d'
  injection d' with d1 _
  have : its = its' := by simpa using congrArg Array.toList d1
  subst this
  exact r.inj r'
end

/-! ### another wish about exceptions -/
abbrev Cx.wish (X : Cx) (E : Value → Shared → Prop) : Cx := { X with xe := E }
/-- no exception leaves -/
abbrev Cx.nox (X : Cx) : Cx := X.wish fun _ _ => False
theorem Cx.Ok.wish {X : Cx} (ok : X.Ok) (E : Value → Shared → Prop) : (X.wish E).Ok :=
  ⟨ok.mod, ok.kind, ok.glob, ok.blt, ok.above, ok.inj, ok.has, ok.cab, ok.hd, ok.frames, ok.stk, ok.exf, ok.bs, ok.bsz, ok.noex, ok.exfs, ok.funs, ok.frf⟩
theorem Cx.Ok.unwish {X : Cx} {E : Value → Shared → Prop} (ok : (X.wish E).Ok) : X.Ok :=
  ⟨ok.mod, ok.kind, ok.glob, ok.blt, ok.above, ok.inj, ok.has, ok.cab, ok.hd, ok.frames, ok.stk, ok.exf, ok.bs, ok.bsz, ok.noex, ok.exfs, ok.funs, ok.frf⟩
section
variable {X : Cx} {pins : List (Addr × Obj)} {σ : St} {H : Hp} {s : Shared} {E : Value → Shared → Prop}
theorem Inv.wish (I : Inv X pins σ H s) (E : Value → Shared → Prop) : Inv (X.wish E) pins σ H s := ⟨I.ok.wish E, I.os, I.bare, I.base, I.loc, I.cell, I.free, I.freeC, I.pin, I.hok, I.len⟩
theorem Inv.unwish (I : Inv (X.wish E) pins σ H s) : Inv X pins σ H s := ⟨I.ok.unwish, I.os, I.bare, I.base, I.loc, I.cell, I.free, I.freeC, I.pin, I.hok, I.len⟩
theorem SP.unwish {D : Ends} {f : Flow} {s' : Shared} (h : SP (X.wish E) pins D f s') : SP X pins D f s' := by
  cases f with
  | next => obtain ⟨σ', H', I, q⟩ := h; exact ⟨σ', H', I.unwish, q⟩
  | brk => obtain ⟨σ', H', I, q⟩ := h; exact ⟨σ', H', I.unwish, q⟩
  | cont => obtain ⟨σ', H', I, q⟩ := h; exact ⟨σ', H', I.unwish, q⟩
  | ret u => obtain ⟨v, σ', H', I, r, q⟩ := h; exact ⟨v, σ', H', I.unwish, r, q⟩
theorem PSs.nox {st : List Stmt} {t : TS} (h : PSs X.nox st t) : PSs X st t := fun pins s σ H D I hw =>
  wpAny_mono (h pins s σ H D (I.wish _) hw) (fun _ _ q => q.unwish) fun _ _ z => False.elim z
end

/-! ### blocks and small statements -/
section
variable {X : Cx} {st : Stmt} {rest : List Stmt} {t u : TS} {e : Expr} {te : TE} {pos : Pos}
def tNext : TS := fun D σ H => D.nx σ H
def tSeq (t u : TS) : TS := fun D σ H => t { D with nx := u D } σ H
theorem pss_nil : PSs X [] tNext := fun _ _ σ H _ I h => wpAny_execs_nil ⟨σ, H, I, h⟩
theorem pss_cons (h1 : PS X st t) (h2 : PSs X rest u) : PSs X (st :: rest) (tSeq t u) := by
  intro pins s σ H D I h
  refine wpAny_execs_cons (thn (h1 pins s σ H { D with nx := u D } I h) fun f s1 q => ?_)
  cases f with
  | next =>
    obtain ⟨σ', H', I', q⟩ := q
    exact h2 pins s1 σ' H' D I' q
  | ret v => exact q
  | brk => exact q
  | cont => exact q
theorem pss_one (h1 : PS X st t) : PSs X [st] t := by
  intro pins s σ H D I h
  refine wpAny_execs_cons (thn (h1 pins s σ H D I h) fun f s1 q => ?_)
  cases f with
  | next => exact wpAny_execs_nil q
  | ret v => exact q
  | brk => exact q
  | cont => exact q
def tBreak : TS := fun D σ H => D.bk σ H
def tCont : TS := fun D σ H => D.ct σ H
/-- in a def's body nothing is shown -/
theorem Inv.quiet {pins : List (Addr × Obj)} {σ : St} {H : Hp} {s : Shared} (I : Inv X pins σ H s) : interactive X.env = false := by simp [interactive, I.ok.kind]
/-- an expression whose value is dropped -/
def tDrop (te : TE) : TS := fun D σ H => te σ H fun _ H1 => D.nx σ H1
theorem ps_expr (he : PE X e te) (hs : swapsWith e none pos.line X.env = pure false := by rfl) : PS X (.Expr e pos) (tDrop te) := by
  intro pins s σ H D I h
  exact wpAny_Expr_any (thn (he pins s σ H _ I h) fun v s1 ⟨x, H1, I1, r1, q1⟩ => ⟨σ, H1, I1, q1⟩) I.quiet hs
def tRet (te : TE) : TS := fun D σ H => te σ H D.rt
theorem ps_ret (he : PE X e te) : PS X (.Return (some e) pos) (tRet te) := by
  intro pins s σ H D I h
  exact wpAny_Return_some (thn (he pins s σ H _ I h) fun v s1 ⟨x, H1, I1, r1, q1⟩ => ⟨x, σ, H1, I1, r1, q1⟩)
def tRetN : TS := fun D _ H => D.rt .non H
def tIfS (c : TT) (t u : TS) : TS := fun D σ H => c σ H fun b H1 => if b = true then t D σ H1 else u D σ H1
theorem ps_if {c : Expr} {a b : List Stmt} {tc : TT} (hc : PT X c tc) (ha : PSs X a t) (hb : PSs X b u) : PS X (.If c a b pos) (tIfS tc t u) := by
  intro pins s σ H D I h
  refine wpAny_If (thn (hc pins s σ H _ I h) fun d s1 ⟨H1, I1, q1⟩ => ?_)
  cases d with
  | true => exact ha pins s1 σ H1 D I1 q1
  | false => exact hb pins s1 σ H1 D I1 q1
/-- code that the proof never comes to -/
def tNever : TS := fun _ _ _ => False
end

/-! ### targets -/
abbrev TG := V → St → Hp → (St → Hp → Prop) → Prop
abbrev TGs := List V → St → Hp → (St → Hp → Prop) → Prop
def PG (X : Cx) (target : Expr) (t : TG) : Prop :=
  ∀ (pins : List (Addr × Obj)) (s : Shared) (σ : St) (H : Hp) (v : V) (u : Value) (Q : St → Hp → Prop), Inv X pins σ H s → RelV v u → t v σ H Q →
    wpAny (model X.prog X.w) X.A (assign target X.env u) (fun _ s' => ∃ σ' H', Inv X pins σ' H' s' ∧ Q σ' H') X.xe s
/-- several targets, one after another -/
def PGs (X : Cx) (ts : List Expr) (t : TGs) : Prop :=
  ∀ (pins : List (Addr × Obj)) (s : Shared) (σ : St) (H : Hp) (vs : List V) (us : List Value) (Q : St → Hp → Prop), Inv X pins σ H s → Vals vs us → t vs σ H Q →
    wpAny (model X.prog X.w) X.A (assignInOrder ((assignEach ts X.env).map (·.2)) us) (fun _ s' => ∃ σ' H', Inv X pins σ' H' s' ∧ Q σ' H') X.xe s
/-- o[i] = v, by values -/
abbrev TSet := V → V → V → Hp → (Hp → Prop) → Prop
def PSet (X : Cx) (t : TSet) : Prop :=
  ∀ (pins : List (Addr × Obj)) (s : Shared) (σ : St) (H : Hp) (o i v : V) (ov iv u : Value) (Q : Hp → Prop), Inv X pins σ H s → RelV o ov → RelV i iv → RelV v u → t o i v H Q →
    wpAny (model X.prog X.w) X.A (setItem ov iv u) (fun _ s' => ∃ H', Inv X pins σ H' s' ∧ Q H') X.xe s
/-- a op= b, by values -/
abbrev TIp := V → V → Hp → VK → Prop
def PIp (X : Cx) (op : Operator) (t : TIp) : Prop :=
  ∀ (pins : List (Addr × Obj)) (s : Shared) (σ : St) (H : Hp) (x y : V) (v u : Value) (Q : VK), Inv X pins σ H s → RelV x v → RelV y u → t x y H Q →
    wpAny (model X.prog X.w) X.A (inplaceOp op v u) (EP X pins σ Q) X.xe s
section
variable {X : Cx} {pos : Pos}
def gName (i : Nat) : TG := fun v σ H Q => Q (σ.set i (some v)) H
theorem pg_name {i : Nat} {x : Str} (hN : X.N.Nodup) (hi : X.N[i]? = some x) (hx : Loc X.env.scope x) (hf : X.fn x = true ∨ X.env.scope.names.lookup x = some .local := by first | exact .inl rfl | exact .inr rfl | assumption) : PG X (.Name x pos) (gName i) := by
  intro pins s σ H v u Q I r h
  exact wpAny_assign_Name (store_ok I hN hi hx r (fun s' I' => ⟨_, H, I', h⟩) hf)
def gNil : TGs := fun vs σ H Q => vs = [] ∧ Q σ H
def gCons (t : TG) (u : TGs) : TGs := fun vs σ H Q => ∃ v r, vs = v :: r ∧ t v σ H fun σ' H' => u r σ' H' Q
theorem pgs_nil : PGs X [] gNil := by
  intro pins s σ H vs us Q I r h
  obtain ⟨e, h⟩ := h
  subst e
  cases r
  exact assignInOrder_nil ⟨σ, H, I, h⟩
theorem pgs_cons {e : Expr} {es : List Expr} {t : TG} {u : TGs} (h1 : PG X e t) (h2 : PGs X es u)
    (hs : (assignEach (e :: es) X.env).map (·.2) = assign e X.env :: (assignEach es X.env).map (·.2) := by rfl) : PGs X (e :: es) (gCons t u) := by
  intro pins s σ H vs us Q I r h
  obtain ⟨v, vr, e1, h⟩ := h
  subst e1
  cases r with
  | cons r rr =>
    rw [hs]
    refine assignInOrder_cons (thn (h1 pins s σ H _ _ _ I r h) fun _ s1 ⟨σ1, H1, I1, q1⟩ => ?_)
    exact h2 pins s1 σ1 H1 _ _ Q I1 rr q1
/-- (a, b, ..) = a tuple of that length -/
def gTup (K : PySem.W.Frag) (n : Nat) (t : TGs) : TG := fun v σ H Q => ∃ a xs, v = .ref a ∧ SqT K H a xs ∧ xs.length = n ∧ t xs σ H Q
theorem pg_tup {es : List Expr} {k : Nat} {t : TGs} {n : Nat} (hc : X.calm = true) (h : PGs X es t)
    (hn : (assignEach es X.env).length = n := by rfl) (hst : (assignEach es X.env).findIdx? (·.1) = none := by rfl) : PG X (.Tuple es k pos) (gTup X.K n t) := by
  intro pins s σ H v u Q I r hw
  obtain ⟨a, xs, e1, hq, hl, hw⟩ := hw
  subst e1
  cases r
  obtain ⟨its, rv, ht, hz⟩ := I.tuple hq
  refine assign_Tuple_tuple (I.ok.hd hc) ht (by simp [hn, ← hl, rv.length]) hst fun h' hx => ?_
  have I1 : Inv X pins σ H { s with heap := h' } := I.kept (t' := s.toks) fun b o e => hx b o (Nat.ne_of_lt (Heap.lt_size e)) e
  exact h pins _ σ H xs _ Q I1 (by simpa using rv) hw
/-- o[i] = .. -/
def gSub (to ti : TE) (t : TSet) : TG := fun v σ H Q => to σ H fun o H1 => ti σ H1 fun i H2 => t o i v H2 fun H3 => Q σ H3
theorem pg_sub {o i : Expr} {to ti : TE} {t : TSet} (ho : PE X o to) (hi : PE X i ti) (hs : PSet X t)
    (ha : ∀ v, assign (.Subscript o i pos) X.env v = (do
      let ov ← holding [v] (eval o X.env)
      let iv ← holding [v, ov] (eval i X.env)
      standAt pos
      holding [v, ov, iv] (setItem ov iv v)
      release [v, ov, iv] []) := by intro _; rfl) : PG X (.Subscript o i pos) (gSub to ti t) := by
  intro pins s σ H v u Q I r h
  rw [ha]
  refine wpAny_bind (wpAny_holding (thn (ho pins s σ H _ I h) fun ov s1 ⟨x, H1, I1, r1, q1⟩ => ?_))
  refine wpAny_bind (wpAny_holding (thn (hi pins s1 σ H1 _ I1 q1) fun iv s2 ⟨y, H2, I2, r2, q2⟩ => ?_))
  refine wpAny_bind (wpAny_standAt (wpAny_bind (wpAny_holding (thn (hs pins s2 σ H2 x y v ov iv u _ I2 r1 r2 r q2) fun _ s3 ⟨H3, I3, q3⟩ => ?_))))
  exact wpAny_release ⟨σ, H3, I3, q3⟩
/-- target = value -/
def tAsg (te : TE) (g : TG) : TS := fun D σ H => te σ H fun x H1 => g x σ H1 D.nx
theorem ps_asg {tg e : Expr} {te : TE} {g : TG} (he : PE X e te) (hg : PG X tg g) (hs : swapsWithSole [tg] e pos.line X.env = pure false := by rfl) (hw : swappedStores [tg] e X.env = pure none := by rfl)
    (h1 : (assignEach [tg] X.env).map (·.2) = [assign tg X.env] := by rfl) : PS X (.Assign [tg] e pos) (tAsg te g) := by
  intro pins s σ H D I h
  refine wpAny_Assign_stores (thn (he pins s σ H _ I h) fun v s1 ⟨x, H1, I1, r1, q1⟩ => ?_) hs hw
  rw [h1]
  exact thn (hg pins s1 σ H1 x v _ I1 r1 q1) fun _ s2 q => q
/-- name = value -/
theorem ps_set {i : Nat} {x : Str} {e : Expr} {te : TE} {pos' : Pos} (hN : X.N.Nodup) (hi : X.N[i]? = some x) (hx : Loc X.env.scope x) (he : PE X e te) (hs : swapsWith e (some (.Name x pos')) pos.line X.env = pure false := by rfl) (hf : X.fn x = true ∨ X.env.scope.names.lookup x = some .local := by first | exact .inl rfl | exact .inr rfl | assumption) :
    PS X (.Assign [.Name x pos'] e pos) (tAsg te (gName i)) := by
  intro pins s σ H D I h
  refine wpAny_Assign_Name (thn (he pins s σ H _ I h) fun v s1 ⟨y, H1, I1, r1, q1⟩ => ?_) hs
  exact store_ok I1 hN hi hx r1 (fun s2 I2 => ⟨_, H1, I2, q1⟩) hf
/-- a, b = x, y with plain local names: stored from the right; the pair itself is not tracked (the opening rows as in PyProof/Rows/TupAssign.lean:23) -/
def tPar (i j : Nat) (ta : TA) : TS := fun D σ H => ta σ H fun vs H1 => ∃ v w, vs = [v, w] ∧ D.nx ((σ.set i (some v)).set j (some w)) H1
/-- name op= e -/
def tAug (i : Nat) (te : TE) (ti : TIp) : TS := fun D σ H => ∃ x, σ[i]? = some (some x) ∧ te σ H fun y H1 => ti x y H1 fun z H2 => D.nx (σ.set i (some z)) H2
/-- o[i] op= e -/
def tAugS (to ti te : TE) (tget : V → V → Hp → VK → Prop) (tip : TIp) (tset : TSet) : TS := fun D σ H => to σ H fun o H1 => ti σ H1 fun i H2 => tget o i H2 fun x H3 => te σ H3 fun y H4 => tip x y H4 fun z H5 => tset o i z H5 fun H6 => D.nx σ H6
/-- o[i], by values -/
def PGet (X : Cx) (t : V → V → Hp → VK → Prop) : Prop :=
  ∀ (pins : List (Addr × Obj)) (s : Shared) (σ : St) (H : Hp) (o i : V) (ov iv : Value) (Q : VK), Inv X pins σ H s → RelV o ov → RelV i iv → t o i H Q →
    wpAny (model X.prog X.w) X.A (getItem ov iv) (EP X pins σ Q) X.xe s
/-- ints -/
def ipI (f : Int → Int → Int) : TIp := fun x y H Q => ∃ i j, x = .int i ∧ y = .int j ∧ Q (.int (f i j)) H
end

/-! ### while -/
section
variable {X : Cx} {pos : Pos}
/-- the invariant W with its measure -/
def tWhile (c : TT) (tb : TS) : TS := fun D σ H => ∃ W : Nat → St → Hp → Prop, (∃ m, W m σ H) ∧ ∀ m σ H, W m σ H →
  c σ H fun b H1 => if b = true then ∃ N : St → Hp → Prop, (∀ σ' H', N σ' H' → ∃ m', m' < m ∧ W m' σ' H') ∧ tb { D with nx := N, ct := N, bk := D.nx } σ H1 else D.nx σ H1
end

/-! ### what a loop or a comprehension walks -/
/-- at turn i: it yields x (the heap may grow), or it stops -/
structure It where
  go : Nat → Hp → Prop
  yld : Nat → Hp → V → Hp → Prop
  stop : Nat → Hp → Prop
/-- the iterator's own objects may turn: they are not the frame's, not pinned, younger than the entry (or a comprehension's own) -/
def FpOk (X : Cx) (pins : List (Addr × Obj)) (H : Hp) (b : Addr) : Prop :=
  H b = none ∧ b ≠ X.env.locals ∧ b ∉ X.fs ∧ (b ∈ X.ex ∨ X.s₀.heap.objs.size ≤ b) ∧ (∀ x c, X.env.cells.lookup x = some c → c ≠ b) ∧ ∀ p ∈ X.pn ++ pins, p.1 ≠ b
theorem Inv.fpOk {X : Cx} {pins : List (Addr × Obj)} {σ : St} {H H' : Hp} {s : Shared} {b : Addr} (I : Inv X pins σ H s) (hb : s.heap.objs.size ≤ b) (hn : H' b = none) : FpOk X pins H' b := by
  refine ⟨hn, Nat.ne_of_gt (Nat.lt_of_lt_of_le I.lt hb), I.nofs hb, .inr (Nat.le_trans I.sz hb), fun x c e z => ?_, fun p hp z => ?_⟩
  · obtain ⟨v, q⟩ := I.cell x c e
    exact absurd (Nat.lt_of_lt_of_le q.lt (by rw [z]; exact hb)) (Nat.lt_irrefl _)
  · exact absurd (Nat.lt_of_lt_of_le (Heap.lt_size (I.pin p hp).1) (by rw [z]; exact hb)) (Nat.lt_irrefl _)
structure Turn (P : Program) (w : World) (K : PySem.W.Frag) (tg : Expr) (J : It) (fp : List Addr) (it : Addr) (tn : Nat → Heap → Prop) : Prop where
  mem : it ∈ fp
  obj : ∀ i h, tn i h → ∀ b ∈ fp, ∃ o, h.get? b = some o ∧ ∀ v, o.data ≠ .cell v
  keep : ∀ i h h', tn i h → (∀ b ∈ fp, ∀ o, h.get? b = some o → h'.get? b = some o) → tn i h'
  item : ∀ (X : Cx), X.prog = P → X.w = w → X.K = K → X.calm = true → ∀ (i : Nat) (pins : List (Addr × Obj)) (s : Shared) (σ : St) (H : Hp) (E : Value → Shared → Prop), Inv X pins σ H s → (∀ b ∈ fp, FpOk X pins H b) → tn i s.heap → J.go i H →
    wpAny (model P w) X.A (pyNext (.ref it)) (fun r s1 => ∃ u, r = some u ∧
      wpAny (model P w) X.A (letOwnedTupleGo tg (.ref it) u) (fun _ s2 => ∃ x H', Inv X pins σ H' s2 ∧ RelV x u ∧ J.yld i H x H' ∧ tn (i + 1) s2.heap ∧ ∀ b ∈ fp, H' b = none) E s1) E s
  done : ∀ (X : Cx), X.prog = P → X.w = w → X.K = K → X.calm = true → ∀ (i : Nat) (pins : List (Addr × Obj)) (s : Shared) (σ : St) (H : Hp) (E : Value → Shared → Prop), Inv X pins σ H s → (∀ b ∈ fp, FpOk X pins H b) → tn i s.heap → J.stop i H →
    wpAny (model P w) X.A (pyNext (.ref it)) (fun r s1 => r = none ∧ Inv X pins σ H s1) E s
  self : ∀ (A : Around) (i : Nat) (s : Shared) (Q : Value → Shared → Prop) (E : Value → Shared → Prop), tn i s.heap → Q (.ref it) s → wpAny (model P w) A (pyIter (.ref it)) Q E s
abbrev TI := St → Hp → (It → Hp → Prop) → Prop
/-- an iterator has come -/
def PIE (X : Cx) (pins : List (Addr × Obj)) (σ : St) (tg : Expr) (R : It → Hp → Prop) (itv : Value) (s2 : Shared) : Prop :=
  ∃ (it : Addr) (fp : List Addr) (tn : Nat → Heap → Prop) (J : It) (H' : Hp), itv = .ref it ∧ Inv X pins σ H' s2 ∧ Turn X.prog X.w X.K tg J fp it tn ∧ tn 0 s2.heap ∧ (∀ b ∈ fp, FpOk X pins H' b) ∧ R J H'
def PI (X : Cx) (tg iter : Expr) (wi : TI) : Prop :=
  ∀ (pins : List (Addr × Obj)) (s : Shared) (σ : St) (H : Hp) (R : It → Hp → Prop), Inv X pins σ H s → wi σ H R →
    wpAny (model X.prog X.w) X.A (eval iter X.env) (fun v s1 => wpAny (model X.prog X.w) X.A (pyIter v) (PIE X pins σ tg R) X.xe s1) X.xe s

/-- the step ahead of the store is nothing for an iterator that keeps no tuple -/
theorem go_of {M : Model} {A : Around} {E : Value → Shared → Prop} {s : Shared} {tg : Expr} {it : Addr} {u : Value} {o : Obj} {n : String} {vs : Array Value} {Q : Unit → Shared → Prop} (ho : s.heap.get? it = some o) (hc : o.cls = .type n) (hd : o.data = .fields vs)
    (hn : ["enumerate", "zip", "dict_itemiterator", "dict_reverseitemiterator", "odict_iterator", "itertools.zip_longest", "itertools.pairwise"].contains n = false) (hQ : Q () s) : wpAny M A (letOwnedTupleGo tg (.ref it) u) Q E s := by
  unfold letOwnedTupleGo
  cases tg <;> first
    | exact wpAny_pure hQ
    | (cases u <;> first
        | exact wpAny_pure hQ
        | (refine wpAny_bind (wpAny_load ho ?_)
           rw [hc, hd]
           show wpAny M A (if (["enumerate", "zip", "dict_itemiterator", "dict_reverseitemiterator", "odict_iterator", "itertools.zip_longest", "itertools.pairwise"].contains n && vs[0]? == some (rawInt _)) = true then _ else _) Q E s
           rw [if_neg (by intro h; rw [hn, Bool.false_and] at h; cases h)]
           exact wpAny_pure hQ))

/-- the list at a, as it stands at each turn (a loop may append to it) -/
def Itl (K : PySem.W.Frag) (a : Addr) : It :=
  ⟨fun i H => ∃ xs x, SqL K H a xs ∧ xs[i]? = some x, fun i H x H' => H' = H ∧ ∀ xs, SqL K H a xs → xs[i]? = some x, fun i H => ∃ xs, SqL K H a xs ∧ xs.length ≤ i⟩
def Itt (K : PySem.W.Frag) (a : Addr) : It :=
  ⟨fun i H => ∃ xs x, SqT K H a xs ∧ xs[i]? = some x, fun i H x H' => H' = H ∧ ∀ xs, SqT K H a xs → xs[i]? = some x, fun i H => ∃ xs, SqT K H a xs ∧ xs.length ≤ i⟩
/-- lo, lo + 1, .. (n of them) -/
def Itr (lo : Int) (n : Nat) : It := ⟨fun i _ => i < n, fun i H x H' => H' = H ∧ x = .int (lo + i), fun i _ => n ≤ i⟩
theorem turn_list {P : Program} {w : World} {K : PySem.W.Frag} {tg : Expr} (a it : Addr) : Turn P w K tg (Itl K a) [it] it (fun i h => h.IsListIter it a i) where
  mem := by simp
  obj := fun i h st b hb => by
    have e : b = it := by simpa using hb
    subst e
    obtain ⟨o, e, c, d⟩ := st
    exact ⟨o, e, fun v z => by rw [d] at z; cases z⟩
  keep := fun i h h' st k => st.at fun o e => k it (by simp) o e
  item := by
    intro X hP hw hK hc i pins s σ H E I hf st hg
    subst hP hw hK
    obtain ⟨xs, x, hq, hx⟩ := hg
    obtain ⟨its, rv, p, hz⟩ := I.list hq
    obtain ⟨u, hu, ru⟩ := rv.get hx
    obtain ⟨f0, f1, f2, f3, f4, f5⟩ := hf it (by simp)
    refine wpAny_pyNext_list_item st p.isList (x := u) (by simpa using hu) fun h' st' sb => ?_
    have I1 : Inv X pins σ H { s with heap := h' } := I.turned (t' := s.toks) (fun b o hb e => (sb.2 b hb).trans e) f0 f1 f3 f4 f5
    obtain ⟨o, e, c, d⟩ := id st'
    exact ⟨u, rfl, go_of (s := { s with heap := h' }) e c d (by decide) ⟨x, H, I1, ru, ⟨rfl, fun ys hy => by rw [I.list_inj hy hq]; exact hx⟩, st', fun b hb => (hf b hb).1⟩⟩
  done := by
    intro X hP hw hK hc i pins s σ H E I hf st hg
    subst hP hw hK
    obtain ⟨xs, hq, hx⟩ := hg
    obtain ⟨its, rv, p, hz⟩ := I.list hq
    obtain ⟨f0, f1, f2, f3, f4, f5⟩ := hf it (by simp)
    have hl := rv.length
    exact wpAny_pyNext_list_end (I.ok.hd hc) st p.isList (by simp; omega) fun h' eb => ⟨rfl, I.turned (t' := s.toks) (fun b o hb e => eb b o hb e) f0 f1 f3 f4 f5⟩
  self := fun _ _ _ _ _ st h => wpAny_pyIter_listiter st h
theorem turn_tuple {P : Program} {w : World} {K : PySem.W.Frag} {tg : Expr} (a it : Addr) : Turn P w K tg (Itt K a) [it] it (fun i h => h.IsTupleIter it a i) where
  mem := by simp
  obj := fun i h st b hb => by
    have e : b = it := by simpa using hb
    subst e
    obtain ⟨o, e, c, d⟩ := st
    exact ⟨o, e, fun v z => by rw [d] at z; cases z⟩
  keep := fun i h h' st k => st.at fun o e => k it (by simp) o e
  item := by
    intro X hP hw hK hc i pins s σ H E I hf st hg
    subst hP hw hK
    obtain ⟨xs, x, hq, hx⟩ := hg
    obtain ⟨its, rv, p, hz⟩ := I.tuple hq
    obtain ⟨u, hu, ru⟩ := rv.get hx
    obtain ⟨f0, f1, f2, f3, f4, f5⟩ := hf it (by simp)
    refine wpAny_pyNext_tuple_item st (show s.heap.IsTuple a its.toArray from p) (x := u) (by simpa using hu) fun h' st' sb => ?_
    have I1 : Inv X pins σ H { s with heap := h' } := I.turned (t' := s.toks) (fun b o hb e => (sb.2 b hb).trans e) f0 f1 f3 f4 f5
    obtain ⟨o, e, c, d⟩ := id st'
    exact ⟨u, rfl, go_of (s := { s with heap := h' }) e c d (by decide) ⟨x, H, I1, ru, ⟨rfl, fun ys hy => by rw [I.tuple_inj hy hq]; exact hx⟩, st', fun b hb => (hf b hb).1⟩⟩
  done := by
    intro X hP hw hK hc i pins s σ H E I hf st hg
    subst hP hw hK
    obtain ⟨xs, hq, hx⟩ := hg
    obtain ⟨its, rv, p, hz⟩ := I.tuple hq
    obtain ⟨f0, f1, f2, f3, f4, f5⟩ := hf it (by simp)
    have hl := rv.length
    exact wpAny_pyNext_tuple_end (I.ok.hd hc) st (show s.heap.IsTuple a its.toArray from p) (by simp; omega) fun h' eb => ⟨rfl, I.turned (t' := s.toks) (fun b o hb e => eb b o hb e) f0 f1 f3 f4 f5⟩
  self := fun _ _ _ _ _ st h => wpAny_pyIter_tupleiter st h
theorem turn_range {P : Program} {w : World} {K : PySem.W.Frag} {tg : Expr} (it : Addr) (lo : Int) (n : Nat) : Turn P w K tg (Itr lo n) [it] it (fun i h => IsRangeIter h it (lo + (i : Nat) * 1) ((n : Int) - (i : Nat)) 1) where
  mem := by simp
  obj := fun i h st b hb => by
    have e : b = it := by simpa using hb
    subst e
    exact ⟨_, st, fun v z => by
      have z' : Data.fields _ = Data.cell v := z
      cases z'⟩
  keep := fun i h h' st k => k it (by simp) _ st
  item := by
    intro X hP hw hK hc i pins s σ H E I hf st hg
    subst hP hw hK
    obtain ⟨f0, f1, f2, f3, f4, f5⟩ := hf it (by simp)
    have W := Walks.range (prog := X.prog) (w := X.w) (I.ok.hd hc) it lo 1 n
    refine W.item i s _ _ hg st fun v h' tk hv st' kk => ?_
    obtain ⟨t, rfl⟩ := hv
    have I1 : Inv X pins σ H { s with heap := h', toks := tk } := I.turned (fun b o hb e => kk b o (by simpa using hb) e) f0 f1 f3 f4 f5
    refine ⟨_, rfl, go_of (s := { s with heap := h', toks := tk }) (n := "range_iterator") st' rfl rfl (by decide) ⟨.int (lo + i), H, I1, ⟨t, ?_⟩, ⟨rfl, rfl⟩, st', fun b hb => (hf b hb).1⟩⟩
    rw [Int.mul_one]
  done := by
    intro X hP hw hK hc i pins s σ H E I hf st hg
    subst hP hw hK
    obtain ⟨f0, f1, f2, f3, f4, f5⟩ := hf it (by simp)
    exact wpAny_pyNext_range_end (I.ok.hd hc) st (by have : n ≤ i := hg; omega) fun h' eb => ⟨rfl, I.turned (t' := s.toks) (fun b o hb e => eb b o hb e) f0 f1 f3 f4 f5⟩
  self := fun _ _ _ _ _ st h => wpAny_pyIter_rangeiter st h
end L2

namespace L2
open PySem PySem.Spec PyProof.Rows
section
variable {X : Cx} {tg : Expr}
def iList (K : PySem.W.Frag) (tl : TE) : TI := fun σ H R => tl σ H fun x H1 => ∃ a, x = .ref a ∧ (∃ xs, SqL K H1 a xs) ∧ R (Itl K a) H1
def iTup (K : PySem.W.Frag) (tl : TE) : TI := fun σ H R => tl σ H fun x H1 => ∃ a, x = .ref a ∧ (∃ xs, SqT K H1 a xs) ∧ R (Itt K a) H1
theorem pi_list {l : Expr} {tl : TE} (hl : PE X l tl) : PI X tg l (iList X.K tl) := by
  intro pins s σ H R I h
  refine thn (hl pins s σ H _ I h) fun v s1 ⟨x, H1, I1, r1, q1⟩ => ?_
  obtain ⟨a, e, ⟨xs, hq⟩, q⟩ := q1
  subst e
  cases r1
  obtain ⟨its, rv, p, hz⟩ := I1.list hq
  refine wpAny_pyIter_list p.isList ?_
  refine ⟨s1.heap.objs.size, [s1.heap.objs.size], _, _, H1, rfl, I1.kept (t' := s1.toks) fun b o e => Heap.get?_push_of_some _ e, turn_list a _, ⟨_, Heap.get?_push_size _ rfl, rfl, rfl⟩, fun b hb => ?_, q⟩
  have e : b = s1.heap.objs.size := by simpa using hb
  subst e
  exact I1.fpOk (Nat.le_refl _) (I1.hok.fresh (Nat.le_refl _))
theorem pi_tup {l : Expr} {tl : TE} (hl : PE X l tl) : PI X tg l (iTup X.K tl) := by
  intro pins s σ H R I h
  refine thn (hl pins s σ H _ I h) fun v s1 ⟨x, H1, I1, r1, q1⟩ => ?_
  obtain ⟨a, e, ⟨xs, hq⟩, q⟩ := q1
  subst e
  cases r1
  obtain ⟨its, rv, p, hz⟩ := I1.tuple hq
  refine wpAny_pyIter_tuple (show s1.heap.IsTuple a its.toArray from p) ?_
  refine ⟨s1.heap.objs.size, [s1.heap.objs.size], _, _, H1, rfl, I1.kept (t' := s1.toks) fun b o e => Heap.get?_push_of_some _ e, turn_tuple a _, ⟨_, Heap.get?_push_size _ rfl, rfl, rfl⟩, fun b hb => ?_, q⟩
  have e : b = s1.heap.objs.size := by simpa using hb
  subst e
  exact I1.fpOk (Nat.le_refl _) (I1.hok.fresh (Nat.le_refl _))
/-- a range object just made, walked -/
theorem range_it {pins : List (Addr × Obj)} {σ : St} {H : Hp} {s : Shared} {R : It → Hp → Prop} {E : Value → Shared → Prop} {lo hi : Int} {t u v : Tok} {tk : Nat} (I : Inv X pins σ H s) (h1 : -(2 ^ 62) ≤ lo) (h2 : lo < 2 ^ 62) (h3 : -(2 ^ 62) ≤ hi) (h4 : hi < 2 ^ 62)
    (q : R (Itr lo (hi - lo).toNat) H) : wpAny (model X.prog X.w) X.A (pyIter (.ref s.heap.objs.size)) (PIE X pins σ tg R) E { s with heap := s.heap.push { cls := .type "range", data := .fields #[.int lo t, .int hi u, .int 1 v] }, toks := tk } := by
  refine wpAny_pyIter_range (IsRange.new ..) (small_one h1 h2 h3 h4) ?_
  have I1 : Inv X pins σ H { s with heap := s.heap.push { cls := .type "range", data := .fields #[.int lo t, .int hi u, .int 1 v] }, toks := tk } := I.kept fun b o e => Heap.get?_push_of_some _ e
  refine ⟨(s.heap.push { cls := .type "range", data := .fields #[.int lo t, .int hi u, .int 1 v] }).objs.size, [(s.heap.push { cls := .type "range", data := .fields #[.int lo t, .int hi u, .int 1 v] }).objs.size], _, _, H, rfl,
    I1.kept (t' := tk) fun b o e => Heap.get?_push_of_some _ e, turn_range _ lo (hi - lo).toNat, ?_, fun b hb => ?_, q⟩
  · have e1 : lo + ((0 : Nat) : Int) * 1 = lo := by simp
    have e2 : (((hi - lo).toNat : Nat) : Int) - ((0 : Nat) : Int) = Builtin.Range.rangeSize lo hi 1 := by rw [rangeSize_one]; split <;> omega
    show IsRangeIter _ _ (lo + ((0 : Nat) : Int) * 1) ((((hi - lo).toNat : Nat) : Int) - ((0 : Nat) : Int)) 1
    rw [e1, e2]
    exact Heap.get?_push_size _ rfl
  · have e : b = (s.heap.push { cls := .type "range", data := .fields #[.int lo t, .int hi u, .int 1 v] }).objs.size := by simpa using hb
    subst e
    exact I1.fpOk (Nat.le_refl _) (I1.hok.fresh (Nat.le_refl _))
def iRng1 (ta : TA) : TI := fun σ H R => ta σ H fun vs H1 => ∃ j : Int, vs = [.int j] ∧ -(2 ^ 62) ≤ j ∧ j < 2 ^ 62 ∧ R (Itr 0 j.toNat) H1
def iRng2 (ta : TA) : TI := fun σ H R => ta σ H fun vs H1 => ∃ i j : Int, vs = [.int i, .int j] ∧ (-(2 ^ 62) ≤ i ∧ i < 2 ^ 62 ∧ -(2 ^ 62) ≤ j ∧ j < 2 ^ 62) ∧ R (Itr i (j - i).toNat) H1
theorem pi_range1 {a : Expr} {ta : TA} {p pos : Pos} (hg : Gl X "range") (hm : X.mg "range" = none) (ha : PA X [a] ta) (hs : starEach [a] X.env = [(false, eval a X.env)] := by rfl) : PI X tg (.Call (.Name "range" p) [a] [] pos) (iRng1 ta) := by
  intro pins s σ H R I h
  refine Call_ (ld_blt I hg hm boot_range (PyProof.Rows.callWith_type1 (thn (ha pos pins s σ H _ I h) fun us s1 ⟨vs, H1, I1, r1, q1⟩ => ?_) hs rfl))
  obtain ⟨j, e, q1, q2, q⟩ := q1
  subst e
  cases r1 with
  | cons r rr =>
    cases rr
    obtain ⟨t, rfl⟩ := r
    exact call_range_1 (range_it I1 (by omega) (by omega) q1 q2 (by simpa using q))
/-! ### for -/
/-- W: the invariant by the turn and a measure; N: what the body is to reach -/
def tFor (wi : TI) (g : TG) (tb : TS) : TS := fun D σ H => wi σ H fun J H1 => ∃ W : Nat → Nat → St → Hp → Prop, (∃ m, W 0 m σ H1) ∧ ∀ i m σ H, W i m σ H →
  (J.stop i H ∧ D.nx σ H) ∨ (J.go i H ∧ ∃ N : St → Hp → Prop, (∀ σ' H', N σ' H' → ∃ m', m' < m ∧ W (i + 1) m' σ' H') ∧ ∀ x H', J.yld i H x H' → g x σ H' fun σ2 H2 => tb { D with nx := N, ct := N, bk := D.nx } σ2 H2)
/-- the records at fp as they stand -/
def pinsAt (fp : List Addr) (h : Heap) : List (Addr × Obj) := fp.filterMap fun b => (h.get? b).map fun o => (b, o)
theorem mem_pinsAt {fp : List Addr} {h : Heap} {b : Addr} {o : Obj} (hb : b ∈ fp) (e : h.get? b = some o) : (b, o) ∈ pinsAt fp h := List.mem_filterMap.mpr ⟨b, hb, by rw [e]; rfl⟩
theorem of_pinsAt {fp : List Addr} {h : Heap} {p : Addr × Obj} (hp : p ∈ pinsAt fp h) : p.1 ∈ fp ∧ h.get? p.1 = some p.2 := by
  obtain ⟨b, hb, e⟩ := List.mem_filterMap.mp hp
  cases q : h.get? b with
  | none => rw [q] at e; cases e
  | some o =>
    rw [q] at e
    have e' : (b, o) = p := Option.some.inj e
    subst e'
    exact ⟨hb, q⟩
theorem Inv.pinned {pins : List (Addr × Obj)} {σ : St} {H : Hp} {s : Shared} {fp : List Addr} (I : Inv X pins σ H s) (hf : ∀ b ∈ fp, FpOk X pins H b) (ho : ∀ b ∈ fp, ∃ o, s.heap.get? b = some o ∧ ∀ v, o.data ≠ .cell v) : Inv X (pins ++ pinsAt fp s.heap) σ H s :=
  I.pins_of fun p hp => (List.mem_append.mp hp).elim (fun z => I.pin p (List.mem_append_right _ z)) fun z => by
    obtain ⟨hb, e⟩ := of_pinsAt z
    obtain ⟨f0, f1, f2, _⟩ := hf p.1 hb
    obtain ⟨o, e', d⟩ := ho p.1 hb
    rw [e] at e'; cases e'
    exact ⟨e, f0, f1, f2, d⟩
theorem Inv.unpinned {pins pl : List (Addr × Obj)} {σ : St} {H : Hp} {s : Shared} (I : Inv X (pins ++ pl) σ H s) : Inv X pins σ H s := I.pins_of fun p hp => I.pin p (List.mem_append_right _ (List.mem_append_left _ hp))
theorem ps_for {iter : Expr} {body : List Stmt} {wi : TI} {g : TG} {tb : TS} {pos : Pos} (hp : PassesOwn (model X.prog X.w) X.A X.env X.xe) (hc : X.calm = true) (hi : PI X tg iter wi) (hg : PG X tg g) (hb : PSs X body tb)
    (hs : ∀ x, foldedSetIterable iter X.env x = pure x := by intro _; rfl) : PS X (.For tg iter body [] pos) (tFor wi g tb) := by
  intro pins s σ H D I h
  refine wpAny_For (thn (hi pins s σ H _ I h) fun v s1 h1 => thn h1 fun itv s2 h2 => ?_) hs
  obtain ⟨it, fp, tn, J, H2, e, I2, T, st2, f2, W, ⟨m0, w0⟩, turn⟩ := h2
  subst e
  -- what stays true of the iterator's objects through the loop
  have stat : ∀ {H' : Hp}, (∀ b ∈ fp, H' b = none) → ∀ b ∈ fp, FpOk X pins H' b := fun hn b hb => ⟨hn b hb, (f2 b hb).2⟩
  refine codeAny_forLoop_any (fun n s' => ∃ i σ' H', Inv X pins σ' H' s' ∧ tn i s'.heap ∧ (∀ b ∈ fp, H' b = none) ∧ W i n σ' H') ?_ m0 ⟨0, σ, H2, I2, st2, fun b hb => (f2 b hb).1, w0⟩
  rintro n s3 ⟨i, σ3, H3, I3, st3, fr3, w3⟩
  rcases turn i n σ3 H3 w3 with ⟨stop, qn⟩ | ⟨go, N, hN, step⟩
  · refine wpAny_passesOwn hp (thn (T.done X rfl rfl rfl hc i pins s3 σ3 H3 X.xe I3 (stat fr3) st3 stop) fun r s4 ⟨hr, I4⟩ => ?_)
    subst hr
    exact wpAny_execs_nil ⟨σ3, H3, I4, qn⟩
  · refine wpAny_passesOwn hp (thn (T.item X rfl rfl rfl hc i pins s3 σ3 H3 X.xe I3 (stat fr3) st3 go) fun r s4 ⟨u, hr, h4⟩ => ?_)
    subst hr
    refine wpAny_passesOwn hp (thn h4 fun _ s5 ⟨x, H5, I5, r5, y5, st5, fr5⟩ => ?_)
    have I5' := I5.pinned (stat fr5) (T.obj _ _ st5)
    refine wpAny_passesOwn hp (thn (hg _ s5 σ3 H5 x u _ I5' r5 (step x H5 y5)) fun _ s6 ⟨σ6, H6, I6, q6⟩ => ?_)
    refine wpAny_passesOwn hp (thn (hb _ s6 σ6 H6 _ I6 q6) fun f s7 q7 => ?_)
    have again : ∀ {σ7 : St} {H7 : Hp}, Inv X (pins ++ pinsAt fp s5.heap) σ7 H7 s7 → N σ7 H7 → ∃ m, m < n ∧ ∃ i σ' H', Inv X pins σ' H' s7 ∧ tn i s7.heap ∧ (∀ b ∈ fp, H' b = none) ∧ W i m σ' H' := fun {σ7 H7} I7 n7 => by
      obtain ⟨m', hm, w7⟩ := hN σ7 H7 n7
      refine ⟨m', hm, i + 1, σ7, H7, I7.unpinned, T.keep _ _ _ st5 fun b hb o e => (I7.pin (b, o) (List.mem_append_right _ (List.mem_append_right _ (mem_pinsAt hb e)))).1, fun b hb => ?_, w7⟩
      obtain ⟨o, e, d⟩ := T.obj _ _ st5 b hb
      exact (I7.pin (b, o) (List.mem_append_right _ (List.mem_append_right _ (mem_pinsAt hb e)))).2.1
    cases f with
    | next => obtain ⟨σ7, H7, I7, n7⟩ := q7; exact again I7 n7
    | cont => obtain ⟨σ7, H7, I7, n7⟩ := q7; exact again I7 n7
    | brk => obtain ⟨σ7, H7, I7, q7⟩ := q7; exact ⟨σ7, H7, I7.unpinned, q7⟩
    | ret v => obtain ⟨x7, σ7, H7, I7, r7, q7⟩ := q7; exact ⟨x7, σ7, H7, I7.unpinned, r7, q7⟩
end

/-! ### the forms one uses -/
/-- over a list that the body leaves as it is -/
theorem for_list {K : PySem.W.Frag} {a : Addr} {xs : List V} {g : TG} {tb : TS} {D : Ends} {σ : St} {H : Hp} (Pv : Nat → St → Hp → Prop) (h0 : Pv 0 σ H) (hl : ∀ i σ H, i ≤ xs.length → Pv i σ H → SqL K H a xs)
    (hs : ∀ i x σ H, xs[i]? = some x → Pv i σ H → g x σ H fun σ2 H2 => tb { D with nx := Pv (i + 1), ct := Pv (i + 1), bk := D.nx } σ2 H2) (hd : ∀ σ H, Pv xs.length σ H → D.nx σ H) :
    ∃ W : Nat → Nat → St → Hp → Prop, (∃ m, W 0 m σ H) ∧ ∀ i m σ H, W i m σ H →
      ((Itl K a).stop i H ∧ D.nx σ H) ∨ ((Itl K a).go i H ∧ ∃ N : St → Hp → Prop, (∀ σ' H', N σ' H' → ∃ m', m' < m ∧ W (i + 1) m' σ' H') ∧ ∀ x H', (Itl K a).yld i H x H' → g x σ H' fun σ2 H2 => tb { D with nx := N, ct := N, bk := D.nx } σ2 H2) := by
  refine ⟨fun i m σ H => m = xs.length - i ∧ i ≤ xs.length ∧ Pv i σ H, ⟨xs.length, by simp, Nat.zero_le _, h0⟩, ?_⟩
  rintro i m σ H ⟨rfl, hi, p⟩
  have q := hl i σ H hi p
  by_cases hlt : i < xs.length
  · refine .inr ⟨⟨xs, xs[i], q, by simp [hlt]⟩, Pv (i + 1), fun σ' H' p' => ⟨xs.length - (i + 1), by omega, rfl, hlt, p'⟩, fun x H' y => ?_⟩
    obtain ⟨e, y⟩ := y
    subst e
    exact hs i x σ _ (y xs q) p
  · have e : i = xs.length := by omega
    subst e
    exact .inl ⟨⟨xs, q, Nat.le_refl _⟩, hd σ H p⟩
theorem for_tup {K : PySem.W.Frag} {a : Addr} {xs : List V} {g : TG} {tb : TS} {D : Ends} {σ : St} {H : Hp} (Pv : Nat → St → Hp → Prop) (h0 : Pv 0 σ H) (hl : ∀ i σ H, i ≤ xs.length → Pv i σ H → SqT K H a xs)
    (hs : ∀ i x σ H, xs[i]? = some x → Pv i σ H → g x σ H fun σ2 H2 => tb { D with nx := Pv (i + 1), ct := Pv (i + 1), bk := D.nx } σ2 H2) (hd : ∀ σ H, Pv xs.length σ H → D.nx σ H) :
    ∃ W : Nat → Nat → St → Hp → Prop, (∃ m, W 0 m σ H) ∧ ∀ i m σ H, W i m σ H →
      ((Itt K a).stop i H ∧ D.nx σ H) ∨ ((Itt K a).go i H ∧ ∃ N : St → Hp → Prop, (∀ σ' H', N σ' H' → ∃ m', m' < m ∧ W (i + 1) m' σ' H') ∧ ∀ x H', (Itt K a).yld i H x H' → g x σ H' fun σ2 H2 => tb { D with nx := N, ct := N, bk := D.nx } σ2 H2) := by
  refine ⟨fun i m σ H => m = xs.length - i ∧ i ≤ xs.length ∧ Pv i σ H, ⟨xs.length, by simp, Nat.zero_le _, h0⟩, ?_⟩
  rintro i m σ H ⟨rfl, hi, p⟩
  have q := hl i σ H hi p
  by_cases hlt : i < xs.length
  · refine .inr ⟨⟨xs, xs[i], q, by simp [hlt]⟩, Pv (i + 1), fun σ' H' p' => ⟨xs.length - (i + 1), by omega, rfl, hlt, p'⟩, fun x H' y => ?_⟩
    obtain ⟨e, y⟩ := y
    subst e
    exact hs i x σ _ (y xs q) p
  · have e : i = xs.length := by omega
    subst e
    exact .inl ⟨⟨xs, q, Nat.le_refl _⟩, hd σ H p⟩
theorem for_range {lo : Int} {n : Nat} {g : TG} {tb : TS} {D : Ends} {σ : St} {H : Hp} (Pv : Nat → St → Hp → Prop) (h0 : Pv 0 σ H)
    (hs : ∀ i σ H, i < n → Pv i σ H → g (.int (lo + i)) σ H fun σ2 H2 => tb { D with nx := Pv (i + 1), ct := Pv (i + 1), bk := D.nx } σ2 H2) (hd : ∀ σ H, Pv n σ H → D.nx σ H) :
    ∃ W : Nat → Nat → St → Hp → Prop, (∃ m, W 0 m σ H) ∧ ∀ i m σ H, W i m σ H →
      ((Itr lo n).stop i H ∧ D.nx σ H) ∨ ((Itr lo n).go i H ∧ ∃ N : St → Hp → Prop, (∀ σ' H', N σ' H' → ∃ m', m' < m ∧ W (i + 1) m' σ' H') ∧ ∀ x H', (Itr lo n).yld i H x H' → g x σ H' fun σ2 H2 => tb { D with nx := N, ct := N, bk := D.nx } σ2 H2) := by
  refine ⟨fun i m σ H => m = n - i ∧ i ≤ n ∧ Pv i σ H, ⟨n, by simp, Nat.zero_le _, h0⟩, ?_⟩
  rintro i m σ H ⟨rfl, hi, p⟩
  by_cases hlt : i < n
  · refine .inr ⟨hlt, Pv (i + 1), fun σ' H' p' => ⟨n - (i + 1), by omega, rfl, hlt, p'⟩, fun x H' y => ?_⟩
    obtain ⟨e, y⟩ := y
    subst e y
    exact hs i σ _ hlt p
  · have e : i = n := by omega
    subst e
    exact .inl ⟨Nat.le_refl _, hd σ H p⟩
end L2

namespace L2
open PySem PySem.Spec PyProof.Rows

abbrev R2 := V → V → Hp → VK → Prop
/-- a two-place operation on values: f is binaryOp op, inplaceOp op or compareOp op -/
def OpR (X : Cx) (f : Value → Value → Sem Value) (r : R2) : Prop :=
  ∀ (pins : List (Addr × Obj)) (s : Shared) (σ : St) (H : Hp) (x y : V) (v u : Value) (Q : VK), Inv X pins σ H s → RelV x v → RelV y u → r x y H Q →
    wpAny (model X.prog X.w) X.A (f v u) (EP X pins σ Q) X.xe s
/-- a one-place operation -/
def UnR (X : Cx) (f : Value → Sem Value) (r : V → Hp → VK → Prop) : Prop :=
  ∀ (pins : List (Addr × Obj)) (s : Shared) (σ : St) (H : Hp) (x : V) (v : Value) (Q : VK), Inv X pins σ H s → RelV x v → r x H Q →
    wpAny (model X.prog X.w) X.A (f v) (EP X pins σ Q) X.xe s
/-- a call of a value that is known (a builtin, a type) with values -/
def CallR (X : Cx) (f : Value) (r : List V → Hp → VK → Prop) : Prop :=
  ∀ (pins : List (Addr × Obj)) (s : Shared) (σ : St) (H : Hp) (xs : List V) (us : List Value) (Q : VK), Inv X pins σ H s → Vals xs us → r xs H Q →
    wpAny (model X.prog X.w) X.A (call f us) (EP X pins σ Q) X.xe s
/-- a value's truth -/
def TruR (X : Cx) (r : V → Hp → (Bool → Hp → Prop) → Prop) : Prop :=
  ∀ (pins : List (Addr × Obj)) (s : Shared) (σ : St) (H : Hp) (x : V) (v : Value) (Q : Bool → Hp → Prop), Inv X pins σ H s → RelV x v → r x H Q →
    wpAny (model X.prog X.w) X.A (truthy v) (TP X pins σ Q) X.xe s

def tOp (r : R2) (ta tb : TE) : TE := fun σ H Q => ta σ H fun x H1 => tb σ H1 fun y H2 => r x y H2 Q
def tUn (r : V → Hp → VK → Prop) (ta : TE) : TE := fun σ H Q => ta σ H fun x H1 => r x H1 Q
/-- ints in, under C, and a value out -/
def rI (C : Int → Int → Prop) (g : Int → Int → V) : R2 := fun x y H Q => ∃ i j, x = .int i ∧ y = .int j ∧ C i j ∧ Q (g i j) H
def rI0 (g : Int → Int → V) : R2 := fun x y H Q => ∃ i j, x = .int i ∧ y = .int j ∧ Q (g i j) H
def rU (g : Int → V) : V → Hp → VK → Prop := fun x H Q => ∃ i, x = .int i ∧ Q (g i) H

section
variable {X : Cx} {a b c : Expr} {ta tb tc : TE} {pos : Pos}

theorem binT (ha : PE X a ta) (hb : PE X b tb) {pins : List (Addr × Obj)} {s : Shared} {σ : St} {H : Hp} {R : V → V → Hp → Prop} (I : Inv X pins σ H s)
    (h : ta σ H fun x H1 => tb σ H1 fun y H2 => R x y H2) {Q : Value → Shared → Prop} {f : Value → Value → Sem Value}
    (hf : ∀ v u s2 x y H2, Inv X pins σ H2 s2 → RelV x v → RelV y u → R x y H2 → wpAny (model X.prog X.w) X.A (f v u) Q X.xe s2) :
    wpAny (model X.prog X.w) X.A (eval a X.env) (fun v s₁ => wpAny (model X.prog X.w) X.A (eval b X.env) (fun u s₂ => wpAny (model X.prog X.w) X.A (f v u) Q X.xe s₂) X.xe s₁) X.xe s := by
  refine thn (ha pins s σ H _ I h) fun v s1 ⟨x, H1, I1, r1, q1⟩ => ?_
  refine thn (hb pins s1 σ H1 _ I1 q1) fun u s2 ⟨y, H2, I2, r2, q2⟩ => ?_
  exact hf v u s2 x y H2 I2 r1 r2 q2

theorem pe_op {op : Operator} {r : R2} (ho : OpR X (binaryOp op) r) (ha : PE X a ta) (hb : PE X b tb) : PE X (.BinOp a op b pos) (tOp r ta tb) := by
  intro pins s σ H Q I h
  exact wpAny_BinOp (binT ha hb I h fun v u s2 x y H2 I2 rx ry q => ho pins s2 σ H2 x y v u Q I2 rx ry q)
theorem pe_un {op : UnaryOp} {r : V → Hp → VK → Prop} (ho : UnR X (unaryOp op) r) (ha : PE X a ta) : PE X (.UnaryOp op a pos) (tUn r ta) := by
  intro pins s σ H Q I h
  exact UnaryOp_ (thn (ha pins s σ H _ I h) fun v s1 ⟨x, H1, I1, r1, q1⟩ => ho pins s1 σ H1 x v Q I1 r1 q1)
/-! ### ints -/
theorem opI {f : Value → Value → Sem Value} {C : Int → Int → Prop} {g : Int → Int → Int}
    (rule : ∀ (i j : Int) (t u : Tok) (s : Shared) (Q : Value → Shared → Prop) (E : Value → Shared → Prop), C i j → Q (.int (g i j) s.toks) { s with toks := s.toks + 1 } → wpAny (model X.prog X.w) X.A (f (.int i t) (.int j u)) Q E s) :
    OpR X f (rI C fun i j => .int (g i j)) := by
  intro pins s σ H x y v u Q I rx ry h
  obtain ⟨i, j, rfl, rfl, hc, q⟩ := h
  obtain ⟨t, rfl⟩ := rx
  obtain ⟨t', rfl⟩ := ry
  exact rule i j t t' s _ _ hc ⟨.int (g i j), H, I.tok _, ⟨_, rfl⟩, q⟩
theorem opI0 {f : Value → Value → Sem Value} {g : Int → Int → Int}
    (rule : ∀ (i j : Int) (t u : Tok) (s : Shared) (Q : Value → Shared → Prop) (E : Value → Shared → Prop), Q (.int (g i j) s.toks) { s with toks := s.toks + 1 } → wpAny (model X.prog X.w) X.A (f (.int i t) (.int j u)) Q E s) :
    OpR X f (rI0 fun i j => .int (g i j)) := by
  intro pins s σ H x y v u Q I rx ry h
  obtain ⟨i, j, rfl, rfl, q⟩ := h
  obtain ⟨t, rfl⟩ := rx
  obtain ⟨t', rfl⟩ := ry
  exact rule i j t t' s _ _ ⟨.int (g i j), H, I.tok _, ⟨_, rfl⟩, q⟩
theorem opB0 {f : Value → Value → Sem Value} {g : Int → Int → Bool}
    (rule : ∀ (i j : Int) (t u : Tok) (s : Shared) (Q : Value → Shared → Prop) (E : Value → Shared → Prop), Q (.bool (g i j)) s → wpAny (model X.prog X.w) X.A (f (.int i t) (.int j u)) Q E s) :
    OpR X f (rI0 fun i j => .bl (g i j)) := by
  intro pins s σ H x y v u Q I rx ry h
  obtain ⟨i, j, rfl, rfl, q⟩ := h
  obtain ⟨t, rfl⟩ := rx
  obtain ⟨t', rfl⟩ := ry
  exact rule i j t t' s _ _ ⟨.bl (g i j), H, I, rfl, q⟩

def CDiv (i j : Int) : Prop := 0 < j ∧ j < 1073741824
def CDivN (i j : Int) : Prop := j ≠ 0 ∧ j.natAbs < 1073741824
def CPow (i j : Int) : Prop := 0 ≤ j ∧ j ≤ 1000000 ∧ i.natAbs < 2 ^ 64
def CMul (i j : Int) : Prop := (-(2 ^ 64) < i ∧ i < 2 ^ 64) ∨ (-(2 ^ 64) < j ∧ j < 2 ^ 64)
theorem CMul.ok {i j : Int} (h : CMul i j) : IntMulOk i j := by
  rcases h with ⟨h1, h2⟩ | ⟨h1, h2⟩
  · exact .of_left (intBits_le_64 h1 h2)
  · exact .of_right (intBits_le_64 h1 h2)
theorem op_add : OpR X (binaryOp .Add) (rI0 fun i j => .int (i + j)) := opI0 fun _ _ _ _ _ _ _ q => add_int q
theorem op_sub : OpR X (binaryOp .Sub) (rI0 fun i j => .int (i - j)) := opI0 fun _ _ _ _ _ _ _ q => sub_int q
theorem op_mul : OpR X (binaryOp .Mult) (rI CMul fun i j => .int (i * j)) := opI fun _ _ _ _ _ _ _ hc q => mul_int q hc.ok
/-- // by a positive divisor -/
theorem op_fdiv : OpR X (binaryOp .FloorDiv) (rI CDiv fun i j => .int (i / j)) := opI fun i j _ _ _ _ _ hc q => by
  have h1 : (0 : Int) < j := hc.1
  have h2 : j < 1073741824 := hc.2
  exact floordiv_int (by omega) (by rw [Int.fdiv_eq_ediv_of_nonneg i (by omega)]; exact q) (.inl (PyProof.noPylong_small (by omega)))
/-- % by a positive divisor of any size -/
theorem op_mod : OpR X (binaryOp .Mod) (rI (fun _ j => 0 < j) fun i j => .int (i % j)) := opI fun i j _ _ _ _ _ hc q => by
  have h1 : (0 : Int) < j := hc
  exact mod_int' (by omega) (by rw [Int.fmod_eq_emod_of_nonneg i (by omega)]; exact q)
theorem op_pow : OpR X (binaryOp .Pow) (rI CPow fun i j => .int (i ^ j.toNat)) := opI fun _ _ _ _ _ _ _ hc q => pow_int_small hc.1 hc.2.1 hc.2.2 q
theorem unI {f : Value → Sem Value} {g : Int → Int}
    (rule : ∀ (i : Int) (t : Tok) (s : Shared) (Q : Value → Shared → Prop) (E : Value → Shared → Prop), Q (.int (g i) s.toks) { s with toks := s.toks + 1 } → wpAny (model X.prog X.w) X.A (f (.int i t)) Q E s) :
    UnR X f (rU fun i => .int (g i)) := by
  intro pins s σ H x v Q I rx h
  obtain ⟨i, rfl, q⟩ := h
  obtain ⟨t, rfl⟩ := rx
  exact rule i t s _ _ ⟨.int (g i), H, I.tok _, ⟨_, rfl⟩, q⟩
theorem un_neg : UnR X (unaryOp .USub) (rU fun i => .int (-i)) := unI fun _ _ _ _ _ q => neg_int q
/-! ### bools among ints: n += (a < b) -/
end

/-! ### comparisons -/
/-- the scalars that == tells apart as data does -/
def scal : V → V → Bool
  | .non, .non => true | .non, .int _ => true | .int _, .non => true | .non, .bl _ => true | .bl _, .non => true | .non, .str _ => true | .str _, .non => true
  | .int _, .int _ => true | .bl _, .bl _ => true | .str _, .str _ => true | .byt _, .byt _ => true
  | .int _, .str _ => true | .str _, .int _ => true | .bl _, .str _ => true | .str _, .bl _ => true
  | _, _ => false
def rEq : R2 := fun x y H Q => scal x y = true ∧ Q (.bl (decide (x = y))) H
def rNe : R2 := fun x y H Q => scal x y = true ∧ Q (.bl (!decide (x = y))) H

theorem dec_int {i j : Int} : decide (V.int i = V.int j) = (i == j) := by
  rw [Bool.eq_iff_iff]
  simp
theorem dec_bl {i j : Bool} : decide (V.bl i = V.bl j) = (i == j) := by
  rw [Bool.eq_iff_iff]
  simp
theorem dec_str {i j : Str} : decide (V.str i = V.str j) = (i == j) := by
  rw [Bool.eq_iff_iff]
  simp
theorem dec_byt {i j : Array UInt8} : decide (V.byt i = V.byt j) = (i.toList == j.toList) := by
  rw [Bool.eq_iff_iff]
  cases i
  cases j
  simp

section
variable {X : Cx} {a b c : Expr} {ta tb tc : TE} {pos : Pos}
theorem fin_bl {pins : List (Addr × Obj)} {σ : St} {H : Hp} {s : Shared} {Q : VK} {k k' : Bool} (I : Inv X pins σ H s) (q : Q (.bl k) H) (e : k = k') : EP X pins σ Q (.bool k') s := by
  subst e
  exact ⟨.bl k, H, I, rfl, q⟩
theorem op_eq : OpR X (compareOp .Eq) rEq := by
  intro pins s σ H x y v u Q I rx ry h
  obtain ⟨hs, q⟩ := h
  cases x with
  | non =>
    cases rx
    cases y with
    | non => cases ry; exact PySem.EqNone.eq_none_none (fin_bl I q (by simp))
    | bl j => cases ry; exact PySem.EqNone.eq_none_bool (fin_bl I q (by simp))
    | int j => obtain ⟨t', rfl⟩ := ry; exact PySem.EqNone.eq_none_int (fin_bl I q (by simp))
    | str j => obtain ⟨t', rfl⟩ := ry; exact PySem.EqNone.eq_none_str (fin_bl I q (by simp))
    | _ => exact absurd (show false = true from hs) Bool.false_ne_true
  | bl i =>
    cases rx
    cases y with
    | non => cases ry; exact PySem.EqNone.eq_bool_none (fin_bl I q (by simp))
    | bl j => cases ry; exact eq_bool (fin_bl I q dec_bl)
    | str j => obtain ⟨t', rfl⟩ := ry; exact PySem.EqMixed.eq_bool_str (fin_bl I q (by simp))
    | _ => exact absurd (show false = true from hs) Bool.false_ne_true
  | int i =>
    obtain ⟨t, rfl⟩ := rx
    cases y with
    | non => cases ry; exact PySem.EqNone.eq_int_none (fin_bl I q (by simp))
    | int j => obtain ⟨t', rfl⟩ := ry; exact eq_int (fin_bl I q dec_int)
    | str j => obtain ⟨t', rfl⟩ := ry; exact PySem.EqMixed.eq_int_str (fin_bl I q (by simp))
    | _ => exact absurd (show false = true from hs) Bool.false_ne_true
  | str i =>
    obtain ⟨t, rfl⟩ := rx
    cases y with
    | non => cases ry; exact PySem.EqNone.eq_str_none (fin_bl I q (by simp))
    | bl j => cases ry; exact PySem.EqMixed.eq_str_bool (fin_bl I q (by simp))
    | int j => obtain ⟨t', rfl⟩ := ry; exact PySem.EqMixed.eq_str_int (fin_bl I q (by simp))
    | str j => obtain ⟨t', rfl⟩ := ry; exact eq_str (fin_bl I q dec_str)
    | _ => exact absurd (show false = true from hs) Bool.false_ne_true
  | byt i =>
    obtain ⟨t, rfl⟩ := rx
    cases y with
    | byt j => obtain ⟨t', rfl⟩ := ry; exact PySem.W.eq_bytes (fin_bl I q dec_byt)
    | _ => exact absurd (show false = true from hs) Bool.false_ne_true
  | _ => cases y <;> exact absurd (show false = true from hs) Bool.false_ne_true
theorem op_ne : OpR X (compareOp .NotEq) rNe := by
  intro pins s σ H x y v u Q I rx ry h
  obtain ⟨hs, q⟩ := h
  cases x with
  | non =>
    cases rx
    cases y with
    | non => cases ry; exact PySem.EqNone.ne_none_none (fin_bl I q (by simp))
    | bl j => cases ry; exact PySem.EqNone.ne_none_bool (fin_bl I q (by simp))
    | int j => obtain ⟨t', rfl⟩ := ry; exact PySem.EqNone.ne_none_int (fin_bl I q (by simp))
    | str j => obtain ⟨t', rfl⟩ := ry; exact PySem.EqNone.ne_none_str (fin_bl I q (by simp))
    | _ => exact absurd (show false = true from hs) Bool.false_ne_true
  | bl i =>
    cases rx
    cases y with
    | non => cases ry; exact PySem.EqNone.ne_bool_none (fin_bl I q (by simp))
    | bl j => cases ry; exact ne_bool (fin_bl I q (congrArg not dec_bl))
    | str j => obtain ⟨t', rfl⟩ := ry; exact PySem.EqMixed.ne_bool_str (fin_bl I q (by simp))
    | _ => exact absurd (show false = true from hs) Bool.false_ne_true
  | int i =>
    obtain ⟨t, rfl⟩ := rx
    cases y with
    | non => cases ry; exact PySem.EqNone.ne_int_none (fin_bl I q (by simp))
    | int j => obtain ⟨t', rfl⟩ := ry; exact ne_int (fin_bl I q (congrArg not dec_int))
    | str j => obtain ⟨t', rfl⟩ := ry; exact PySem.EqMixed.ne_int_str (fin_bl I q (by simp))
    | _ => exact absurd (show false = true from hs) Bool.false_ne_true
  | str i =>
    obtain ⟨t, rfl⟩ := rx
    cases y with
    | non => cases ry; exact PySem.EqNone.ne_str_none (fin_bl I q (by simp))
    | bl j => cases ry; exact PySem.EqMixed.ne_str_bool (fin_bl I q (by simp))
    | int j => obtain ⟨t', rfl⟩ := ry; exact PySem.EqMixed.ne_str_int (fin_bl I q (by simp))
    | str j => obtain ⟨t', rfl⟩ := ry; exact ne_str (fin_bl I q (congrArg not dec_str))
    | _ => exact absurd (show false = true from hs) Bool.false_ne_true
  | byt i =>
    obtain ⟨t, rfl⟩ := rx
    cases y with
    | byt j => obtain ⟨t', rfl⟩ := ry; exact PySem.W.ne_bytes (fin_bl I q (congrArg not dec_byt))
    | _ => exact absurd (show false = true from hs) Bool.false_ne_true
  | _ => cases y <;> exact absurd (show false = true from hs) Bool.false_ne_true

theorem op_lt : OpR X (compareOp .Lt) (rI0 fun i j => .bl (decide (i < j))) := opB0 fun _ _ _ _ _ _ _ q => lt_int q
theorem op_le : OpR X (compareOp .LtE) (rI0 fun i j => .bl (decide (i ≤ j))) := opB0 fun _ _ _ _ _ _ _ q => le_int q
theorem op_gt : OpR X (compareOp .Gt) (rI0 fun i j => .bl (decide (j < i))) := opB0 fun _ _ _ _ _ _ _ q => gt_int q
theorem op_ge : OpR X (compareOp .GtE) (rI0 fun i j => .bl (decide (j ≤ i))) := opB0 fun _ _ _ _ _ _ _ q => ge_int q
/-- is, is not of two objects that are tracked lists or instances -/
def isObj : HO → Bool
  | .lst _ => true
  | .ins _ _ _ => true
  | _ => false
/-- two rules for one operation: by cases -/
theorem OpR.or {f : Value → Value → Sem Value} {r r' : R2} (h : OpR X f r) (h' : OpR X f r') : OpR X f (fun x y H Q => r x y H Q ∨ r' x y H Q) := by
  intro pins s σ H x y v u Q I rx ry q
  rcases q with q | q
  · exact h pins s σ H x y v u Q I rx ry q
  · exact h' pins s σ H x y v u Q I rx ry q

theorem nomark (b : Expr) {op : CmpOp} (h : op ≠ .In := by decide) (h2 : op ≠ .NotIn := by decide) : behindInMarks op b = false := by
  have e1 : (op == CmpOp.In) = false := by cases op <;> first | rfl | exact absurd rfl h
  have e2 : (op == CmpOp.NotIn) = false := by cases op <;> first | rfl | exact absurd rfl h2
  cases b <;> simp [behindInMarks, e1, e2]
/-- a comparison as a value; hm: nomark b, or (for in, not in) by with_unfolding_all rfl -/
theorem pe_cmpR {op : CmpOp} {r : R2} (ho : OpR X (compareOp op) r) (ha : PE X a ta) (hb : PE X b tb) (hm : behindInMarks op b = false) : PE X (.Compare a [op] [b] pos) (tOp r ta tb) := by
  intro pins s σ H Q I h
  exact wpAny_Compare1 (binT ha hb I h fun v u s2 x y H2 I2 rx ry q => ho pins s2 σ H2 x y v u Q I2 rx ry q) hm
/-- a reading of a value as a test -/
def tTest (t : TE) : TT := fun σ H Q => t σ H fun x H' => ∃ k, x = .bl k ∧ Q k H'
theorem pt_cmpR {op : CmpOp} {r : R2} (ho : OpR X (compareOp op) r) (ha : PE X a ta) (hb : PE X b tb) (hm : behindInMarks op b = false) : PT X (.Compare a [op] [b] pos) (tTest (tOp r ta tb)) := by
  intro pins s σ H Q I h
  refine wpAny_isTrue_Compare1 (thn (ha pins s σ H _ I h) fun v s1 ⟨x, H1, I1, r1, q1⟩ => thn (hb pins s1 σ H1 _ I1 q1) fun u s2 ⟨y, H2, I2, r2, q2⟩ =>
    thn (ho pins s2 σ H2 x y v u _ I2 r1 r2 q2) fun c s3 ⟨z, H3, I3, r3, k, e, q3⟩ => ?_) hm
  subst e
  cases r3
  exact wpAny_truthy_bool ⟨H3, I3, q3⟩
/-- a op1 b op2 c -/
def tChain (r r' : R2) (ta tb tc : TE) : TE := fun σ H Q => ta σ H fun x H1 => tb σ H1 fun y H2 => r x y H2 fun z H3 => ∃ k, z = .bl k ∧
  (if k = true then tc σ H3 fun w' H4 => r' y w' H4 Q else Q (.bl false) H3)
theorem pe_chain {op op' : CmpOp} {r r' : R2} (ho : OpR X (compareOp op) r) (ho' : OpR X (compareOp op') r') (ha : PE X a ta) (hb : PE X b tb) (hc : PE X c tc)
    (hm : lastMarks [op, op'] [b, c] = false := by with_unfolding_all rfl) : PE X (.Compare a [op, op'] [b, c] pos) (tChain r r' ta tb tc) := by
  intro pins s σ H Q I h
  refine Compare_chain (thn (ha pins s σ H _ I h) fun v s1 ⟨x, H1, I1, r1, q1⟩ => chain_link (thn (hb pins s1 σ H1 _ I1 q1) fun u s2 ⟨y, H2, I2, r2, q2⟩ =>
    thn (ho pins s2 σ H2 x y v u _ I2 r1 r2 q2) fun d s3 ⟨z, H3, I3, r3, k, e, q3⟩ => ?_)) hm
  subst e
  cases r3
  refine wpAny_truthy_bool ?_
  cases k with
  | false => exact ite_ff ⟨.bl false, H3, I3, rfl, q3⟩
  | true => exact ite_tt (chain_last (thn (hc pins s3 σ H3 _ I3 q3) fun w' s4 ⟨z', H4, I4, r4, q4⟩ => ho' pins s4 σ H4 y z' u w' Q I4 r2 r4 q4))
theorem pt_chain {op op' : CmpOp} {r r' : R2} (ho : OpR X (compareOp op) r) (ho' : OpR X (compareOp op') r') (ha : PE X a ta) (hb : PE X b tb) (hc : PE X c tc)
    (hm : lastMarks [op, op'] [b, c] = false := by with_unfolding_all rfl) : PT X (.Compare a [op, op'] [b, c] pos) (tTest (tChain r r' ta tb tc)) := by
  intro pins s σ H Q I h
  refine isTrue_chain (thn (ha pins s σ H _ I h) fun v s1 ⟨x, H1, I1, r1, q1⟩ => test_link (thn (hb pins s1 σ H1 _ I1 q1) fun u s2 ⟨y, H2, I2, r2, q2⟩ =>
    thn (ho pins s2 σ H2 x y v u _ I2 r1 r2 q2) fun d s3 ⟨z, H3, I3, r3, k, e, q3⟩ => ?_)) hm
  subst e
  cases r3
  refine wpAny_truthy_bool ?_
  cases k with
  | false =>
    obtain ⟨k', e', q'⟩ := q3
    cases e'
    exact ite_ff ⟨H3, I3, q'⟩
  | true =>
    refine ite_tt (test_last (thn (hc pins s3 σ H3 _ I3 q3) fun w' s4 ⟨z', H4, I4, r4, q4⟩ => thn (ho' pins s4 σ H4 y z' u w' _ I4 r2 r4 q4) fun d' s5 ⟨z2, H5, I5, r5, k2, e2, q5⟩ => ?_))
    subst e2
    cases r5
    exact wpAny_truthy_bool ⟨H5, I5, q5⟩

/-! ### truth -/
/-- a value's truth by the abstract heap -/
def TruV (K : PySem.W.Frag) (x : V) (H : Hp) (k : Bool) : Prop :=
  match x with
  | .non => k = false
  | .bl b => k = b
  | .int i => k = (i != 0)
  | .str y => y.length ≤ sizeLine ∧ k = ((y.length : Int) != 0)
  | .byt y => y.size ≤ sizeLine ∧ k = ((y.size : Int) != 0)
  | .ref p => (∃ xs, SqL K H p xs ∧ k = !xs.isEmpty) ∨ (∃ xs, SqT K H p xs ∧ k = !xs.isEmpty) ∨ ∃ kvs, H p = some (.dK kvs) ∧ k = !kvs.isEmpty
  | _ => False
theorem line63 : (sizeLine : Nat) < 2 ^ 63 := by rw [sizeLine_eq]; decide
/-! ### strs and bytes -/
def PlainIxT (b : Expr) : Prop := ∀ o i, subscripted b false o i = operate [o, i] (getItem o i)
/-! ### scalar builtins, by CallR -/
theorem vals1 {x : V} {us : List Value} (r : Vals [x] us) : ∃ u, us = [u] ∧ RelV x u := by
  cases r with
  | cons r1 r2 => cases r2; exact ⟨_, rfl, r1⟩
theorem vals2 {x y : V} {us : List Value} (r : Vals [x, y] us) : ∃ u w', us = [u, w'] ∧ RelV x u ∧ RelV y w' := by
  cases r with
  | cons r1 r2 =>
    cases r2 with
    | cons r3 r4 => cases r4; exact ⟨_, _, rfl, r1, r3⟩
theorem call_min2 (hc : X.calm = true) : CallR X (.builtin "min") (fun xs H Q => ∃ i j, xs = [.int i, .int j] ∧ Q (.int (if j < i then j else i)) H) := by
  intro pins s σ H xs us Q I r h
  obtain ⟨i, j, rfl, q⟩ := h
  obtain ⟨u, w', rfl, ⟨t, rfl⟩, ⟨t', rfl⟩⟩ := vals2 r
  refine min_two_ints (I.ok.hd hc) fun h' tk k => ⟨_, H, I.kept k, ?_, q⟩
  by_cases hj : j < i
  · rw [if_pos hj, if_pos hj]; exact ⟨_, rfl⟩
  · rw [if_neg hj, if_neg hj]; exact ⟨_, rfl⟩
/-- len of a str, a bytes, a list, a tuple -/
def LenV (K : PySem.W.Frag) (x : V) (H : Hp) (n : Nat) : Prop :=
  match x with
  | .str y => y.length ≤ sizeLine ∧ n = y.length
  | .byt y => y.size ≤ sizeLine ∧ n = y.size
  | .ref p => (∃ xs, SqL K H p xs ∧ n = xs.length) ∨ ∃ xs, SqT K H p xs ∧ n = xs.length
  | _ => False
end
end L2

namespace L2
open PySem PySem.Spec PyProof.Rows

/-! ### an instance, its attributes a map -/
structure ObjM (h : Heap) (x dx C : Addr) (mA : Str → Option Value) : Prop where
  obj : h.get? x = some (PySem.W.instObj C dx)
  ns : h.Ns1 dx mA
  ne : dx ≠ x

theorem lookIn_ns {h : Heap} {dx : Addr} {mA : Str → Option Value} (n : h.Ns1 dx mA) : ∃ od, h.get? dx = some od ∧ ∀ name, PySem.W.lookIn name od = some (mA name) := by
  obtain ⟨o, es, ep, ho, hd, hk, _, hm⟩ := n
  refine ⟨o, ho, fun name => ?_⟩
  have e := hm name
  unfold nsFind findBy at e
  rw [← Array.find?_toList] at e
  unfold PySem.W.lookIn
  rw [hd]
  dsimp only
  split
  · rename_i y q
    rw [q] at e
    exact congrArg some e
  · rename_i q
    rw [q] at e
    have a : es.toList.any (·.refKey) = false := by
      rw [List.any_eq_false]
      intro y hy
      obtain ⟨z, t, hkey⟩ := hk y (Array.mem_toList_iff.mp hy)
      simp [DictEntry.refKey, hkey]
    have a' : ¬ es.toList.any (·.refKey) = true := by rw [a]; exact Bool.false_ne_true
    rw [if_neg a']
    exact congrArg some e

theorem ObjM.look {h : Heap} {x dx C : Addr} {mA : Str → Option Value} (I : ObjM h x dx C mA) : ∃ od, PySem.W.InstAt h x (PySem.W.instObj C dx) C (some od) ∧ ∀ name, PySem.W.lookIn name od = some (mA name) :=
  let ⟨od, ho, hl⟩ := lookIn_ns I.ns
  ⟨od, ⟨I.obj, rfl, rfl, ho⟩, hl⟩

section
variable {prog : Program} {w : World} {A : Around} {E : Value → Shared → Prop} {s : Shared} {K : PySem.W.Frag} {x dx C f : Addr} {mA : Str → Option Value} {name : Str} {v : Value}

theorem get_map {expr : Bool} {Q : Value → Shared → Prop} (X : K.In s.heap) (I : ObjM s.heap x dx C mA) (hg : PySem.W.plainGet K C name = true) (hh : PySem.W.hasDictIn K C = true)
    (ha : PySem.W.findIn K (.ref C) name = some none) (hv : mA name = some v) (hv' : PySem.W.handedIn v = true) (h : Q v { s with toks := s.toks + 1 }) :
    wpAny (model prog w) A (getAttr (.ref x) name expr) Q E s := by
  obtain ⟨od, J, hl⟩ := I.look
  exact PySem.W.get_value X J (PySem.W.plainGet_of hg).1 (PySem.W.findObj_own hh ha rfl (by rw [hl, hv])) hv' h

theorem get_meth {pl : Sem Bool} {Q : Value × List Value → Shared → Prop} (X : K.In s.heap) (I : ObjM s.heap x dx C mA) (hg : PySem.W.plainGet K C name = true)
    (hf : PySem.W.findIn K (.ref C) name = some (some (.ref f))) (ht : PySem.W.isFn K (.ref f) = true) (hv : mA name = none) (h : Q (.ref f, [.ref x]) s) :
    wpAny (model prog w) A (getMethod (.ref x) name pl) Q E s := by
  obtain ⟨od, J, hl⟩ := I.look
  exact PySem.W.method_fn X J (PySem.W.plainGet_of hg).1 (PySem.W.plainGet_of hg).2 hf (beq_iff_eq.mp ht) (by show (PySem.W.lookIn name od).map (·.isSome) = some false; rw [hl, hv]; rfl) h

theorem set_map {ns : List Str} {Q : Unit → Shared → Prop} (X : K.In s.heap) (I : ObjM s.heap x dx C mA)
    (hs : PySem.W.findIn K (.ref C) "__setattr__" = some (some (.builtin "object.__setattr__"))) (hp : PySem.W.plainOver K C = true) (ht : PySem.W.takerIn K C name = some none) (hh : PySem.W.hasDictIn K C = true)
    (hw : PySem.Within mA ns) (hsz : ns.length ≤ sizeLine)
    (h : ∀ h', ObjM h' x dx C (fun y => if y = name then some v else mA y) → Heap.SameBut dx s.heap h' → Q () { s with heap := h', toks := s.toks + 2 }) :
    wpAny (model prog w) A (setAttr (.ref x) name v) Q E s := by
  obtain ⟨od, J, hl⟩ := I.look
  refine PySem.W.set_plain X J hs (PySem.W.osa_open (s := { s with toks := s.toks + 1 }) (r := none) X J hp ht fun b => ?_)
  obtain ⟨cd, hc, hd'⟩ := PySem.W.any_some hh
  have hx : s.heap.get? x = some ⟨.ref C, some dx, .plain, #[]⟩ := I.obj
  refine wpAny_bind (wpAny_pure (wpAny_bind (wpAny_bind (wpAny_loadPart hx (wpAny_bind (PySem.W.Looks.here (s := { s with toks := s.toks + 1 }) (PySem.W.looks_clsIn X hc) ?_))))))
  rw [hd']
  refine wpAny_pure (a := some dx) (wpAny_bind (wpAny_pure (wpAny_bind ?_)))
  refine wpAny_nsSet1 (s := { s with toks := s.toks + 1 }) I.ns fun h' hn2 hs2 => ?_
  obtain ⟨oD, esD, epD, hoD, hdD, hcD⟩ := hn2.count (PySem.Within.cons name v hw)
  refine wpAny_bind (wpAny_lookBehind hoD (by rw [hdD]; exact pastItsLine_dict (Nat.le_trans hcD (by rw [List.length_cons]; omega))) ?_)
  exact wpAny_pure (h _ ⟨(hs2.2 _ (Ne.symm I.ne)).trans I.obj, hn2, I.ne⟩ hs2)

/-- C(..): the dict at the heap's end, the instance behind it; then its __init__ -/
theorem make_map {R : Result → Shared → Prop} {vs : List Value} {kw : List (Str × Value)} (X : K.In s.heap) (hm : PySem.W.makesIn K C = true)
    (hi : PySem.W.findIn K (.ref C) "__init__" = some (some (.ref f))) (hf : PySem.W.typeIn K (.ref f) = some (.type "function"))
    (h : codeAny (model prog w) (A.under (.builtin "type.__call__" ⟨.ref C :: vs, kw⟩)) (.call (.ref f) ⟨.ref (s.heap.objs.size + 1) :: vs, kw⟩) (PySem.W.InitBack (s.heap.objs.size + 1) R)
      { s with heap := (s.heap.push PySem.W.emptyDict).push (PySem.W.instObj C s.heap.objs.size) }) :
    codeAny (model prog w) A (.call (.ref C) ⟨vs, kw⟩) R s := by
  obtain ⟨hh, g, d, t, os⟩ := s
  exact PySem.W.make_core (PySem.W.makes_of X hm) (PySem.W.looks_findIn X hi) (fun self => PySem.W.bind_fn X self hf) (.inl rfl) h
end

/-! ### the attributes as a list of pairs -/
def putF (f : Str) (v : V) : List (Str × V) → List (Str × V)
  | [] => [(f, v)]
  | (g, x) :: r => if g = f then (g, v) :: r else (g, x) :: putF f v r
theorem lookup_putF (f g : Str) (v : V) : ∀ fs : List (Str × V), (putF f v fs).lookup g = if g = f then some v else fs.lookup g
  | [] => by
    show List.lookup g [(f, v)] = _
    by_cases h : g = f
    · have hb : (g == f) = true := beq_iff_eq.mpr h
      simp only [List.lookup, hb, if_pos h]
    · have hb : (g == f) = false := beq_eq_false_iff_ne.mpr h
      simp only [List.lookup, hb, if_neg h]
  | (k, x) :: r => by
    have ih := lookup_putF f g v r
    rw [show putF f v ((k, x) :: r) = (if k = f then (k, v) :: r else (k, x) :: putF f v r) from rfl]
    by_cases hk : k = f
    · rw [if_pos hk]
      by_cases h : g = k
      · have hb : (g == k) = true := beq_iff_eq.mpr h
        simp only [List.lookup, hb, if_pos (h.trans hk)]
      · have hb : (g == k) = false := beq_eq_false_iff_ne.mpr h
        simp only [List.lookup, hb, if_neg (fun e : g = f => h (e.trans hk.symm))]
    · rw [if_neg hk]
      by_cases h : g = k
      · have hb : (g == k) = true := beq_iff_eq.mpr h
        simp only [List.lookup, hb, if_neg (fun e : g = f => hk (h.symm.trans e))]
      · have hb : (g == k) = false := beq_eq_false_iff_ne.mpr h
        simp only [List.lookup, hb]
        exact ih
theorem keys_putF (f : Str) (v : V) : ∀ fs : List (Str × V), f ∈ (putF f v fs).map (·.1) ∧ ∀ g, g ∈ fs.map (·.1) → g ∈ (putF f v fs).map (·.1)
  | [] => ⟨by simp [putF], fun g h => by simp at h⟩
  | (k, x) :: r => by
    obtain ⟨i1, i2⟩ := keys_putF f v r
    rw [show putF f v ((k, x) :: r) = (if k = f then (k, v) :: r else (k, x) :: putF f v r) from rfl]
    by_cases hk : k = f
    · rw [if_pos hk]
      subst hk
      exact ⟨by simp, fun g h => by simpa using h⟩
    · rw [if_neg hk]
      refine ⟨?_, fun g h => ?_⟩
      · rw [List.map_cons]
        exact List.mem_cons_of_mem _ i1
      · rw [List.map_cons] at h ⊢
        rcases List.mem_cons.mp h with e | e
        · exact List.mem_cons.mpr (.inl e)
        · exact List.mem_cons_of_mem _ (i2 g e)
theorem length_putF (f : Str) (v : V) : ∀ fs : List (Str × V), (putF f v fs).length ≤ fs.length + 1
  | [] => by simp [putF]
  | (k, x) :: r => by
    have ih := length_putF f v r
    rw [show putF f v ((k, x) :: r) = (if k = f then (k, v) :: r else (k, x) :: putF f v r) from rfl]
    by_cases hk : k = f
    · rw [if_pos hk, List.length_cons, List.length_cons]; omega
    · rw [if_neg hk, List.length_cons, List.length_cons]; omega

theorem RelO.some_of {v : V} {o : Option Value} (r : RelO (some v) o) : ∃ u, o = some u ∧ RelV v u := by
  cases o with
  | none => exact (show False from r).elim
  | some u => exact ⟨u, rfl, r⟩
theorem RelO.none_of {o : Option Value} (r : RelO none o) : o = none := by
  cases o with
  | none => rfl
  | some u => exact (show False from r).elim
theorem handed_of {v : V} {u : Value} (r : RelV v u) : PySem.W.handedIn u = true := by
  cases v with
  | non => cases (show u = Value.none from r); rfl
  | bl b => cases (show u = Value.bool b from r); rfl
  | int i => obtain ⟨t, e⟩ := (show ∃ t, u = Value.int i t from r); cases e; rfl
  | str x => obtain ⟨t, e⟩ := (show ∃ t, u = Value.str x t from r); cases e; rfl
  | byt b => obtain ⟨t, e⟩ := (show ∃ t, u = Value.bytes b t from r); cases e; rfl
  | flt b => obtain ⟨t, e⟩ := (show ∃ t, u = Value.float b t from r); cases e; rfl
  | ref a => cases (show u = Value.ref a from r); rfl
  | ty n => cases (show u = Value.type n from r); rfl

section
variable {P : Program} {w : World} {H H' : Hp} {h h' : Heap} {a C dx : Addr} {fs fs' : List (Str × V)}
theorem ins_get (hok : HOk P w H h) (e : H a = some (.ins C dx fs)) : ∃ mA, ObjM h a dx C mA ∧ (∀ f, RelO (fs.lookup f) (mA f)) ∧ PySem.Within mA (fs.map (·.1)) ∧ fs.length ≤ 1000 ∧ H dx = some (.own a) := by
  obtain ⟨d, z, ne, ob, mA, n, r, q⟩ := (show ObjOk P w H h a (.ins C dx fs) from hok a _ e)
  exact ⟨mA, ⟨ob, n, ne⟩, r, q, z, d⟩
end

/-! ### what of the text a class must have -/
structure Cls (K : PySem.W.Frag) (C : Addr) : Prop where
  pg : PySem.W.plainGet K C Str.empty = true
  hd : PySem.W.hasDictIn K C = true
  po : PySem.W.plainOver K C = true
  sa : PySem.W.findIn K (.ref C) "__setattr__" = some (some (.builtin "object.__setattr__"))
theorem Cls.get {K : PySem.W.Frag} {C : Addr} (c : Cls K C) (f : Str) : PySem.W.plainGet K C f = true := c.pg
/-- no class of it has the name -/
def NoAttr (K : PySem.W.Frag) (C : Addr) (f : Str) : Prop := PySem.W.findIn K (.ref C) f = some none
theorem NoAttr.taker {K : PySem.W.Frag} {C : Addr} {f : Str} (n : NoAttr K C f) : PySem.W.takerIn K C f = some none := by
  unfold PySem.W.takerIn
  rw [show PySem.W.findIn K (.ref C) f = some none from n]
  rfl
/-- a constant of the class -/
structure Con (K : PySem.W.Frag) (C : Addr) (f : Str) (v : V) (u : Value) : Prop where
  at_ : PySem.W.findIn K (.ref C) f = some (some u)
  rel : RelV v u
  get : PySem.W.specialIn K u "__get__" = some none
  cp : PySem.W.copiedNames.contains f = false
/-- a method: a plain def of the class or of one above it -/
structure Meth (K : PySem.W.Frag) (C : Addr) (m : Str) (f : Addr) : Prop where
  at_ : PySem.W.findIn K (.ref C) m = some (some (.ref f))
  fn : PySem.W.isFn K (.ref f) = true
  kp : PySem.W.keepIn K (.ref f) = true

section
variable {X : Cx} {pins : List (Addr × Obj)} {σ : St} {H : Hp} {s : Shared} {a C dx : Addr} {fs : List (Str × V)} {f : Str} {v : V} {A : Around} {E : Value → Shared → Prop}

theorem getattr_ok {b : Bool} {Q : Value → Shared → Prop} (I : Inv X pins σ H s) (e : H a = some (.ins C dx fs)) (c : Cls X.K C) (n : NoAttr X.K C f) (l : fs.lookup f = some v)
    (h : ∀ u s', Inv X pins σ H s' → RelV v u → Q u s') : wpAny (model X.prog X.w) A (getAttr (.ref a) f b) Q E s := by
  obtain ⟨mA, O, r, _, _, _⟩ := ins_get I.hok e
  obtain ⟨u, hu, ru⟩ := RelO.some_of (v := v) (o := mA f) (by rw [← l]; exact r f)
  exact get_map I.kIn O (c.get f) c.hd n hu (handed_of ru) (h u _ (I.tok _) ru)

theorem getmeth_ok {m : Str} {g : Addr} {pl : Sem Bool} {Q : Value × List Value → Shared → Prop} (I : Inv X pins σ H s) (e : H a = some (.ins C dx fs)) (c : Cls X.K C) (k : Meth X.K C m g) (l : fs.lookup m = none)
    (h : Q (.ref g, [.ref a]) s) : wpAny (model X.prog X.w) A (getMethod (.ref a) m pl) Q E s := by
  obtain ⟨mA, O, r, _, _, _⟩ := ins_get I.hok e
  have hn : mA m = none := RelO.none_of (by rw [← l]; exact r m)
  exact get_meth I.kIn O (c.get m) k.at_ k.fn hn h

theorem setattr_ok {y : V} {u : Value} {Q : Unit → Shared → Prop} (I : Inv X pins σ H s) (e : H a = some (.ins C dx fs)) (c : Cls X.K C) (n : NoAttr X.K C f) (hl : fs.length < 1000) (ry : RelV y u)
    (h : ∀ s', Inv X pins σ (upd H a (.ins C dx (putF f y fs))) s' → Q () s') : wpAny (model X.prog X.w) A (setAttr (.ref a) f u) Q E s := by
  obtain ⟨mA, O, r, wi, _, ho⟩ := ins_get I.hok e
  have hz : (fs.map (·.1)).length ≤ sizeLine := by rw [List.length_map, sizeLine_eq]; omega
  refine set_map I.kIn O c.sa c.po n.taker c.hd wi hz fun h' O' sb => h _ ?_
  have hd : ∃ o, h'.get? dx = some o := let ⟨o, _, _, e', _⟩ := O'.ns; ⟨o, e'⟩
  refine I.write (x := a) (e := dx) (by rw [e]; exact True.intro) (.inr ho) (fun b q hb z => (sb.2 b hb).trans z) hd ?_
  refine ⟨by rw [upd_ne O.ne]; exact ho, ?_, O.ne, O'.obj, _, O'.ns, fun g => ?_, fun g hg => ?_⟩
  · have := length_putF f y fs; omega
  · show RelO ((putF f y fs).lookup g) (if g = f then some u else mA g)
    rw [lookup_putF]
    by_cases q : g = f
    · rw [if_pos q, if_pos q]; exact ry
    · rw [if_neg q, if_neg q]; exact r g
  · by_cases q : g = f
    · rw [q]; exact (keys_putF f y fs).1
    · refine (keys_putF f y fs).2 g (wi g fun z => hg ?_)
      show (if g = f then some u else mA g) = none
      rw [if_neg q]; exact z

/-- a new instance, tracked, without attributes -/
theorem Inv.made (I : Inv X pins σ H s) : Inv X pins σ (upd (upd H s.heap.objs.size (.own (s.heap.objs.size + 1))) (s.heap.objs.size + 1) (.ins C s.heap.objs.size []))
    { s with heap := (s.heap.push PySem.W.emptyDict).push (PySem.W.instObj C s.heap.objs.size) } := by
  have e1 : (s.heap.push PySem.W.emptyDict).get? s.heap.objs.size = some PySem.W.emptyDict := Heap.get?_push_size s.heap rfl
  have e2 : ((s.heap.push PySem.W.emptyDict).push (PySem.W.instObj C s.heap.objs.size)).get? (s.heap.objs.size + 1) = some (PySem.W.instObj C s.heap.objs.size) := by
    have := Heap.get?_push_size (s.heap.push PySem.W.emptyDict) (o := PySem.W.instObj C s.heap.objs.size) rfl
    rwa [Heap.size_push] at this
  have e3 : (s.heap.push PySem.W.emptyDict).Ns s.heap.objs.size (fun _ => none) := ⟨PySem.W.emptyDict, #[], _, e1, rfl, (fun e he => absurd he (by simp)), fun _ => rfl⟩
  have I1 := I.laid (a := s.heap.objs.size) (o := .own (s.heap.objs.size + 1)) (h' := s.heap.push PySem.W.emptyDict) (t' := s.toks) (fun b u q => Heap.get?_push_of_some _ q) (Nat.le_refl _) ⟨_, e1⟩
  refine I1.laid (a := s.heap.objs.size + 1) (o := .ins C s.heap.objs.size []) (t' := s.toks) (fun b u q => Heap.get?_push_of_some _ q) (Nat.le_of_eq (Heap.size_push _ _)) ?_
  have ne : s.heap.objs.size ≠ s.heap.objs.size + 1 := Nat.ne_of_lt (Nat.lt_succ_self _)
  refine ⟨by rw [upd_ne ne, upd_same], Nat.zero_le _, ne, e2, fun _ => none, (Heap.Ns1.of_empty e3).at fun o q => Heap.get?_push_of_some _ q, fun _ => True.intro, fun y hy => absurd rfl hy⟩

/-- e.f where nothing but the object is asked: through attributeBase (super) and the last hold -/
theorem attr_of {prog : Program} {w : World} {env : Env} {e : Expr} {f : Str} {pos : Pos} {s : Shared} {Q : Value → Shared → Prop} (hb : attributeBase e f env (eval e env) = eval e env)
    (h : wpAny (model prog w) A (eval e env) (fun o s₁ => wpAny (model prog w) A (getAttr o f true) Q E s₁) E s) : wpAny (model prog w) A (eval (.Attribute e f pos) env) Q E s :=
  Attribute_any_ h (by rw [arm_eval_Attribute, hb])
end

/-! ### readings and rules -/
/-- e.f, an attribute of the instance -/
def tFld (K : PySem.W.Frag) (ta : TE) (f : Str) : TE := fun σ H Q => ta σ H fun x H1 => ∃ a C dx fs v, x = .ref a ∧ H1 a = some (.ins C dx fs) ∧ Cls K C ∧ NoAttr K C f ∧ fs.lookup f = some v ∧ Q v H1
/-- e.f, a constant of the class -/
def tCon (K : PySem.W.Frag) (ta : TE) (f : Str) : TE := fun σ H Q => ta σ H fun x H1 => ∃ a C dx fs v u, x = .ref a ∧ H1 a = some (.ins C dx fs) ∧ Cls K C ∧ Con K C f v u ∧ fs.lookup f = none ∧ Q v H1
/-- e.f = value -/
def sFld (K : PySem.W.Frag) (ta tv : TE) (f : Str) : TS := fun D σ H => tv σ H fun y H1 => ta σ H1 fun x H2 => ∃ a C dx fs, x = .ref a ∧ H2 a = some (.ins C dx fs) ∧ Cls K C ∧ NoAttr K C f ∧ fs.length < 1000 ∧
  D.nx σ (upd H2 a (.ins C dx (putF f y fs)))
/-- an augmented operator on two values -/
def InOp (X : Cx) (op : Operator) (rd : V → V → Hp → VK → Prop) : Prop :=
  ∀ (pins : List (Addr × Obj)) (s : Shared) (σ : St) (H : Hp) (x y : V) (u v : Value) (Q : VK), Inv X pins σ H s → RelV x u → RelV y v → rd x y H Q → wpAny (model X.prog X.w) X.A (inplaceOp op u v) (EP X pins σ Q) X.xe s
/-- e.f op= value -/
def sFldAug (K : PySem.W.Frag) (ta tv : TE) (rd : V → V → Hp → VK → Prop) (f : Str) : TS := fun D σ H => ta σ H fun x H1 => ∃ a C dx fs v, x = .ref a ∧ H1 a = some (.ins C dx fs) ∧ Cls K C ∧ NoAttr K C f ∧ fs.lookup f = some v ∧
  tv σ H1 fun y H2 => rd v y H2 fun z H3 => ∃ dx' fs', H3 a = some (.ins C dx' fs') ∧ fs'.length < 1000 ∧ D.nx σ (upd H3 a (.ins C dx' (putF f z fs')))

section
variable {X : Cx} {o e value : Expr} {f : Str} {pos pos' tpos : Pos} {ta tv : TE}
theorem pe_fld (he : PE X e ta) (hb : attributeBase e f X.env (eval e X.env) = eval e X.env) : PE X (.Attribute e f pos) (tFld X.K ta f) := by
  intro pins s σ H Q I h
  refine attr_of hb (thn (he pins s σ H _ I h) fun u s1 ⟨x, H1, I1, rx, a, C, dx, fs, v, ex, ea, c, n, l, q⟩ => ?_)
  subst ex
  obtain rfl : u = Value.ref a := rx
  exact getattr_ok I1 ea c n l fun u' s2 I2 ru => ⟨v, H1, I2, ru, q⟩
theorem ps_fld (ha : PE X o ta) (hv : PE X value tv) (hs : swapsWith value (some (.Attribute o f pos')) pos.line X.env = pure false) : PS X (.Assign [.Attribute o f pos'] value pos) (sFld X.K ta tv f) := by
  intro pins s σ H D I h
  refine plainObj_wpAny_Assign_Attribute (thn (hv pins s σ H _ I h) fun u s1 ⟨y, H1, I1, ry, q⟩ => thn (ha pins s1 σ H1 _ I1 q) fun ov s2 ⟨x, H2, I2, rx, a, C, dx, fs, ex, ea, c, n, l, q2⟩ => ?_) hs
  subst ex
  obtain rfl : ov = Value.ref a := rx
  exact setattr_ok I2 ea c n l ry fun s3 I3 => ⟨σ, _, I3, q2⟩
def rAdd : V → V → Hp → VK → Prop := fun x y H Q => ∃ i j, x = .int i ∧ y = .int j ∧ Q (.int (i + j)) H
def rSub : V → V → Hp → VK → Prop := fun x y H Q => ∃ i j, x = .int i ∧ y = .int j ∧ Q (.int (i - j)) H
/-- what is between an instance and its method: the tree of a method call -/
theorem methcall_of {pl : Sem Bool} {m : Str} {apos : Pos} {args : List Expr} {pins : List (Addr × Obj)} {s : Shared} {σ : St} {H : Hp} {Q : Value → Shared → Prop} {te : TE} (he : PE X e te) (I : Inv X pins σ H s)
    (h : te σ H fun x H1 => ∃ a C dx fs g, x = .ref a ∧ H1 a = some (.ins C dx fs) ∧ Cls X.K C ∧ Meth X.K C m g ∧ fs.lookup m = none ∧
      ∀ s1, Inv X pins σ H1 s1 → wpAny (model X.prog X.w) X.A (callWith pos (.ref g) [.ref a] (backTo pos (starEach args X.env)) (backToKw pos (keywordEach [] X.env))) Q X.xe s1)
    (ht : eval (.Call (.Attribute e m apos) args [] pos) X.env = (do
      let ov ← eval e X.env
      standAt apos.atName
      let (f, first) ← holding [ov] (getMethod ov m pl)
      callWith pos f first (backTo pos (starEach args X.env)) (backToKw pos (keywordEach [] X.env)))) :
    wpAny (model X.prog X.w) X.A (eval (.Call (.Attribute e m apos) args [] pos) X.env) Q X.xe s := by
  refine PySem.W.methodCall_KW (pl := pl) (thn (he pins s σ H _ I h) fun u s1 ⟨x, H1, I1, rx, a, C, dx, fs, g, ex, ea, c, k, l, q⟩ => ?_) ht
  subst ex
  obtain rfl : u = Value.ref a := rx
  exact getmeth_ok I1 ea c k l (q s1 I1)
end

/-! ### isinstance -/
section
variable {X : Cx} {pins : List (Addr × Obj)} {σ : St} {H : Hp} {s : Shared} {A : Around} {E : Value → Shared → Prop} {Q : Value → Shared → Prop} {c : Value} {b : Bool}
/-- the type of a value, as the fragment's deciders take it; for an instance its class -/
inductive TyOf (K : PySem.W.Frag) (H : Hp) : V → Value → Prop where
  | non : TyOf K H .non (.type "NoneType")
  | bl (x : Bool) : TyOf K H (.bl x) (.type "bool")
  | int (i : Int) : TyOf K H (.int i) (.type "int")
  | str (x : Str) : TyOf K H (.str x) (.type "str")
  | flt (x : UInt64) : TyOf K H (.flt x) (.type "float")
  | lst {a : Addr} {xs : List V} (e : H a = some (.lst xs)) : TyOf K H (.ref a) (.type "list")
  | frz {a : Addr} {o : Obj} {xs : List V} (e : H a = some (.frz o (.lst xs))) : TyOf K H (.ref a) (.type "list")
  | tup {a : Addr} {xs : List V} (e : H a = some (.tup xs)) : TyOf K H (.ref a) (.type "tuple")
  | dK {a : Addr} {kvs : List (Key × V)} (e : H a = some (.dK kvs)) : TyOf K H (.ref a) (.type "dict")
  | dT {a : Addr} {kvs : List (List Key × V)} (e : H a = some (.dT kvs)) : TyOf K H (.ref a) (.type "dict")
  | ins {a C dx : Addr} {fs : List (Str × V)} (e : H a = some (.ins C dx fs)) (cl : Cls K C) (ha : PySem.W.findIn K (.ref C) "__class__" = some (some (.builtin "object.__class__")))
      (hn : PySem.W.specialIn K (.builtin "object.__class__") "__get__" = some (some (.builtin "getset_descriptor.__get__"))) (htk : PySem.W.takesIn K (.builtin "object.__class__") = some true)
      (hm : PySem.W.mroIn K C (.type "object") = some true) : TyOf K H (.ref a) (.ref C)
/-- isinstance(x, c) for one class c, a built-in or an own one: kitOne's answer -/
theorem isinst_ok {x : V} {u t : Value} (I : Inv X pins σ H s) (rx : RelV x u) (ty : TyOf X.K H x t) (e : PySem.W.kitOne X.K t c = some b) (h : ∀ tk, Q (.bool b) { s with toks := tk }) :
    wpAny (model X.prog X.w) A (call (.builtin "isinstance") [u, c]) Q E s := by
  cases ty with
  | non => cases (show u = Value.none from rx); exact PySem.W.kia_one PySem.W.kitx_none I.kIn True.intro e (fun z => nomatch z) h
  | bl y => cases (show u = Value.bool y from rx); exact PySem.W.kia_one PySem.W.kitx_bool I.kIn True.intro e (fun z => nomatch z) h
  | int i => obtain ⟨t, q⟩ := (show ∃ t, u = Value.int i t from rx); cases q; exact PySem.W.kia_one PySem.W.kitx_int I.kIn True.intro e (fun z => nomatch z) h
  | str y => obtain ⟨t, q⟩ := (show ∃ t, u = Value.str y t from rx); cases q; exact PySem.W.kia_one PySem.W.kitx_str I.kIn True.intro e (fun z => nomatch z) h
  | flt y => obtain ⟨t, q⟩ := (show ∃ t, u = Value.float y t from rx); cases q; exact PySem.W.kia_one PySem.W.kitx_float I.kIn True.intro e (fun z => nomatch z) h
  | @lst a xs ea =>
    cases (show u = Value.ref a from rx)
    obtain ⟨_, _, n, _, h1⟩ := (show ObjOk X.prog X.w H s.heap a (.lst xs) from I.hok a _ ea)
    exact PySem.W.kia_one PySem.W.kitx_list I.kIn ⟨_, h1, rfl⟩ e (fun z => nomatch z) h
  | @frz a ob xs ea =>
    cases (show u = Value.ref a from rx)
    obtain ⟨_, _, _, n, _, h1⟩ := (show ObjOk X.prog X.w H s.heap a (.frz ob (.lst xs)) from I.hok a _ ea)
    exact PySem.W.kia_one PySem.W.kitx_list I.kIn ⟨_, h1, rfl⟩ e (fun z => nomatch z) h
  | @tup a xs ea =>
    cases (show u = Value.ref a from rx)
    obtain ⟨_, _, _, p⟩ := (show ObjOk X.prog X.w H s.heap a (.tup xs) from I.hok a _ ea)
    obtain ⟨o, h1, h2, _⟩ := p
    exact PySem.W.kia_one PySem.W.kitx_tuple I.kIn ⟨o, h1, h2⟩ e (fun z => nomatch z) h
  | @dK a kvs ea =>
    cases (show u = Value.ref a from rx)
    obtain ⟨_, _, vs, _, p⟩ := (show ObjOk X.prog X.w H s.heap a (.dK kvs) from I.hok a _ ea)
    obtain ⟨o, es, ep, h1, h2, _⟩ := p
    exact PySem.W.kia_one PySem.W.kitx_dict I.kIn ⟨o, h1, h2.1⟩ e (fun z => nomatch z) h
  | @dT a kvs ea =>
    cases (show u = Value.ref a from rx)
    obtain ⟨_, _, xs, _, o, es, ep, h1, h2, _⟩ := (show ObjOk X.prog X.w H s.heap a (.dT kvs) from I.hok a _ ea)
    exact PySem.W.kia_one PySem.W.kitx_dict I.kIn ⟨o, h1, h2.1⟩ e (fun z => nomatch z) h
  | @ins a C dx fs ea cl ha hn htk hm =>
    cases (show u = Value.ref a from rx)
    obtain ⟨mA, O, _⟩ := ins_get I.hok ea
    obtain ⟨od, J, _⟩ := O.look
    exact PySem.W.kia_one (PySem.W.kitx_own (cl.get _) cl.hd ha hn htk hm) I.kIn J e (fun z => nomatch z) h
end
end L2

namespace L2
open PySem PySem.Spec PyProof.Rows

/-! ### room -/
structure Room (k : Nat) (A : Around) : Prop where
  hd : A.handled = none
  dp : A.depth + 3 * k + 5 < recursionLimit
  un : A.units + 16 * k + 200 < cLine
theorem Room.mono {j k : Nat} {A : Around} (r : Room k A) (h : j ≤ k) : Room j A := ⟨r.hd, by have := r.dp; omega, by have := r.un; omega⟩
theorem Room.deeper {k : Nat} {A : Around} (r : Room (k + 1) A) (env : Env) : Room k (A.deeper env) :=
  ⟨r.hd, by have := r.dp; show A.depth + 1 + 3 * k + 5 < _; omega, by have := r.un; show A.units + 3 + 16 * k + 200 < _; omega⟩
theorem make_depth {A : Around} {C : Addr} {us : List Value} {kw : List (Str × Value)} : (A.under (.builtin "type.__call__" ⟨.ref C :: us, kw⟩)).depth = A.depth + 1 := by
  first | rfl | simp [Around.under, Code.weight, Code.isCreation, Code.isGuard, Code.isCaller, Code.frames, Code.isFrame, guardIds]
theorem make_units {A : Around} {C : Addr} {us : List Value} {kw : List (Str × Value)} : (A.under (.builtin "type.__call__" ⟨.ref C :: us, kw⟩)).units = A.units + 1 := by
  first | rfl | simp [Around.under, Code.cUnits, Code.frames, Code.isFrame]
theorem Room.make {k : Nat} {A : Around} (r : Room (k + 1) A) (C : Addr) (us : List Value) (kw : List (Str × Value)) : Room k (A.under (.builtin "type.__call__" ⟨.ref C :: us, kw⟩)) :=
  ⟨r.hd, by have := r.dp; rw [make_depth]; omega, by have := r.un; rw [make_units]; omega⟩
theorem Room.depth {k : Nat} {A : Around} (r : Room k A) : A.depth < recursionLimit := by have := r.dp; omega
theorem Room.units {k : Nat} {A : Around} (r : Room k A) : A.units + 64 < cLine := by have := r.un; omega
theorem Room.units0 {k : Nat} {A : Around} (r : Room k A) : A.units < cLine := by have := r.un; omega

/-! ### argument lists and displays -/
def tNil : TA := fun _ H Q => Q [] H
def tCons (ta : TE) (tr : TA) : TA := fun σ H Q => ta σ H fun x H1 => tr σ H1 fun xs H2 => Q (x :: xs) H2
section
variable {X : Cx} {e : Expr} {es : List Expr} {te : TE} {t : TA} {pos : Pos}
theorem pa_nil : PA X [] tNil := fun _ _ _ _ H Q I h => Calls.spliced_nil ⟨[], H, I, .nil, h⟩
theorem pa_cons (ha : PE X e te) (hr : PA X es t) (hs : starEach (e :: es) X.env = (false, eval e X.env) :: starEach es X.env := by rfl) : PA X (e :: es) (tCons te t) := by
  intro pos pins s σ H Q I h
  rw [hs]
  show wpAny _ _ (spliced ((false, eval e X.env) :: backTo pos (starEach es X.env))) _ _ s
  refine Calls.spliced_cons (thn (ha pins s σ H _ I h) fun u s1 ⟨x, H1, I1, r1, q1⟩ => ?_)
  exact thn (hr pos pins s1 σ H1 _ I1 q1) fun us s2 ⟨xs, H2, I2, r2, q2⟩ => ⟨x :: xs, H2, I2, .cons r1 r2, q2⟩

/-- a tuple, a list of written items -/
def tTup (t : TA) : TE := fun σ H Q => t σ H fun xs H1 => xs.length ≤ sizeLine ∧ ∀ p, H1 p = none → Q (.ref p) (upd H1 p (.tup xs))
def tLst (t : TA) : TE := fun σ H Q => t σ H fun xs H1 => xs.length ≤ sizeLine ∧ ∀ p, H1 p = none → Q (.ref p) (upd H1 p (.lst xs))
theorem pe_tup {x1} (h : PA X es t) : PE X (.Tuple es x1 pos) (tTup t) := by
  intro pins s σ H Q I hq
  refine wpAny_Tuple_spliced (thn (h pos pins s σ H _ I hq) fun us s1 ⟨xs, H1, I1, r, z, q⟩ => ⟨by rw [← r.length]; exact z, ?_⟩)
  have hf : H1 s1.heap.objs.size = none := I1.hok.fresh (Nat.le_refl _)
  refine ⟨.ref s1.heap.objs.size, upd H1 s1.heap.objs.size (.tup xs), I1.laid (t' := s1.toks) (fun b u e => Heap.get?_push_of_some _ e) (Nat.le_refl _) ?_, rfl, q _ hf⟩
  exact ⟨z, us, r, ⟨_, Heap.get?_push_size _ rfl, rfl, _, rfl⟩⟩
theorem pe_lst (h : PA X es t) : PE X (.List es pos) (tLst t) := by
  intro pins s σ H Q I hq
  refine wpAny_List_spliced (thn (h pos pins s σ H _ I hq) fun us s1 ⟨xs, H1, I1, r, z, q⟩ => ⟨by rw [← r.length]; exact z, ?_⟩)
  have hf : H1 s1.heap.objs.size = none := I1.hok.fresh (Nat.le_refl _)
  refine ⟨.ref s1.heap.objs.size, upd H1 s1.heap.objs.size (.lst xs), I1.laid (t' := s1.toks) (fun b u e => Heap.get?_push_of_some _ e) (Nat.le_refl _) ?_, rfl, q _ hf⟩
  exact ⟨z, us, 0, r, Heap.get?_push_size _ rfl⟩
end

/-! ### what a def promises -/
/-- a def's promise: the bound arguments in the parameters' order, the heap, the wanted end, the wanted exception -/
abbrev Sp := List V → Hp → VK → XK → Prop
/-- how an exception lies behind a call (file 08 gives it): the callers' frames, abstract heap and state ahead of the call, the wish, the exception, the state -/
abbrev CXT := List Env → Hp → Shared → XK → Value → Shared → Prop

/-- the state at a call -/
structure Env0 (P : Program) (w : World) (K : PySem.W.Frag) (mg : Str → Option Value) (base : Heap) (A : Around) (outer : List Env) (s : Shared) (H : Hp) : Prop where
  frames : A.frames = some outer
  mod : Mod K mg base
  bs : ∀ b o, base.get? b = some o → s.heap.get? b = some o ∧ H b = none
  bsz : base.objs.size ≤ s.heap.objs.size
  funs : s.heap.FunFrames base outer
  frf : ∀ b ∈ frs outer, H b = none
  hok : HOk P w H s.heap
  bare : AllBare s.gens
/-- a call's end -/
def CE (outer : List Env) (P : Program) (w : World) (H : Hp) (s : Shared) (Q : VK) (u : Value) (s' : Shared) : Prop :=
  ∃ v H', s'.os = s.os ∧ AllBare s'.gens ∧ Un (frs outer) [] H H' s.heap s'.heap ∧ HOk P w H' s'.heap ∧ RelV v u ∧ Q v H'
def CR (CX : CXT) (outer : List Env) (P : Program) (w : World) (H : Hp) (s : Shared) (Q : VK) (E : XK) (r : Result) (s' : Shared) : Prop :=
  match r with
  | .ok (.ret u) => CE outer P w H s Q u s'
  | .ok _ => False
  | .error e => CX outer H s E e s'
structure FnOk (P : Program) (w : World) (K : PySem.W.Frag) (mg : Str → Option Value) (base : Heap) (CX : CXT) (k : Nat) (f : Addr) (fd : FuncData) (ps : List Str) (sp : Sp) : Prop where
  len : ∀ vs H Q E, sp vs H Q E → vs.length = ps.length
  run : ∀ (A : Around) (outer : List Env) (s : Shared) (H : Hp) (args : Args) (us : List Value) (vs : List V) (Q : VK) (E : XK), Room k A → Env0 P w K mg base A outer s H → BindsTo s fd args (ps.zip us) → Vals vs us → sp vs H Q E →
    codeAny (model P w) A (.call (.ref f) args) (CR CX outer P w H s Q E) s
theorem Env0.make {P : Program} {w : World} {K : PySem.W.Frag} {mg : Str → Option Value} {base : Heap} {A : Around} {outer : List Env} {s : Shared} {H : Hp} (e : Env0 P w K mg base A outer s H) (C : Addr) (us : List Value) (kw : List (Str × Value)) :
    Env0 P w K mg base (A.under (.builtin "type.__call__" ⟨.ref C :: us, kw⟩)) outer s H := ⟨by first | exact e.frames | (simpa [Around.under, Code.envs, Code.isFrame, pushEnvs] using e.frames), e.mod, e.bs, e.bsz, e.funs, e.frf, e.hok, e.bare⟩
section
variable {X : Cx} {pins : List (Addr × Obj)} {σ : St} {H : Hp} {s s' : Shared}
/-- from a body: what a callee wants -/
theorem Inv.env0 (I : Inv X pins σ H s) : Env0 X.prog X.w X.K X.mg X.base X.A X.stack s H :=
  ⟨I.ok.frames, I.ok.mod, I.bs, Nat.le_trans I.ok.bsz I.sz, I.stack, I.stkFree, I.hok, I.bare⟩
/-- behind a call -/
theorem Inv.after {Q : VK} {u : Value} (I : Inv X pins σ H s) (h : CE X.stack X.prog X.w H s Q u s') : EP X pins σ Q u s' := by
  obtain ⟨v, H', os, bare, un, hok, r, q⟩ := h
  obtain ⟨hh, g, d, t, os'⟩ := s'
  obtain rfl : os' = s.os := os
  exact ⟨v, H', I.call (h' := hh) (g' := g) (d' := d) (t' := t) (ch := []) un hok bare (fun b z => absurd z (by simp)), r, q⟩
end

/-! ### calls -/
/-- f(..): the written arguments, then the defaults dvs; E: what is wanted of an exception -/
def tCall (sp : Sp) (dvs : List V) (E : XK) (t : TA) : TE := fun σ H Q => t σ H fun vs H1 => sp (vs ++ dvs) H1 Q E
/-- o.m(..) of an instance of the class at C -/
def tMeth (C : Addr) (m : Str) (sp : Sp) (dvs : List V) (E : XK) (ta : TE) (t : TA) : TE := fun σ H Q => ta σ H fun x H1 => ∃ a dx fs, x = .ref a ∧ H1 a = some (.ins C dx fs) ∧ fs.lookup m = none ∧
  t σ H1 fun vs H2 => sp (x :: (vs ++ dvs)) H2 Q E
/-- C(..): a new instance and its dict, then __init__ -/
def tMake (C : Addr) (sp : Sp) (dvs : List V) (E : XK) (t : TA) : TE := fun σ H Q => t σ H fun vs H1 => ∀ x dx, H1 x = none → H1 dx = none → dx ≠ x →
  sp (.ref x :: (vs ++ dvs)) (upd (upd H1 dx (.own x)) x (.ins C dx [])) (fun v H2 => v = .non ∧ Q (.ref x) H2) E

/-- how the parameters are bound: us the positional arguments, kw the keywords' values by name, ds the defaults that fill up -/
def Binds (K : PySem.W.Frag) (fd : FuncData) (ps : List Str) (ds : List Value) : Prop :=
  ∀ (s : Shared) (us : List Value), K.In s.heap → (us ++ ds).length = ps.length → BindsTo s fd ⟨us, []⟩ (ps.zip (us ++ ds))
/-- every parameter is given -/
theorem Binds.all {K : PySem.W.Frag} {fd : FuncData} {ps : List Str} (h : ∀ us : List Value, us.length = ps.length → bindArgs fd ⟨us, []⟩ = pure (ps.zip us)) : Binds K fd ps [] := fun s us _ hl => by
  rw [List.append_nil] at hl ⊢
  exact .of_eq (h us hl)

/-- an exception of a callee reaches what this body wants of exceptions -/
def Passes (CX : CXT) (X : Cx) (E : XK) : Prop := ∀ (pins : List (Addr × Obj)) (σ : St) (H : Hp) (s : Shared) (e : Value) (s' : Shared), Inv X pins σ H s → CX X.stack H s E e s' → X.xe e s'

section
variable {X : Cx} {CX : CXT} {k : Nat} {f C : Addr} {fd : FuncData} {ps : List Str} {sp : Sp} {dvs : List V} {ds : List Value} {E : XK} {x m : Str} {p pos apos : Pos} {e o : Expr} {es : List Expr} {ta : TE} {t : TA}

/-- the callee runs -/
theorem run_fn {pins : List (Addr × Obj)} {σ : St} {H : Hp} {s : Shared} {Q : VK} {us : List Value} {vs : List V} (F : FnOk X.prog X.w X.K X.mg X.base CX k f fd ps sp) (hr : Room k X.A) (hb : Binds X.K fd ps ds) (hd : Vals dvs ds) (hx : Passes CX X E)
    (I : Inv X pins σ H s) (r : Vals vs us) (h : sp (vs ++ dvs) H Q E) : wpAny (model X.prog X.w) X.A (call (.ref f) us) (EP X pins σ Q) X.xe s := by
  have r2 : Vals (vs ++ dvs) (us ++ ds) := r.append hd
  have hl : (us ++ ds).length = ps.length := by rw [← r2.length]; exact F.len _ _ _ _ h
  refine wpAny_call (codeAny_mono (F.run X.A X.stack s H ⟨us, []⟩ (us ++ ds) (vs ++ dvs) Q E hr I.env0 (hb s us I.kIn hl) r2 h) fun r s' hq => ?_)
  cases r with
  | error e => exact hx pins σ H s e s' I hq
  | ok fl =>
    cases fl with
    | ret u => exact I.after hq
    | next => exact False.elim hq
    | brk => exact False.elim hq
    | cont => exact False.elim hq

theorem pe_call (F : FnOk X.prog X.w X.K X.mg X.base CX k f fd ps sp) (hr : Room k X.A) (hg : Gl X x) (hm : X.mg x = some (.ref f)) (hk : PySem.W.keepIn X.K (.ref f) = true) (hb : Binds X.K fd ps ds) (hd : Vals dvs ds) (hx : Passes CX X E)
    (ha : PA X (e :: es) t) (hdb : (x == ("__debug__" : Str)) = false := by decide) (he : starEach (e :: es) X.env = (false, eval e X.env) :: starEach es X.env := by rfl) (hpl : (backTo pos (starEach es X.env)).any (·.1) = false := by rfl) :
    PE X (.Call (.Name x p) (e :: es) [] pos) (tCall sp dvs E t) := by
  intro pins s σ H Q I h
  refine wpAny_Call_Name_kw (ld_glob I hg hm ?_ hdb)
  refine PySem.W.callWith_K (h₀ := X.base) I.ok.mod.kin hk (thn (ha pos pins s σ H _ I h) fun us s1 ⟨vs, H1, I1, r, q⟩ => ⟨I1.kIn, ?_⟩) he hpl
  exact run_fn F hr hb hd hx I1 r q
/-- o.m() -/
theorem pe_meth0 {pl : Sem Bool} (he : PE X o ta) (c : Cls X.K C) (hm : Meth X.K C m f) (F : FnOk X.prog X.w X.K X.mg X.base CX k f fd ps sp) (hr : Room k X.A) (hb : Binds X.K fd ps ds) (hd : Vals dvs ds) (hx : Passes CX X E)
    (ht : eval (.Call (.Attribute o m apos) [] [] pos) X.env = (do
      let ov ← eval o X.env
      standAt apos.atName
      let (f, first) ← holding [ov] (getMethod ov m pl)
      callWith pos f first (backTo pos (starEach [] X.env)) (backToKw pos (keywordEach [] X.env))) := by rfl) :
    PE X (.Call (.Attribute o m apos) [] [] pos) (tMeth C m sp dvs E ta tNil) := by
  intro pins s σ H Q I h
  refine PySem.W.methodCall_KW (pl := pl) (thn (he pins s σ H _ I h) fun u s1 ⟨x, H1, I1, rx, a, dx, fs, ex, ea, l, q⟩ => ?_) ht
  subst ex
  obtain rfl : u = Value.ref a := rx
  refine getmeth_ok I1 ea c hm l ?_
  exact PySem.W.callWith_K0 (first := [.ref a]) I1.kIn hm.kp (run_fn (us := [.ref a]) (vs := [.ref a]) F hr hb hd hx I1 (.cons rfl .nil) q)

/-- what a class must have to be made -/
structure Mk (K : PySem.W.Frag) (C f : Addr) : Prop where
  makes : PySem.W.makesIn K C = true
  init : PySem.W.findIn K (.ref C) "__init__" = some (some (.ref f))
  fn : PySem.W.isFn K (.ref f) = true
  kp : PySem.W.keepIn K (.ref C) = true

end

/-! ### keywords -/
/-- the values of the keywords, from the left -/
def PK (X : Cx) (kws : List Keyword) (t : TA) : Prop :=
  ∀ (pos : Pos) (pins : List (Addr × Obj)) (s : Shared) (σ : St) (H : Hp) (Q : List V → Hp → Prop), Inv X pins σ H s → t σ H Q → wpAny (model X.prog X.w) X.A (evalAll ((backToKw pos (keywordEach kws X.env)).map (·.2))) (AP X pins σ Q) X.xe s
section
variable {X : Cx} {CX : CXT} {k : Nat} {f C : Addr} {fd : FuncData} {ps ks : List Str} {sp : Sp} {E : XK} {x m : Str} {p pos apos kpos : Pos} {e o : Expr} {es : List Expr} {kws : List Keyword} {te ta : TE} {t tk : TA} {nm : Option Str}
theorem pk_nil : PK X [] tNil := fun _ _ _ _ H Q I h => wpAny_evalAll_nil ⟨[], H, I, .nil, h⟩
theorem pk_cons (ha : PE X e te) (hr : PK X kws t) : PK X (⟨nm, e, kpos⟩ :: kws) (tCons te t) := by
  intro pos pins s σ H Q I h
  show wpAny _ _ (evalAll ((do let v ← eval e X.env; standAt pos; pure v) :: (backToKw pos (keywordEach kws X.env)).map (·.2))) _ _ s
  refine wpAny_evalAll_cons (wpAny_bind (thn (ha pins s σ H _ I h) fun u s1 ⟨x, H1, I1, r1, q1⟩ => wpAny_bind (wpAny_standAt (wpAny_pure ?_))))
  exact thn (hr pos pins s1 σ H1 _ I1 q1) fun us s2 ⟨xs, H2, I2, r2, q2⟩ => ⟨x :: xs, H2, I2, .cons r1 r2, q2⟩

/-- how a call with keywords binds: g puts the positional values us and the keywords' values ws (names ks) in the parameters' order, defaults among them -/
structure KBinds (K : PySem.W.Frag) (fd : FuncData) (ps ks : List Str) (g : List Value → List Value → List Value) (gV : List V → List V → List V) : Prop where
  to : ∀ (s : Shared) (us ws : List Value), K.In s.heap → (g us ws).length = ps.length → BindsTo s fd ⟨us, ks.zip ws⟩ (ps.zip (g us ws))
  rel : ∀ {vs : List V} {us : List Value} {zs : List V} {ws : List Value}, Vals vs us → Vals zs ws → Vals (gV vs zs) (g us ws)
def tCallK (sp : Sp) (gV : List V → List V → List V) (E : XK) (t tk : TA) : TE := fun σ H Q => t σ H fun vs H1 => tk σ H1 fun zs H2 => sp (gV vs zs) H2 Q E
variable {g : List Value → List Value → List Value} {gV : List V → List V → List V}
end

/-! ### a def's body keeps its promise -/
/-- names: the parameters first -/
structure FnScope (N P : List Str) (sc : Scope) : Prop where
  kind : sc.kind = .function
  co : sc.isCoroutine = false
  gen : sc.isGenerator = false
  nd : N.Nodup
  pre : N.take P.length = P
  par : ∀ x ∈ P, sc.names.lookup x = some .local ∨ sc.names.lookup x = some .cell
  nofree : ∀ y ∈ sc.names, y.2 ≠ .free

theorem bindL_out {kindOf : Str → Option NameKind} {x : Str} : ∀ {binds : List (Str × Value)} {m : Str → Option Value}, (∀ v, (x, v) ∉ binds) → bindL kindOf binds m x = m x
  | [], _, _ => rfl
  | (n, v) :: r, m, h => by
    unfold bindL
    rw [bindL_out fun w hw => h w (List.mem_cons_of_mem _ hw)]
    split
    · have : x ≠ n := by rintro rfl; exact h v List.mem_cons_self
      simp [this]
    · rfl
theorem bindC_out {kindOf : Str → Option NameKind} {x : Str} : ∀ {binds : List (Str × Value)} {m : Str → Option Value}, (∀ v, (x, v) ∉ binds) → bindC kindOf binds m x = m x
  | [], _, _ => rfl
  | (n, v) :: r, m, h => by
    unfold bindC
    rw [bindC_out fun w hw => h w (List.mem_cons_of_mem _ hw)]
    split
    · rfl
    · have : x ≠ n := by rintro rfl; exact h v List.mem_cons_self
      simp [this]
theorem bindL_get {kindOf : Str → Option NameKind} {x : Str} {v : Value} : ∀ {P : List Str} {vs : List Value} {i : Nat} {m : Str → Option Value}, P.Nodup → P[i]? = some x → vs[i]? = some v → kindOf x = some .local →
    bindL kindOf (P.zip vs) m x = some v
  | [], _, _, _, _, h, _, _ => by simp at h
  | _ :: _, [], _, _, _, _, h, _ => by simp at h
  | p :: P, w :: vs, 0, m, nd, h1, h2, hk => by
    simp at h1 h2; subst h1; subst h2
    show bindL kindOf ((p, w) :: P.zip vs) m p = _
    unfold bindL
    rw [bindL_out fun v hv => (List.nodup_cons.mp nd).1 (List.of_mem_zip hv).1, if_pos hk]
    simp
  | p :: P, w :: vs, i + 1, m, nd, h1, h2, hk => by
    show bindL kindOf ((p, w) :: P.zip vs) m x = _
    unfold bindL
    exact bindL_get (i := i) (List.nodup_cons.mp nd).2 (by simpa using h1) (by simpa using h2) hk
theorem bindC_get {kindOf : Str → Option NameKind} {x : Str} {v : Value} : ∀ {P : List Str} {vs : List Value} {i : Nat} {m : Str → Option Value}, P.Nodup → P[i]? = some x → vs[i]? = some v → kindOf x ≠ some .local →
    bindC kindOf (P.zip vs) m x = some v
  | [], _, _, _, _, h, _, _ => by simp at h
  | _ :: _, [], _, _, _, _, h, _ => by simp at h
  | p :: P, w :: vs, 0, m, nd, h1, h2, hk => by
    simp at h1 h2; subst h1; subst h2
    show bindC kindOf ((p, w) :: P.zip vs) m p = _
    unfold bindC
    rw [bindC_out fun v hv => (List.nodup_cons.mp nd).1 (List.of_mem_zip hv).1, if_neg hk]
    simp
  | p :: P, w :: vs, i + 1, m, nd, h1, h2, hk => by
    show bindC kindOf ((p, w) :: P.zip vs) m x = _
    unfold bindC
    exact bindC_get (i := i) (List.nodup_cons.mp nd).2 (by simpa using h1) (by simpa using h2) hk

/-- the names' values at the entry -/
def start (N : List Str) (vs : List V) : St := vs.map some ++ List.replicate (N.length - vs.length) none

/-- the context of a def's body, at its entry; an exception leaves the frame, then lies as CX says -/
def cxOf (CX : CXT) (P : Program) (w : World) (K : PySem.W.Frag) (mg : Str → Option Value) (base : Heap) (N : List Str) (qual : Str) (scope : Scope) (f : Addr) (cd : Value) (A : Around) (outer : List Env) (s : Shared) (H : Hp) (E : XK) : Cx where
  prog := P
  w := w
  K := K
  mg := mg
  base := base
  A := A.deeper (envOfC qual scope s.heap.objs.size f cd)
  N := N
  s₀ := s
  H₀ := H
  env := envOfC qual scope s.heap.objs.size f cd
  outer := outer
  stack := envOfC qual scope s.heap.objs.size f cd :: outer
  ex := []
  calm := true
  fn := fun _ => true
  pn := []
  xe := fun e s' => wpAny (model P w) (A.deeper (envOfC qual scope s.heap.objs.size f cd)) (leaving (envOfC qual scope s.heap.objs.size f cd) e) (fun _ s'' => CX outer H s E e s'') (fun e' s'' => CX outer H s E e' s'') s'

theorem cell_has {sc : Scope} {n : Nat} {x : Str} (h : sc.names.lookup x = some .cell) : ∃ c, (cellsFrom n sc.names []).lookup x = some c := by
  have q := PySem.W.cellsFrom_some sc.names n [] (.inl h)
  exact Option.isSome_iff_exists.mp q

theorem inv_start {CX : CXT} {P : Program} {w : World} {K : PySem.W.Frag} {mg : Str → Option Value} {base : Heap} {N ps : List Str} {qual : Str} {scope : Scope} {f : Addr} {cd : Value} {A : Around} {outer : List Env} {s s1 : Shared} {H : Hp} {E : XK} {us : List Value} {vs : List V}
    (S : FnScope N ps scope) (hd : A.handled = none) (e0 : Env0 P w K mg base A outer s H) (hl : vs.length = ps.length) (r : Vals vs us)
    (x : InCallC s s.heap.objs.size (bindL (envOfC qual scope s.heap.objs.size f cd).kindOf (ps.zip us) fun _ => none) (cellsFrom (s.heap.objs.size + 1) scope.names []) (bindC (envOfC qual scope s.heap.objs.size f cd).kindOf (ps.zip us) fun _ => none) s1) :
    Inv (cxOf CX P w K mg base N qual scope f cd A outer s H E) [] (start N vs) H s1 := by
  have hpl : ps.length ≤ N.length := by have := congrArg List.length S.pre; rw [List.length_take] at this; omega
  obtain ⟨h1, tk, rfl, hk⟩ := x.done
  have noA : ∀ b : Addr, b ∉ (cxOf CX P w K mg base N qual scope f cd A outer s H E).ex := fun b z => absurd (show b ∈ ([] : List Addr) from z) (by simp)
  refine ⟨⟨e0.mod, S.kind, rfl, rfl, Nat.le_refl _, fun y z c h1 h2 => ?_, fun y hy => ?_, fun y c _ h => ?_, fun _ => hd, Around.frames_deeper e0.frames, .inr ⟨rfl, rfl⟩, fun b z => absurd z (noA b), e0.bs, e0.bsz, fun b _ _ => noA b, fun b z => absurd z (noA b), e0.funs, e0.frf⟩,
    rfl, e0.bare, Un.kept hk, ⟨_, x.toInCall.ns, fun i y v h1 h2 h3 => ?_⟩, fun y c h => ⟨_, x.cell y c h⟩, e0.hok.fresh (Nat.le_refl _), fun y c h => ?_, fun p hp => absurd (show p ∈ ([] : List (Addr × Obj)) from hp) (by simp), e0.hok.kept hk, ?_⟩
  · exact name_of_addr x.apart (PySem.mem_of_lookup h1) (PySem.mem_of_lookup h2)
  · have hy : scope.names.lookup y = some .cell ∨ scope.names.lookup y = some .free := hy
    rcases hy with hy | hy
    · exact cell_has hy
    · exact absurd rfl (S.nofree _ (PySem.mem_of_lookup hy))
  · exact Nat.le_of_lt (x.above y c (PySem.mem_of_lookup h))
  · have hi : i < vs.length := by
      unfold start at h2
      by_cases hi : i < vs.length
      · exact hi
      · rw [List.getElem?_append_right (by simpa using hi)] at h2
        rw [List.getElem?_replicate] at h2
        split at h2 <;> cases h2
    have ha : vs[i]? = some v := by
      unfold start at h2
      rw [List.getElem?_append_left (by simpa using hi), List.getElem?_map] at h2
      cases e : vs[i]? with
      | none => rw [e] at h2; cases h2
      | some a => rw [e] at h2; cases h2; rfl
    obtain ⟨u, hu, rv⟩ := r.get ha
    have hp : ps[i]? = some y := by
      rw [← S.pre, List.getElem?_take_of_lt (by omega)]; exact h1
    have ndP : ps.Nodup := by rw [← S.pre]; exact S.nd.sublist (List.take_sublist _ _)
    refine ⟨u, rv, ?_⟩
    rcases S.par y (List.mem_of_getElem? hp) with k | k
    · exact .inl ⟨k, bindL_get ndP hp hu k⟩
    · obtain ⟨c, e⟩ := cell_has (n := s.heap.objs.size + 1) k
      refine .inr ⟨.inl k, c, e, ?_⟩
      have q := x.cell y c e
      rw [bindC_get ndP hp hu (by show scope.names.lookup y ≠ _; rw [k]; decide)] at q
      exact q
  · exact e0.hok.fresh (Nat.le_of_lt (x.above y c (PySem.mem_of_lookup h)))
  · unfold start
    show _ = N.length
    rw [List.length_append, List.length_map, List.length_replicate]
    omega

/-- THE RULE: a def (or a method) of the text, by its body. The body's reading t is chosen for each entry; it is run at the parameters' values -/
theorem fn_of {CX : CXT} {P : Program} {w : World} {K : PySem.W.Frag} {mg : Str → Option Value} {base : Heap} {k : Nat} {f : Addr} {name qual : Str} {params : Arguments} {body : List Stmt} {scope : Scope} {dV kV doc pm cdv ct oc : Value} {an od : Option Addr}
    {osl : Array (Option Value)} {N ps : List Str} {sp : Sp} (lk : K.lookup f = some ⟨oc, od, .func (PySem.W.fnOf name qual params body scope dV kV doc pm an cdv ct), osl⟩) (hcd : PySem.W.codeIn K cdv qual = true) (S : FnScope N ps scope)
    (len : ∀ vs H Q E, sp vs H Q E → vs.length = ps.length)
    (hbody : ∀ (A : Around) (outer : List Env) (s : Shared) (H : Hp) (vs : List V) (Q : VK) (E : XK), Room k (A.deeper (envOfC qual scope s.heap.objs.size f cdv)) → sp vs H Q E →
      ∃ t, PSs (cxOf CX P w K mg base N qual scope f cdv A outer s H E) body t ∧ t { nx := fun _ H' => Q .non H', rt := Q } (start N vs) H) :
    FnOk P w K mg base CX (k + 1) f (PySem.W.fnOf name qual params body scope dV kV doc pm an cdv ct) ps sp := by
  refine ⟨len, fun A outer s H args us vs Q E hr e0 hb r hsp => ?_⟩
  have hl := len _ _ _ _ hsp
  have KX : K.In s.heap := e0.mod.kin.keeps fun b o e => (e0.bs b o e).1
  have lim : s.heap.NoLimit := e0.mod.nolimit.keeps fun b o e => (e0.bs b o e).1
  have hkind : ∀ y ∈ ps.zip us, scope.names.lookup y.1 = some .local ∨ (scope.names.lookup y.1 = some .cell ∧ ((cellsFrom (s.heap.objs.size + 1) scope.names []).lookup y.1).isSome = true) := fun ⟨n, v⟩ hy => by
    rcases S.par n (List.of_mem_zip hy).1 with q | q
    · exact .inl q
    · exact .inr ⟨q, PySem.W.cellsFrom_some _ _ _ (.inl q)⟩
  refine codeAny_call_function hr.depth (KX _ _ lk) rfl S.co S.gen rfl (PySem.W.codeRec_of KX hcd) (hb _ _ _ _ ?_)
  refine wpAny_newFunctionEnv_cells S.kind hkind fun env he s1 x => ?_
  subst he
  refine ⟨lim.keeps x.toInCall.keep, codeAny_func ?_⟩
  obtain ⟨t, ht, hq⟩ := hbody A outer s H vs Q E (hr.deeper _) hsp
  have I : Inv (cxOf CX P w K mg base N qual scope f cdv A outer s H E) [] (start N vs) H s1 := inv_start S hr.hd e0 hl r x
  refine wpAny_mono (ht [] s1 (start N vs) H _ I hq) (fun fl s' hs => ?_) fun e s' hs => hs
  have fin : ∀ {σ' : St} {H' : Hp} {v : V} {u : Value}, Inv (cxOf CX P w K mg base N qual scope f cdv A outer s H E) [] σ' H' s' → RelV v u → Q v H' → CE outer P w H s Q u s' :=
    fun {σ' H' v u} J rv q => ⟨v, H', J.os, J.bare, J.base, J.hok, rv, q⟩
  cases fl with
  | ret u =>
    obtain ⟨v, σ', H', J, rv, q⟩ := hs
    exact fin J rv q
  | next =>
    obtain ⟨σ', H', J, q⟩ := hs
    exact fin (v := V.non) (u := Value.none) J rfl q
  | brk =>
    obtain ⟨_, _, _, q⟩ := hs
    exact False.elim q
  | cont =>
    obtain ⟨_, _, _, q⟩ := hs
    exact False.elim q
end L2

namespace L2
open PySem PySem.Spec PyProof.Rows
section
variable {X : Cx} {x : Str} {p pos : Pos} {e : Expr} {es : List Expr} {t : TA} {id T : String} {r : List V → Hp → VK → Prop}

def tCB (r : List V → Hp → VK → Prop) (t : TA) : TE := fun σ H Q => t σ H fun vs H1 => r vs H1 Q
/-- f(e, ..), f a built-in function -/
theorem pe_callB (hc : CallR X (.builtin id) r) (hg : Gl X x) (hm : X.mg x = none) (hv : bootBuiltins x = some (.builtin id)) (ha : PA X (e :: es) t) (hn : x ≠ "__name__" := by decide) (hdb : (x == ("__debug__" : Str)) = false := by decide)
    (he : starEach (e :: es) X.env = (false, eval e X.env) :: starEach es X.env := by rfl) (hpl : (backTo pos (starEach es X.env)).any (·.1) = false := by rfl) : PE X (.Call (.Name x p) (e :: es) [] pos) (tCB r t) := by
  intro pins s σ H Q I h
  refine wpAny_Call_Name_kw (ld_blt I hg hm hv ?_ hn hdb)
  exact PyProof.Rows.callWith_builtin1 (thn (ha pos pins s σ H _ I h) fun us s1 ⟨vs, H1, I1, r1, q1⟩ => hc pins s1 σ H1 vs us Q I1 r1 q1) he hpl
/-- T(e, ..), T a built-in type -/
theorem pe_callTy (hc : CallR X (.type T) r) (hg : Gl X x) (hm : X.mg x = none) (hv : bootBuiltins x = some (.type T)) (ha : PA X (e :: es) t) (hn : x ≠ "__name__" := by decide) (hdb : (x == ("__debug__" : Str)) = false := by decide)
    (he : starEach (e :: es) X.env = (false, eval e X.env) :: starEach es X.env := by rfl) (hpl : (backTo pos (starEach es X.env)).any (·.1) = false := by rfl) : PE X (.Call (.Name x p) (e :: es) [] pos) (tCB r t) := by
  intro pins s σ H Q I h
  refine wpAny_Call_Name_kw (ld_blt I hg hm hv ?_ hn hdb)
  exact PyProof.Rows.callWith_type1 (thn (ha pos pins s σ H _ I h) fun us s1 ⟨vs, H1, I1, r1, q1⟩ => hc pins s1 σ H1 vs us Q I1 r1 q1) he hpl
end
end L2

namespace HT
open PySem PyProof.Rows

/-- t < u of tuples of ints -/
def lexLt : List Int → List Int → Bool
  | [], [] => false
  | [], _ :: _ => true
  | _ :: _, [] => false
  | x :: xs, y :: ys => if x = y then lexLt xs ys else decide (x < y)
section
open PySem.SeqAt
open PySem.AutoSeq1 (wpAny_loadPart')
open PySem.MeetsSeq PySem.MeetsSeq2 PySem.MeetsSeq3

end

section
variable {prog : Program} {w : World} {A : Around} {E : Value → Shared → Prop} {s : Shared}

/-! ### t[a:b], not the whole -/
/-- a slice's bound as a place among n (d where it is left out) -/
def sIx (n d : Nat) : Option Int → Nat
  | none => d
  | some v => if v < 0 then (v + (n : Int)).toNat else min v.toNat n
theorem sIx_none (n d : Nat) : sIx n d none = d := rfl
theorem sIx_nat (n d k : Nat) : sIx n d (some (k : Int)) = min k n := by
  show (if (k : Int) < 0 then ((k : Int) + (n : Int)).toNat else min (k : Int).toNat n) = min k n
  rw [if_neg (by omega), Int.toNat_natCast]
end
end HT

namespace L2
open PySem PySem.Spec PyProof.Rows

/-! ### the parts of a slice -/
abbrev TO := St → Hp → (Option Int → Hp → Prop) → Prop
/-- a slice's part (left out, or an int) -/
def PO (X : Cx) (e : Option Expr) (t : TO) : Prop :=
  ∀ (pins : List (Addr × Obj)) (s : Shared) (σ : St) (H : Hp) (Q : Option Int → Hp → Prop), Inv X pins σ H s → t σ H Q →
    wpAny (model X.prog X.w) X.A (evalPart e X.env) (fun u s' => ∃ o H', Inv X pins σ H' s' ∧ IsPart u o ∧ Q o H') X.xe s
def tNoPart : TO := fun _ H Q => Q none H
def tPart (t : TE) : TO := fun σ H Q => t σ H fun x H1 => ∃ i, x = .int i ∧ Q (some i) H1

theorem intsAre_of {ns : List Int} : ∀ {us : List Value}, Vals (ns.map V.int) us → IntsAre us ns := by
  induction ns with
  | nil => intro us r; rw [List.map_nil] at r; cases r; exact .nil
  | cons n ns ih =>
    intro us r
    rw [List.map_cons] at r
    cases r with
    | cons r1 r2 =>
      obtain ⟨t, e⟩ := r1
      subst e
      exact .cons n t (ih r2)

section
variable {X : Cx} {e : Expr} {te : TE} {lo hi : Option Expr} {tl th : TO} {pos p2 : Pos}

theorem po_none : PO X none tNoPart := by
  intro pins s σ H Q I h
  rw [evalPart_none]
  exact wpAny_pure ⟨none, H, I, .none, h⟩
theorem po_some (h : PE X e te) : PO X (some e) (tPart te) := by
  intro pins s σ H Q I hw
  rw [evalPart_some]
  refine thn (h pins s σ H _ I hw) fun u s1 ⟨x, H1, I1, r1, q1⟩ => ?_
  obtain ⟨i, rfl, q⟩ := q1
  obtain ⟨t, rfl⟩ := r1
  exact ⟨some i, H1, I1, .int i t, q⟩

/-- what a slice of a value is, by values: the slice object stands at sl -/
def SlR (X : Cx) (r : V → Option Int → Option Int → Hp → VK → Prop) : Prop :=
  ∀ (pins : List (Addr × Obj)) (s : Shared) (σ : St) (H : Hp) (x : V) (v vl vu : Value) (lo hi : Option Int) (sl : Addr) (Q : VK), Inv X pins σ H s → RelV x v → s.heap.IsSliceOf sl vl vu .none → IsPart vl lo → IsPart vu hi → r x lo hi H Q →
    ∃ T id, typeLookup (.type T) "__getitem__" = pure (some (.builtin id)) ∧ s.TypeIs v T ∧ wpAny (model X.prog X.w) X.A (getItem v (.ref sl)) (EP X pins σ Q) X.xe s
def tSl (r : V → Option Int → Option Int → Hp → VK → Prop) (te : TE) (tl th : TO) : TE := fun σ H Q => te σ H fun x H1 => tl σ H1 fun l H2 => th σ H2 fun u H3 => r x l u H3 Q
/-- a[lo:hi], any a -/
theorem pe_slice {r : V → Option Int → Option Int → Hp → VK → Prop} (hr : SlR X r) (he : PE X e te) (hl : PO X lo tl) (hu : PO X hi th) : PE X (.Subscript e (.Slice lo hi none p2) pos) (tSl r te tl th) := by
  intro pins s σ H Q I h
  refine Subscript_ (thn (he pins s σ H _ I h) fun v s1 ⟨x, H1, I1, r1, q1⟩ => ?_)
  refine wpAny_Slice (thn (hl pins s1 σ H1 _ I1 q1) fun vl s2 ⟨l, H2, I2, pl, q2⟩ => thn (hu pins s2 σ H2 _ I2 q2) fun vu s3 ⟨u, H3, I3, pu, q3⟩ => ?_)
  rw [evalPart_none]
  refine wpAny_pure ?_
  have I4 : Inv X pins σ H3 { s3 with heap := s3.heap.push { cls := .type "slice", data := .fields #[vl, vu, .none] } } := I3.kept (t' := s3.toks) fun b ob q => Heap.get?_push_of_some _ q
  obtain ⟨T, id, hT, ht, hg⟩ := hr pins { s3 with heap := s3.heap.push { cls := .type "slice", data := .fields #[vl, vu, .none] } } σ H3 x v vl vu l u s3.heap.objs.size Q I4 r1 (Heap.IsSliceOf.new ..) pl pu q3
  show wpAny (model X.prog X.w) X.A (subscriptTail e (.Slice lo hi none p2) v (.ref s3.heap.objs.size)) (EP X pins σ Q) X.xe { s3 with heap := s3.heap.push { cls := .type "slice", data := .fields #[vl, vu, .none] } }
  exact tail_any (ops := [.ref s3.heap.objs.size, v]) ht hT hg (by with_unfolding_all rfl)

/-- the items of xs[lo:hi] -/
def cutV (xs : List V) (lo hi : Option Int) : List V := (xs.drop (HT.sIx xs.length 0 lo)).take (HT.sIx xs.length xs.length hi - HT.sIx xs.length 0 lo)
theorem cutV_length (xs : List V) (lo hi : Option Int) : (cutV xs lo hi).length ≤ xs.length := by
  unfold cutV
  rw [List.length_take, List.length_drop]
  omega
/-- t[lo:hi], not the whole of it (the whole would be t itself) -/
def rSlT (K : PySem.W.Frag) : V → Option Int → Option Int → Hp → VK → Prop := fun x lo hi H Q => ∃ a xs, x = .ref a ∧ SqT K H a xs ∧
  ¬ (HT.sIx xs.length 0 lo = 0 ∧ HT.sIx xs.length xs.length hi = xs.length) ∧ ∀ p, H p = none → Q (.ref p) (upd H p (.tup (cutV xs lo hi)))
/-! ### t < u, t + u -/
def rLtT (K : PySem.W.Frag) : R2 := fun x y H Q => ∃ a b ns ms, x = .ref a ∧ y = .ref b ∧ SqT K H a (ns.map V.int) ∧ SqT K H b (ms.map V.int) ∧ Q (.bl (HT.lexLt ns ms)) H
/-- t + u, t not empty: u empty gives t itself -/
def rCatT (K : PySem.W.Frag) : R2 := fun x y H Q => ∃ a b xs ys, x = .ref a ∧ y = .ref b ∧ SqT K H a xs ∧ SqT K H b ys ∧ xs ≠ [] ∧ xs.length + ys.length ≤ sizeLine ∧
  (ys = [] → Q (.ref a) H) ∧ (ys ≠ [] → ∀ p, H p = none → Q (.ref p) (upd H p (.tup (xs ++ ys))))
end
end L2

namespace L2
open PySem PySem.Spec PyProof.Rows

/-! ### places -/
/-- the place that an index of any sign means -/
def ixN (n : Nat) (i : Int) : Option Nat := if 0 ≤ i then (if i < n then some i.toNat else none) else if -(n : Int) ≤ i then some (i + n).toNat else none
def atI {α : Type} (xs : List α) (i : Int) : Option α := (ixN xs.length i).bind fun j => xs[j]?
theorem ixN_seq {n : Nat} {i : Int} {j : Nat} (h : ixN n i = some j) : seqIndex? i n = some j ∧ j < n ∧ -(n : Int) ≤ i ∧ i < n := by
  unfold ixN at h
  by_cases h0 : 0 ≤ i
  · rw [if_pos h0] at h
    by_cases h1 : i < n
    · rw [if_pos h1] at h
      have e : i.toNat = j := Option.some.inj h
      exact ⟨by rw [seqIndex_of h0 h1, e], by omega, by omega, h1⟩
    · rw [if_neg h1] at h; cases h
  · rw [if_neg h0] at h
    by_cases h1 : -(n : Int) ≤ i
    · rw [if_pos h1] at h
      have e : (i + n).toNat = j := Option.some.inj h
      exact ⟨by rw [seqIndex_neg (by omega) h1, e], by omega, h1, by omega⟩
    · rw [if_neg h1] at h; cases h
theorem atI_get {α : Type} {xs : List α} {i : Int} {v : α} (h : atI xs i = some v) : ∃ j, seqIndex? i xs.length = some j ∧ xs[j]? = some v ∧ j < xs.length ∧ -(xs.length : Int) ≤ i ∧ i < xs.length := by
  unfold atI at h
  cases e : ixN xs.length i with
  | none => rw [e] at h; cases h
  | some j =>
    rw [e] at h
    obtain ⟨h1, h2, h3, h4⟩ := ixN_seq e
    exact ⟨j, h1, h, h2, h3, h4⟩
theorem atI_nat {α : Type} {xs : List α} {j : Nat} {v : α} (h : xs[j]? = some v) : atI xs (j : Int) = some v := by
  have hj : j < xs.length := (List.getElem?_eq_some_iff.mp h).1
  have e : ixN xs.length (j : Int) = some j := by
    unfold ixN
    rw [if_pos (by omega), if_pos (by omega)]; simp
  unfold atI; rw [e]; exact h
/-! ### what may be subscripted -/
/-- what stands as an index of a plain subscript -/
def PlainIx (b : Expr) : Prop := ∀ o i, subscripted b false o i = operate [o, i] (getItem o i)
/-- a subscript by values -/
def IxR (X : Cx) (r : R2) : Prop :=
  ∀ (value slice : Expr) (pins : List (Addr × Obj)) (s : Shared) (σ : St) (H : Hp) (x y : V) (v u : Value) (Q : VK), Inv X pins σ H s → RelV x v → RelV y u → r x y H Q →
    subscripted slice false v u = operate [v, u] (getItem v u) → wpAny (model X.prog X.w) X.A (subscriptTail value slice v u) (EP X pins σ Q) X.xe s
/-- a call of a builtin's method by values: the receiver, the arguments -/
def MtR (X : Cx) (id : String) (r : V → List V → Hp → VK → Prop) : Prop :=
  ∀ (pins : List (Addr × Obj)) (s : Shared) (σ : St) (H : Hp) (x : V) (xs : List V) (v : Value) (us : List Value) (Q : VK), Inv X pins σ H s → RelV x v → Vals xs us → r x xs H Q →
    wpAny (model X.prog X.w) X.A (call (.builtin id) (v :: us)) (EP X pins σ Q) X.xe s
section
variable {X : Cx} {a b : Expr} {ta tb : TE} {pos : Pos}
/-- a[b] -/
theorem pe_ix {r : R2} (hr : IxR X r) (ha : PE X a ta) (hb : PE X b tb) (hs : PlainIx b) : PE X (.Subscript a b pos) (tOp r ta tb) := by
  intro pins s σ H Q I h
  exact Subscript_ (binT ha hb I h fun v u s2 x y H2 I2 rx ry q => hr a b pins s2 σ H2 x y v u Q I2 rx ry q (hs _ _))

def rIxL (K : PySem.W.Frag) : R2 := fun x y H Q => ∃ p xs i v, x = .ref p ∧ y = .int i ∧ SqL K H p xs ∧ atI xs i = some v ∧ Q v H
def rIxT (K : PySem.W.Frag) : R2 := fun x y H Q => ∃ p xs i v, x = .ref p ∧ y = .int i ∧ SqT K H p xs ∧ atI xs i = some v ∧ Q v H
def rIxS : R2 := fun x y H Q => ∃ z i c, x = .str z ∧ y = .int i ∧ z.length ≤ sizeLine ∧ atI z.cps.toList i = some c ∧ Q (.str ⟨#[c]⟩) H
theorem ix_list : IxR X (rIxL X.K) := by
  intro value slice pins s σ H x y v u Q I rx ry h hs
  obtain ⟨p, xs, i, z, rfl, rfl, hq, he, q⟩ := h
  cases rx
  obtain ⟨t, rfl⟩ := ry
  obtain ⟨its, r, pl, hz⟩ := I.list hq
  obtain ⟨j, h1, h2, h3, h4, h5⟩ := atI_get he
  obtain ⟨w, ew, rw'⟩ := r.get h2
  have hl := r.length
  have hn := line63
  have fin : EP X pins σ Q w s := ⟨z, H, I, rw', q⟩
  by_cases h0 : 0 ≤ i
  · have hj : i.toNat = j := by
      rw [seqIndex_of h0 h5] at h1
      exact Option.some.inj h1
    exact item_listR pl.isList h0 (by omega) (by rw [hj]; simpa using ew) fin hs
  · have hj : (i + (its.toArray.size : Int)).toNat = j := by
      rw [seqIndex_neg (by omega) h4] at h1
      rw [List.size_toArray, ← hl]
      exact Option.some.inj h1
    exact subscriptTail_builtinR (x := w) pl.isList.typeIs slot_list_getitem.lookup
      (wpAny_getItem_list_neg (Q := fun r s' => r = w ∧ EP X pins σ Q r s') pl.isList (by omega) (by rw [List.size_toArray] <;> omega) (by omega) (by rw [hj]; simpa using ew) ⟨rfl, fin⟩) hs
theorem ix_tup : IxR X (rIxT X.K) := by
  intro value slice pins s σ H x y v u Q I rx ry h hs
  obtain ⟨p, xs, i, z, rfl, rfl, hq, he, q⟩ := h
  cases rx
  obtain ⟨t, rfl⟩ := ry
  obtain ⟨its, r, pl, hz⟩ := I.tuple hq
  obtain ⟨j, h1, h2, h3, h4, h5⟩ := atI_get he
  obtain ⟨w, ew, rw'⟩ := r.get h2
  have hl := r.length
  have hn := line63
  have fin : EP X pins σ Q w s := ⟨z, H, I, rw', q⟩
  exact subscriptTail_builtinR (x := w) pl.typeIs slot_tuple_getitem.lookup
    (getItem_tuple (j := j) (Q := fun r s' => r = w ∧ EP X pins σ Q r s') pl (by omega) (by omega) (by rw [List.size_toArray, ← hl]; exact h1) (by simpa using ew) ⟨rfl, fin⟩) hs
/-- list, tuple or str -/
def rIx (K : PySem.W.Frag) : R2 := fun x y H Q => rIxL K x y H Q ∨ rIxT K x y H Q ∨ rIxS x y H Q
/-! ### xs[i] = v, any sign -/
/-- the list's object behind a store -/
theorem mapSeq_set (its : List Value) (n j : Nat) (u : Value) : Obj.mapSeq (·.setIfInBounds j u) { cls := .type "list", data := .seq its.toArray n } = { cls := .type "list", data := .seq (its.set j u).toArray n } := by
  simp [Obj.mapSeq]
theorem Inv.lst {pins : List (Addr × Obj)} {σ : St} {H : Hp} {s : Shared} {p : Addr} {xs : List V} (I : Inv X pins σ H s) (h : H p = some (.lst xs)) :
    ∃ (its : List Value) (n : Nat), Vals xs its ∧ s.heap.get? p = some { cls := .type "list", data := .seq its.toArray n } ∧ xs.length ≤ sizeLine := by
  obtain ⟨z, its, n, r, e⟩ := I.hok p _ h
  exact ⟨its, n, r, e, z⟩
/-- the list at p is written by an update of its object -/
theorem Inv.lstUpd {pins : List (Addr × Obj)} {σ : St} {H : Hp} {s : Shared} {p : Addr} {xs ys : List V} {its its' : List Value} {n n' : Nat} {f : Obj → Obj} (I : Inv X pins σ H s) (h : H p = some (.lst xs))
    (ho : s.heap.get? p = some { cls := .type "list", data := .seq its.toArray n }) (hf : f { cls := .type "list", data := .seq its.toArray n } = { cls := .type "list", data := .seq its'.toArray n' }) (r : Vals ys its') (hz : ys.length ≤ sizeLine) (t : Nat) :
    Inv X pins σ (upd H p (.lst ys)) { s with heap := s.heap.update p f, toks := t } := by
  have e : (s.heap.update p f).get? p = some { cls := .type "list", data := .seq its'.toArray n' } := by
    rw [Heap.get?_update_self f ho (by rw [hf] <;> rfl), hf]
  refine I.write (x := p) (e := p) (by rw [h]; trivial) (.inl rfl) (fun b u hb q => (Heap.get?_update_other _ _ (Ne.symm hb)).trans q) ⟨_, e⟩ ?_
  exact ⟨hz, its', n', r, e⟩
def rSetL : V → V → V → Hp → (Hp → Prop) → Prop := fun o i v H Q => ∃ p xs k j, o = .ref p ∧ i = .int k ∧ H p = some (.lst xs) ∧ ixN xs.length k = some j ∧ Q (upd H p (.lst (xs.set j v)))
theorem set_list : PSet X rSetL := by
  intro pins s σ H o i v ov iv u Q I ro ri rv h
  obtain ⟨p, xs, k, j, rfl, rfl, hp, hj, q⟩ := h
  cases ro
  obtain ⟨t, rfl⟩ := ri
  obtain ⟨its, n, r, ho, hz⟩ := I.lst hp
  obtain ⟨h1, h2, h3, h4⟩ := ixN_seq hj
  have hl := r.length
  have hn := line63
  have I' : Inv X pins σ (upd H p (.lst (xs.set j v))) { s with heap := s.heap.update p (Obj.mapSeq (·.setIfInBounds j u)) } :=
    I.lstUpd hp ho (mapSeq_set its n j u) (r.set rv j) (by rw [List.length_set]; exact hz) s.toks
  by_cases h0 : 0 ≤ k
  · have hk : k.toNat = j := by
      rw [seqIndex_of h0 h4] at h1
      exact Option.some.inj h1
    exact PySem.W.ki_setAt ho h0 (by omega) (by rw [List.size_toArray, ← hl]; exact h4) (by rw [hk]; exact ⟨_, I', q⟩)
  · have hk : (k + (its.toArray.size : Int)).toNat = j := by
      rw [seqIndex_neg (by omega) h3] at h1
      rw [List.size_toArray, ← hl]
      exact Option.some.inj h1
    exact PySem.W.ki_setBack ho (by omega) (by rw [List.size_toArray, ← hl]; exact h3) (by omega) (by rw [hk]; exact ⟨_, I', q⟩)

/-! ### slices -/
theorem slice_bounds (lo hi : Option Int) (n : Nat) : (sliceBounds lo hi none n).1 = ((HT.sIx n 0 lo : Nat) : Int) ∧ (sliceBounds lo hi none n).2.1 = ((HT.sIx n n hi : Nat) : Int) ∧ (sliceBounds lo hi none n).2.2 = 1 := by
  refine ⟨?_, ?_, rfl⟩
  · cases lo with
    | none => simp [sliceBounds, HT.sIx]
    | some i =>
      simp only [sliceBounds, HT.sIx, Option.getD_none, show (1 : Int) > 0 by decide, if_true]
      by_cases h : i < 0
      · simp only [h, if_true] <;> omega
      · simp only [h, if_false] <;> omega
  · cases hi with
    | none => simp [sliceBounds, HT.sIx]
    | some i =>
      simp only [sliceBounds, HT.sIx, Option.getD_none, show (1 : Int) > 0 by decide, if_true]
      by_cases h : i < 0
      · simp only [h, if_true] <;> omega
      · simp only [h, if_false] <;> omega
theorem slicePick_cut (its : List Value) (lo hi : Option Int) : slicePick its.toArray lo hi none = ((its.drop (HT.sIx its.length 0 lo)).take (HT.sIx its.length its.length hi - HT.sIx its.length 0 lo)).toArray := by
  obtain ⟨h1, h2, h3⟩ := slice_bounds lo hi its.toArray.size
  unfold slicePick
  rw [h1, h2, h3]
  simp only [sliceRange_one, pick_run, List.size_toArray] <;> rfl
/-- xs[lo:hi] of a list: a new list -/
def rSlL (K : PySem.W.Frag) : V → Option Int → Option Int → Hp → VK → Prop := fun x lo hi H Q => ∃ a xs, x = .ref a ∧ SqL K H a xs ∧ ∀ p, H p = none → Q (.ref p) (upd H p (.lst (cutV xs lo hi)))
theorem sl_list : SlR X (rSlL X.K) := by
  intro pins s σ H x v vl vu lo hi sl Q I rx hs pl pu h
  obtain ⟨a, xs, rfl, hx, q⟩ := h
  cases rx
  obtain ⟨its, r, ht, hz⟩ := I.list hx
  have hlen := r.length
  refine ⟨"list", _, slot_list_getitem.lookup, ht.isList.typeIs, ?_⟩
  refine wpAny_getItem_list_slice ht.isList hs pl pu .none (by simp) ?_ (by rw [List.size_toArray] <;> omega)
  rw [slicePick_cut, ← hlen]
  refine ⟨.ref s.heap.objs.size, _, I.laid (t' := s.toks) (o := .lst (cutV xs lo hi)) (fun b ob q => Heap.get?_push_of_some _ q) (Nat.le_refl _) ?_, rfl, q _ (I.hok.fresh (Nat.le_refl _))⟩
  exact ⟨Nat.le_trans (cutV_length xs lo hi) hz, _, 0, (r.drop (HT.sIx xs.length 0 lo)).take (HT.sIx xs.length xs.length hi - HT.sIx xs.length 0 lo), Heap.get?_push_size _ rfl⟩

/-! ### in, not in: flat items -/
def flatV : V → Bool
  | .non => true
  | .bl _ => true
  | .int _ => true
  | .str _ => true
  | _ => false
/-- == of flat values -/
def eqV : V → V → Bool
  | .non, .non => true
  | .bl a, .bl b => a == b
  | .bl a, .int b => (if a then 1 else 0) == b
  | .int a, .bl b => a == (if b then 1 else 0)
  | .int a, .int b => a == b
  | .str a, .str b => a == b
  | _, _ => false
/-- the items' answers, read off the values (a value's own answer does not lean on its token) -/
def eqU (x : V) (u : Value) : Bool := match u with
  | .none => eqV .non x
  | .bool b => eqV (.bl b) x
  | .int i _ => eqV (.int i) x
  | .str z _ => eqV (.str z) x
  | _ => false
def inV (x : V) (xs : List V) : Bool := xs.any fun y => eqV y x
/-- x in a list or tuple of flat items -/
def rIn (K : PySem.W.Frag) (neg : Bool) : R2 := fun x y H Q => ∃ p xs, y = .ref p ∧ (SqL K H p xs ∨ SqT K H p xs) ∧ flatV x = true ∧ xs.all flatV = true ∧ Q (.bl (if neg then !inV x xs else inV x xs)) H
/-! ### len, list(x), tuple(x) of any list or tuple that is read -/
theorem call_len_seq : CallR X (.builtin "len") (fun xs H Q => ∃ p ys, xs = [.ref p] ∧ (SqL X.K H p ys ∨ SqT X.K H p ys) ∧ Q (.int ys.length) H) := by
  intro pins s σ H xs us Q I r h
  obtain ⟨p, ys, rfl, hq, q⟩ := h
  obtain ⟨u, rfl, rx⟩ := vals1 r
  cases rx
  have hn := line63
  rcases hq with hq | hq
  · obtain ⟨its, r', pl, hz⟩ := I.list hq
    have hlen := r'.length
    exact Calls.call_len_list pl.isList (by simp only [List.size_toArray] <;> omega) ⟨.int ys.length, H, I.tok _, ⟨s.toks + 1, by rw [List.size_toArray, hlen]⟩, q⟩
  · obtain ⟨its, r', pl, hz⟩ := I.tuple hq
    have hlen := r'.length
    exact len_tuple pl (by simp only [List.size_toArray] <;> omega) ⟨.int ys.length, H, I.tok _, ⟨s.toks + 1, by rw [List.size_toArray, hlen]⟩, q⟩
theorem call_list_of : CallR X (.type "list") (fun xs H Q => ∃ p ys, xs = [.ref p] ∧ (SqL X.K H p ys ∨ SqT X.K H p ys) ∧ ∀ l, H l = none → Q (.ref l) (upd H l (.lst ys))) := by
  intro pins s σ H xs us Q I r h
  obtain ⟨p, ys, rfl, hq, q⟩ := h
  obtain ⟨u, rfl, rx⟩ := vals1 r
  cases rx
  have fin : ∀ (its : List Value), Vals ys its → ys.length ≤ sizeLine → ∀ (h' : Heap) (c' : Nat), (∀ b o', s.heap.get? b = some o' → h'.get? b = some o') →
      h'.get? s.heap.objs.size = some { cls := .type "list", dict := none, data := .seq its.toArray c', slots := #[] } → EP X pins σ Q (.ref s.heap.objs.size) { s with heap := h' } := fun its r' hz h' c' kp e =>
    ⟨.ref s.heap.objs.size, _, I.laid (t' := s.toks) kp (Nat.le_refl _) (show ObjOk X.prog X.w _ h' _ (.lst ys) from ⟨hz, its, c', r', e⟩), rfl, q _ (I.hok.fresh (Nat.le_refl _))⟩
  rcases hq with hq | hq
  · obtain ⟨its, r', pl, hz⟩ := I.list hq
    have hlen := r'.length
    obtain ⟨o, ho, hc, n, hd⟩ := pl.isList
    exact call_list_seq p (.inl rfl) ho hc hd (fun h' c' kp e => fin its r' hz h' c' kp e) (by simp only [List.size_toArray] <;> omega)
  · obtain ⟨its, r', pl, hz⟩ := I.tuple hq
    have hlen := r'.length
    obtain ⟨o, ho, hc, n, hd⟩ := pl
    exact call_list_seq p (.inr rfl) ho hc hd (fun h' c' kp e => fin its r' hz h' c' kp e) (by simp only [List.size_toArray] <;> omega)
/-! ### the call of a builtin's method: o.m(..) -/
/-- the value is of that builtin type -/
def tyV (K : PySem.W.Frag) (T : String) (x : V) (H : Hp) : Prop := match x with
  | .str _ => T = "str"
  | .int _ => T = "int"
  | .ref p => (T = "list" ∧ ∃ xs, SqL K H p xs) ∨ (T = "tuple" ∧ ∃ o, K.lookup p = some o ∧ o.cls = .type "tuple" ∧ o.dict = none) ∨
      (T = "dict" ∧ ((∃ kvs, H p = some (.dK kvs)) ∨ ∃ kvs, H p = some (.dT kvs))) ∨ (T = "set" ∧ ∃ S n, H p = some (.set S n))
  | _ => False
theorem tyV_is {pins : List (Addr × Obj)} {σ : St} {H : Hp} {s : Shared} {T : String} {x : V} {v : Value} (I : Inv X pins σ H s) (r : RelV x v) (ty : tyV X.K T x H) :
    s.TypeIs v T ∧ ∀ a, v = .ref a → ∃ ob, s.heap.get? a = some ob ∧ ob.dict = none := by
  cases x with
  | str z =>
    obtain ⟨t, rfl⟩ := r
    cases (show T = "str" from ty)
    exact ⟨typeIs_str s z t, fun _ e => nomatch e⟩
  | int i =>
    obtain ⟨t, rfl⟩ := r
    cases (show T = "int" from ty)
    exact ⟨typeIs_int s i t, fun _ e => nomatch e⟩
  | ref p =>
    cases r
    rcases ty with ⟨rfl, xs, hq⟩ | ⟨rfl, o, hk, hc, hd⟩ | ⟨rfl, hk⟩ | ⟨rfl, S, n, hk⟩
    · obtain ⟨its, _, pl, _⟩ := I.list hq
      refine ⟨pl.isList.typeIs, fun a e => ?_⟩
      cases e
      obtain ⟨o, n, e, c, hd, _⟩ := pl
      exact ⟨o, e, hd⟩
    · refine ⟨⟨o, I.kIn p o hk, hc⟩, fun a e => ?_⟩
      cases e
      exact ⟨o, I.kIn _ o hk, hd⟩
    · have z : ∃ o, s.heap.get? p = some o ∧ o.ExactDict := by
        rcases hk with ⟨kvs, hk⟩ | ⟨kvs, hk⟩
        · obtain ⟨_, _, _, _, o, _, _, e, ex, _⟩ := I.hok p _ hk
          exact ⟨o, e, ex⟩
        · obtain ⟨_, _, _, _, o, _, _, e, ex, _⟩ := I.hok p _ hk
          exact ⟨o, e, ex⟩
      obtain ⟨o, e, ex⟩ := z
      refine ⟨⟨o, e, ex.1⟩, fun a e2 => ?_⟩
      cases e2
      exact ⟨o, e, ex.2.1⟩
    · obtain ⟨o, _, _, _, e, ex, _⟩ := I.hok p _ hk
      refine ⟨⟨o, e, ex.1⟩, fun a e2 => ?_⟩
      cases e2
      exact ⟨o, e, ex.2.1⟩
  | _ => exact False.elim ty
def tBM0 (K : PySem.W.Frag) (T : String) (r : V → List V → Hp → VK → Prop) (to : TE) : TE := fun σ H Q => to σ H fun x H1 => tyV K T x H1 ∧ r x [] H1 Q
def tBM (K : PySem.W.Frag) (T : String) (r : V → List V → Hp → VK → Prop) (to : TE) (t : TA) : TE := fun σ H Q => to σ H fun x H1 => tyV K T x H1 ∧ t σ H1 fun xs H2 => r x xs H2 Q
variable {o e : Expr} {es : List Expr} {to : TE} {t : TA} {name : Str} {apos cpos : Pos} {T id : String} {r : V → List V → Hp → VK → Prop}
theorem pe_bm0 (pa : PlainAttrs T) (slot : Slot T name id) (hty : typeOf (.builtin id) = pure (.type "method_descriptor")) (hm : MtR X id r) (ho : PE X o to)
    (hbase : attributeBase o name X.env (eval o X.env) = eval o X.env := by rfl) (hline : (apos.endLine == cpos.line) = true := by rfl) : PE X (.Call (.Attribute o name apos) [] [] cpos) (tBM0 X.K T r to) := by
  intro pins s σ H Q I h
  refine wpAny_Call_method0_late hbase hline (thn (ho pins s σ H _ I h) fun v s1 ⟨x, H1, I1, r1, ty, q1⟩ => ?_)
  obtain ⟨h1, h2⟩ := tyV_is I1 r1 ty
  exact ⟨T, id, pa, slot, hty, h1, h2, Calls.callWith_builtin rfl (PySem.evalArgs_none (hm pins s1 σ H1 x [] v [] Q I1 r1 .nil q1))⟩
theorem pe_bm (pa : PlainAttrs T) (slot : Slot T name id) (hty : typeOf (.builtin id) = pure (.type "method_descriptor")) (hm : MtR X id r) (ho : PE X o to) (ha : PA X (e :: es) t)
    (hbase : attributeBase o name X.env (eval o X.env) = eval o X.env := by rfl)
    (hfew : ((backTo cpos (starEach (e :: es) X.env)).all (fun x => !x.1) && (backToKw cpos (keywordEach [] X.env)).all (fun x => x.1.isSome)
      && decide ((e :: es).length + ([] : List Keyword).length + (if ([] : List Keyword).isEmpty then 0 else 1) < 30)) = true := by rfl)
    (hline : (apos.endLine == cpos.line) = true := by rfl) (hs : starEach (e :: es) X.env = (false, eval e X.env) :: starEach es X.env := by rfl) (hplain : (backTo cpos (starEach es X.env)).any (·.1) = false := by rfl) :
    PE X (.Call (.Attribute o name apos) (e :: es) [] cpos) (tBM X.K T r to t) := by
  intro pins s σ H Q I h
  refine wpAny_Call_method_late hbase hfew hline rfl (thn (ho pins s σ H _ I h) fun v s1 ⟨x, H1, I1, r1, ty, q1⟩ => ?_)
  obtain ⟨h1, h2⟩ := tyV_is I1 r1 ty
  refine ⟨T, id, pa, slot, hty, h1, h2, ?_⟩
  have hA := ha cpos pins s1 σ H1 _ I1 q1
  rw [hs] at hA ⊢
  refine Calls.callWith_builtin (by show (false || (backTo cpos (starEach es X.env)).any (·.1)) = false; rw [hplain] <;> rfl) (Calls.evalArgs_plain ?_)
  exact thn hA fun us s2 ⟨vs, H2, I2, r2, q2⟩ => hm pins s2 σ H2 x vs v us Q I2 r1 r2 q2
/- xs.append(e), list.index on a module's tuple .. are MtR facts of 06m -/
end
end L2

namespace L2
open PySem PySem.Spec PyProof.Rows

def MtM (X : Cx) (id : String) (r : V → List V → Hp → VK → Prop) : Prop :=
  ∀ (pins : List (Addr × Obj)) (s : Shared) (σ : St) (H : Hp) (x : V) (xs : List V) (v : Value) (us : List Value) (Q : VK), Inv X pins σ H s → RelV x v → Vals xs us → r x xs H Q →
    wpAny (model X.prog X.w) X.A (call (.builtin id) (v :: us)) (EP X pins σ Q) X.xe s

/-! ### lists of values -/
theorem Vals.one : ∀ {x : V} {us : List Value}, Vals [x] us → ∃ u, us = [u] ∧ RelV x u
  | _, _, .cons r .nil => ⟨_, rfl, r⟩
theorem Vals.zero : ∀ {us : List Value}, Vals [] us → us = []
  | _, .nil => rfl
theorem Vals.dropLast {xs : List V} {us : List Value} (h : Vals xs us) : Vals xs.dropLast us.dropLast := by
  induction h with
  | nil => exact .nil
  | cons r t ih =>
    cases t with
    | nil => exact .nil
    | cons q t' => exact .cons r ih
theorem Vals.rep {xs : List V} {us : List Value} (h : Vals xs us) : ∀ k : Nat, Vals (List.replicate k xs).flatten (List.replicate k us).flatten
  | 0 => .nil
  | k + 1 => by
    rw [List.replicate_succ, List.replicate_succ, List.flatten_cons, List.flatten_cons]
    exact Vals.append h (Vals.rep h k)
theorem erase_last {α : Type} (l : List α) : l.eraseIdx (l.length - 1) = l.dropLast := by
  induction l with
  | nil => rfl
  | cons a r ih =>
    cases r with
    | nil => rfl
    | cons b r =>
      have e : (a :: b :: r).length - 1 = ((b :: r).length - 1) + 1 := by
        have h1 : (a :: b :: r).length = r.length + 2 := rfl
        have h2 : (b :: r).length = r.length + 1 := rfl
        omega
      rw [e, List.eraseIdx_cons_succ, ih]
      all_goals rfl
theorem foldl_rep (its : List Value) : ∀ (k : Nat) (acc : List Value),
    List.foldl (fun x1 x2 => x1 ++ x2) acc.toArray (List.replicate k its.toArray) = (acc ++ (List.replicate k its).flatten).toArray
  | 0, acc => by simp
  | k + 1, acc => by
    have e : acc.toArray ++ its.toArray = (acc ++ its).toArray := by simp
    have e2 : (acc ++ its) ++ (List.replicate k its).flatten = acc ++ (List.replicate (k + 1) its).flatten := by
      rw [List.replicate_succ, List.flatten_cons, List.append_assoc]
    rw [← e2, ← foldl_rep its k (acc ++ its), ← e, List.replicate_succ, List.foldl_cons]

section
variable {X : Cx} {pins : List (Addr × Obj)} {σ : St} {H : Hp} {s : Shared} {l b : Addr} {xs ys zs : List V}

/-! ### the two steps: a tracked list is rewritten, a new list is laid -/
theorem Inv.lset {its its' : List Value} {n : Nat} {f : Array Value → Array Value} {t' : Nat} (I : Inv X pins σ H s) (hH : H l = some (.lst xs))
    (e : s.heap.get? l = some { cls := .type "list", data := .seq its.toArray n }) (hf : f its.toArray = its'.toArray) (hv : Vals ys its') (hz : ys.length ≤ sizeLine) :
    Inv X pins σ (upd H l (.lst ys)) { s with heap := s.heap.update l (Obj.mapSeq f), toks := t' } := by
  have q := PySem.IsL.update e f
  rw [hf] at q
  refine I.write (x := l) (e := l) (by rw [hH]; exact trivial) (.inl rfl) (fun b' u hb hu => (Heap.get?_update_other s.heap (Obj.mapSeq f) (Ne.symm hb)).trans hu) ⟨_, q⟩ ?_
  exact ⟨hz, its', _, hv, q⟩
theorem Inv.lnew {its : List Value} {t' : Nat} (I : Inv X pins σ H s) (hv : Vals ys its) (hz : ys.length ≤ sizeLine) :
    Inv X pins σ (upd H s.heap.objs.size (.lst ys)) { s with heap := s.heap.push { cls := .type "list", data := .seq its.toArray }, toks := t' } :=
  I.laid (fun _ _ q => Heap.get?_push_of_some _ q) (Nat.le_refl _) ⟨hz, its, 0, hv, Heap.get?_push_size _ rfl⟩
theorem Inv.fresh (I : Inv X pins σ H s) : H s.heap.objs.size = none := I.hok.fresh (Nat.le_refl _)
theorem Inv.lstM (I : Inv X pins σ H s) (hH : H l = some (.lst xs)) : xs.length ≤ sizeLine ∧ ∃ (its : List Value) (n : Nat), Vals xs its ∧ xs.length = its.length ∧ s.heap.get? l = some { cls := .type "list", data := .seq its.toArray n } := by
  obtain ⟨z, its, n, r, e⟩ := I.hok l _ hH
  exact ⟨z, its, n, r, r.length, e⟩

theorem notLongL {n : Nat} (h : n ≤ sizeLine) : Builtin.List.listTooLong n = false := by
  unfold Builtin.List.listTooLong
  exact decide_eq_false (by omega)
end

section
variable {X : Cx}

/-! ### methods -/
def rAppend : V → List V → Hp → VK → Prop := fun x vs H Q => ∃ l xs y, x = .ref l ∧ vs = [y] ∧ H l = some (.lst xs) ∧ xs.length < sizeLine ∧ Q .non (upd H l (.lst (xs ++ [y])))
theorem mt_append : MtM X "list.append" rAppend := by
  intro pins s σ H x vs v us Q I rx rv h
  obtain ⟨l, xs, y, rfl, rfl, hH, hz, q⟩ := h
  cases rx
  obtain ⟨u, rfl, ru⟩ := rv.one
  obtain ⟨z, its, n, r, hl, e⟩ := I.lstM hH
  refine call_meets F.slot_list_append ⟨_, e, rfl⟩ F.entry_list_append (F.args_list_append_2 _ _) (PySem.list_append l its.toArray n u (by rw [List.size_toArray]; omega)) ⟨e, ?_⟩
  refine ⟨.non, _, I.lset (its' := its ++ [u]) hH e (by simp) (r.append (.cons ru .nil)) ?_, rfl, q⟩
  rw [List.length_append, List.length_singleton]
  omega

def rExtend : V → List V → Hp → VK → Prop := fun x vs H Q => ∃ l b xs zs, x = .ref l ∧ vs = [.ref b] ∧ H l = some (.lst xs) ∧ H b = some (.lst zs) ∧ xs.length + zs.length ≤ sizeLine ∧ Q .non (upd H l (.lst (xs ++ zs)))
theorem mt_extend : MtM X "list.extend" rExtend := by
  intro pins s σ H x vs v us Q I rx rv h
  obtain ⟨l, b, xs, zs, rfl, rfl, hH, hB, hz, q⟩ := h
  cases rx
  obtain ⟨u, rfl, ru⟩ := rv.one
  cases ru
  obtain ⟨z, its, n, r, hl, e⟩ := I.lstM hH
  obtain ⟨z2, its2, n2, r2, hl2, e2⟩ := I.lstM hB
  have hsz : its.toArray.size + its2.toArray.size ≤ sizeLine := by rw [List.size_toArray, List.size_toArray]; omega
  have hlong : ¬ (!its.toArray.isEmpty && Builtin.List.listTooLong (its.toArray.size + its2.toArray.size)) = true := by
    rw [notLongL hsz, Bool.and_false]
    exact Bool.false_ne_true
  refine call_meets F.slot_list_extend ⟨_, e, rfl⟩ F.entry_list_extend (F.args_list_extend_2 _ _)
    (AutoSeq1.list_extend_list_list_0 l its.toArray n b its2.toArray n2 hlong (by rw [List.size_toArray]; omega) (by omega)) ⟨e, e2, ?_⟩
  refine ⟨.non, _, I.lset (its' := its ++ its2) hH e (by simp) (r.append r2) ?_, rfl, q⟩
  rw [List.length_append]
  omega

def rPop : V → List V → Hp → VK → Prop := fun x vs H Q => ∃ l xs y, x = .ref l ∧ vs = [] ∧ H l = some (.lst xs) ∧ xs[xs.length - 1]? = some y ∧ Q y (upd H l (.lst xs.dropLast))
theorem mt_pop : MtM X "list.pop" rPop := by
  intro pins s σ H x vs v us Q I rx rv h
  obtain ⟨l, xs, y, rfl, rfl, hH, hy, q⟩ := h
  cases rx
  have hus := rv.zero
  subst hus
  obtain ⟨z, its, n, r, hl, e⟩ := I.lstM hH
  obtain ⟨u, hu, ru⟩ := r.get hy
  have hy' : its.toArray[its.toArray.size - 1]? = some u := by
    show its.toArray[its.length - 1]? = some u
    rw [← Array.getElem?_toList, ← hl]
    exact hu
  refine call_meets F.slot_list_pop ⟨_, e, rfl⟩ F.entry_list_pop (F.args_list_pop_1 _) (MeetsSeq.list_pop_last l its.toArray n u hy' (by rw [List.size_toArray]; omega)) ⟨e, ?_⟩
  refine ⟨y, _, I.lset (its' := its.dropLast) hH e ?_ r.dropLast ?_, ru, q⟩
  · show its.toArray.eraseIdxIfInBounds (its.toArray.size - 1) = its.dropLast.toArray
    rw [List.size_toArray, List.eraseIdxIfInBounds_toArray, erase_last]
  · rw [List.length_dropLast]
    omega

def rPopAt : V → List V → Hp → VK → Prop := fun x vs H Q => ∃ l xs i k y, x = .ref l ∧ vs = [.int i] ∧ H l = some (.lst xs) ∧ -(2 ^ 63) ≤ i ∧ i < 2 ^ 63 ∧ seqIndex? i xs.length = some k ∧ xs[k]? = some y ∧ Q y (upd H l (.lst (xs.eraseIdx k)))
def rReverse : V → List V → Hp → VK → Prop := fun x vs H Q => ∃ l xs, x = .ref l ∧ vs = [] ∧ H l = some (.lst xs) ∧ Q .non (upd H l (.lst xs.reverse))
def rClear : V → List V → Hp → VK → Prop := fun x vs H Q => ∃ l xs, x = .ref l ∧ vs = [] ∧ H l = some (.lst xs) ∧ Q .non (upd H l (.lst []))
/-! ### list + list, list += list, list * int -/
def rCat : R2 := fun x y H Q => ∃ l b xs zs, x = .ref l ∧ y = .ref b ∧ H l = some (.lst xs) ∧ H b = some (.lst zs) ∧ xs.length + zs.length ≤ sizeLine ∧ ∀ p, H p = none → Q (.ref p) (upd H p (.lst (xs ++ zs)))
theorem op_cat : OpR X (binaryOp .Add) rCat := by
  intro pins s σ H x y v u Q I rx ry h
  obtain ⟨l, b, xs, zs, rfl, rfl, hH, hB, hz, q⟩ := h
  cases rx
  cases ry
  obtain ⟨z, its, n, r, hl, e⟩ := I.lstM hH
  obtain ⟨z2, its2, n2, r2, hl2, e2⟩ := I.lstM hB
  refine PySem.P.add_list e e2 ?_ (by rw [List.size_toArray, List.size_toArray]; omega)
  have ea : its.toArray ++ its2.toArray = (its ++ its2).toArray := by simp
  rw [ea]
  exact ⟨.ref _, _, I.lnew (t' := s.toks) (r.append r2) (by rw [List.length_append]; omega), rfl, q _ I.fresh⟩
/-- a list times an int (a negative one is nothing) -/
def rRep : R2 := fun x y H Q => ∃ l k xs, x = .ref l ∧ y = .int k ∧ H l = some (.lst xs) ∧ -(2 ^ 63) ≤ k ∧ k < 2 ^ 63 ∧ xs.length * k.toNat ≤ sizeLine ∧
  ∀ p, H p = none → Q (.ref p) (upd H p (.lst (List.replicate k.toNat xs).flatten))
theorem len_rep {α : Type} (xs : List α) (k : Nat) : (List.replicate k xs).flatten.length = k * xs.length := by
  induction k with
  | zero => simp
  | succ k ih => rw [List.replicate_succ, List.flatten_cons, List.length_append, ih, Nat.succ_mul, Nat.add_comm]
theorem op_rep : OpR X (binaryOp .Mult) rRep := by
  intro pins s σ H x y v u Q I rx ry h
  obtain ⟨l, k, xs, rfl, rfl, hH, h1, h2, hz, q⟩ := h
  cases rx
  obtain ⟨t, rfl⟩ := ry
  obtain ⟨z, its, n, r, hl, e⟩ := I.lstM hH
  have hlen : its.toArray.size * k.toNat ≤ sizeLine := by rw [List.size_toArray, ← hl]; exact hz
  have hcap : ¬ its.toArray.size * k.toNat > (2 ^ 63 - 1) / 8 := by
    have : (sizeLine : Nat) ≤ (2 ^ 63 - 1) / 8 := by decide
    omega
  have hfit : ¬ (!Builtin.List.listFitsIndex k) = true := by
    rw [fitsIndex_both h1 h2]
    exact Bool.false_ne_true
  have hlong : ¬ Builtin.List.listTooLong (its.toArray.size * k.toNat) = true := by
    rw [notLongL hlen]
    exact Bool.false_ne_true
  have hnew : List.foldl (fun x1 x2 => x1 ++ x2) #[] (List.replicate (if its.toArray.isEmpty = true then 0 else k.toNat) its.toArray) = (List.replicate k.toNat its).flatten.toArray := by
    have f0 : ∀ m : Nat, List.foldl (fun x1 x2 => x1 ++ x2) #[] (List.replicate m its.toArray) = (List.replicate m its).flatten.toArray := fun m => by
      have := foldl_rep its m []
      rw [List.nil_append] at this
      exact this
    rw [f0]
    cases its with
    | nil => simp
    | cons a r' => rw [if_neg (by simp)]
  refine wpAny_binaryOp_repeat_ref (T := "list") (U := "int") (by decide) ⟨_, e, rfl⟩ (fun s' => typeIs_int s' k t) noFill_list_mul F.fills_int_mul F.slot_int_rmul repeat_list F.slot_int_index.lookup
    (call_meets F.slot_int_rmul (typeIs_int s k t) F.entry_int_rmul (F.args_int_rmul_2 _ _) (int___rmul___int_list k t l its.toArray n)
      ⟨e, rfl, ⟨_, e, rfl⟩, call_meets F.slot_list_mul ⟨_, e, rfl⟩ F.entry_list_mul (F.args_list_mul_2 _ _) (AutoListH.list___mul___list_int_3 l its.toArray n k t hfit hcap hlong) ⟨e, ?_⟩⟩)
  rw [hnew]
  exact ⟨.ref _, _, I.lnew (t' := s.toks) (r.rep k.toNat) (by rw [len_rep, Nat.mul_comm]; exact hz), rfl, q _ I.fresh⟩

/-! ### del xs[i] -/
end

/-! ### xs[a:b] = ys -/
section
variable {prog : Program} {w : World} {A : Around} {E : Value → Shared → Prop} {s : Shared}
end

section
variable {X : Cx}
end
end L2

namespace Att
open PySem PySem.W PySem.Calls PyProof.Rows

/-! ### the script -/
theorem ints_of_wellAll {P : Params} {h : Heap} : ∀ (ns : List Int) (vs : List Value), WellAll P h vs (ns.map WData.int) → IntsAre vs ns := by
  intro ns
  induction ns with
  | nil =>
    intro vs w
    rw [List.map_nil] at w
    cases w
    exact .nil
  | cons n ns ih =>
    intro vs w
    rw [List.map_cons] at w
    cases w with
    | cons a b =>
      cases a
      exact .cons _ _ (ih _ b)

theorem script_of {l : OpenLaw} {n : Nat} (hn : l.most = some n) {P : Params} {h : Heap} {args : List WData} {vals : List Value}
    (hpre : l.row.toRowW.claim.pre args = true) (hwl : WellAll P h vals args) :
    ∃ a vs ns, vals = [Value.ref a] ∧ args = [WData.list (ns.map WData.int)] ∧ h.get? a = some { cls := .type "list", data := .seq vs.toArray } ∧ IntsAre vs ns ∧ ns.length ≤ n := by
  have hsh : WShape.hasAll [] args [.list .int] = true := (pre_splitW hpre).1
  have hc : l.pre.holds [] { args := args } = true := (pre_splitW hpre).2
  obtain ⟨d, r, rfl, h1, h2⟩ := hasAllW_cons hsh
  obtain rfl := hasAllW_nil h2
  obtain ⟨xs, rfl, h3⟩ := hasW_list h1
  obtain ⟨ns, rfl⟩ := items_int h3
  have hlen : ns.length ≤ n := by
    unfold OpenLaw.pre at hc
    have h4 : (WTm.not (.lt (.lit (.int (n : Int))) (.len (.arg 0)))).holds [] { args := [.list (ns.map .int)] } = true := by
      have h4 := (holds_andW hc).1
      rw [hn] at h4
      exact h4
    have h5 := condW_of h4 (w_not (w_lt w_lit (w_len_list (w_arg rfl))))
    rw [List.length_map] at h5
    refine Nat.le_of_not_lt fun q => ?_
    have q' : (n : Int) < ((ns.length : Nat) : Int) := by omega
    first
      | (rw [decide_eq_true q'] at h5; exact absurd h5 (by decide))
      | (simp at h5; omega)
  cases hwl with
  | cons w1 w2 =>
    cases w2
    cases w1 with
    | list ho hall => exact ⟨_, _, ns, rfl, rfl, ho, ints_of_wellAll ns _ hall, hlen⟩

theorem post_true (l : OpenLaw) (args : List WData) : l.row.toRowW.claim.post args (.bool true) args = true :=
  postW_of (r := l.row.toRowW) (X := (true == true))
    (show WShape.has [] (.bool true) .bool = true by first | rfl | decide | simp [WShape.has, WShape.arms, WShape.armsAll])
    (show (WTm.eq .res (.lit (.bool true))).value [] { args := args, res := some (.bool true), after := args } = some (.bool (true == true)) from w_eq_bool (w_res rfl) w_lit) rfl

/-! ### the attachment: holds_open's last premise (the goal 'hc' behind k_head) from a wpAny of the law's body -/
/-- the same from a codeAny of the CALL (for a layer whose function contracts speak of calls) -/
theorem attach_call {l : OpenLaw} {n : Nat} {q : Program} {loose : List Str} {XP : (Str → Option Value) → Heap → Prop} {YP : World → Heap → Prop} {d : DefRec}
    (hn : l.most = some n) (hdf : d.params.defaults = [])
    (call : ∀ (w : World) (s₀ s₁ : Shared) (mg mb : Str → Option Value) (fa : Addr) (o : Obj) (pm cd doc : Value) (a : Addr) (vs : List Value) (ns : List Int),
      Ground q loose [] XP w s₀ mg mb s₁.heap → YP w s₁.heap →
      s₁.heap.get? fa = some o → o.data = .func (docDef d.name d.params d.body d.scope pm cd doc) → s₁.heap.CodeRec cd d.name → mg d.name = some (.ref fa) →
      s₁.heap.get? a = some { cls := .type "list", data := .seq vs.toArray } → IntsAre vs ns → ns.length ≤ n → s₁.gens = #[] →
      codeAny (model l.prog w) callerA (.call (.ref fa) ⟨[.ref a], []⟩) (fun r s' => r = .ok (.ret (.bool true)) ∧ OldK s₁.heap s'.heap ∧ s'.os = s₁.os ∧ AllBare s'.gens) s₁) :
    WalkO q loose XP YP l.row.toRowW d [] (fun f vs => PySem.call f vs) := by
  intro w s₀ s₁ mg mb G Y fa o pm cd doc dV kV ho hd hcd hD hmg hg args vals as hpre hlay hrd hwl hlo
  obtain rfl : dV = .none := Dflts.none hD hdf
  obtain rfl : kV = .none := Dflts.noKw hD
  obtain ⟨a, vs, ns, rfl, rfl, hobj, hints, hlen⟩ := script_of hn hpre hwl
  refine enter_call (codeAny_mono (call w s₀ s₁ mg mb fa o pm cd doc a vs ns G Y ho (fd_plain hd) hcd hmg hobj hints hlen hg) fun r s' hq => ?_)
  obtain ⟨rfl, h2, h3, h4⟩ := hq
  exact ⟨.inl ⟨.bool true, .bool true, [], rfl, fun _ => rfl, .bool true, post_true l _, fun _ => ⟨List.Pairwise.nil, fun _ hm => (nomatch hm)⟩⟩, h2, h3, h4⟩

/-! ### rules over ANY heap (no ledger) from facts about the written part K: the library's own take a ledger (News) for what they write -/
section
variable {prog : Program} {w : World} {A : Around} {E : Value → Shared → Prop} {s : Shared} {K : Frag}

/-! the whole heap as the ledger: makes every rule that writes through a ledger a rule over any heap -/
def noObjs (h : Heap) : Heap := { h with objs := #[] }
def ledger (h : Heap) (L d : Addr) : List (Addr × Obj) := (List.range h.objs.size).filterMap fun a => if a = L ∨ a = d then none else (h.get? a).map fun o => (a, o)
end
end Att

namespace L2
open PySem PySem.Spec PyProof.Rows

theorem vals_ints : ∀ {vs : List Value} {ns : List Int}, IntsAre vs ns → Vals (ns.map V.int) vs
  | _, _, .nil => .nil
  | _, _, .cons n t h => .cons ⟨t, rfl⟩ (vals_ints h)

/-- nothing is tracked but the script, known to the object (or it is an object of the module) -/
def Only (H : Hp) : Prop := ∀ b, H b = none ∨ ∃ o xs, H b = some (.frz o (.lst xs))

/-- THE HEAD: the law's promise, at the heap behind the top. F, the promise of the law's def, may use that base is part of the heap (so K.In base, base.Ns mainGlobals mg stand in Mod) -/
theorem law_call {P : Program} {w : World} {K : PySem.W.Frag} {mg mb : Str → Option Value} {CX : CXT} {k : Nat} {fa a : Addr} {fd : FuncData} {x : Str} {sp : Sp} {s₁ : Shared} {vs : List Value} {ns : List Int}
    (KX : K.In s₁.heap) (hns : s₁.heap.Ns mainGlobals mg) (hb : s₁.heap.Ns builtinsNs mb) (hbb : ∀ x : Str, x ≠ "__name__" → mb x = bootBuiltins x) (hlim : s₁.heap.NoLimit) (hg : s₁.gens = #[])
    (ha : s₁.heap.get? a = some { cls := .type "list", data := .seq vs.toArray }) (hi : IntsAre vs ns) (hl : ns.length ≤ sizeLine) (hr : Room k callerA)
    (F : ∀ base : Heap, K.In base → base.Ns mainGlobals mg → FnOk P w K mg base CX k fa fd [x] sp) (hbind : ∀ (s : Shared) (u : Value), BindsTo s fd ⟨[u], []⟩ [(x, u)])
    (hsp : ∀ H : Hp, Only H → SqL K H a (ns.map V.int) → sp [.ref a] H (fun v _ => v = .bl true) fun _ _ _ => False)
    (hCX : ∀ H e s', CX [] H s₁ (fun _ _ _ => False) e s' → False) :
    codeAny (model P w) callerA (.call (.ref fa) ⟨[.ref a], []⟩) (fun r s' => r = .ok (.ret (.bool true)) ∧ OldK s₁.heap s'.heap ∧ s'.os = s₁.os ∧ AllBare s'.gens) s₁ := by
  have rv := vals_ints hi
  have lenV := hi.length
  -- from an abstract heap in which nothing but the script may be tracked
  have core : ∀ H : Hp, Only H → SqL K H a (ns.map V.int) → HOk P w H s₁.heap → (∀ b, H b ≠ none → b = a) → (H a ≠ none → K.lookup a = none) →
      codeAny (model P w) callerA (.call (.ref fa) ⟨[.ref a], []⟩) (fun r s' => r = .ok (.ret (.bool true)) ∧ OldK s₁.heap s'.heap ∧ s'.os = s₁.os ∧ AllBare s'.gens) s₁ := by
    intro H hO hS hok hA hK
    have base_of : ∀ {b : Addr} {o : Obj}, s₁.heap.get? b = some o → H b = none → (hidT s₁.heap H).get? b = some o := fun e n => hidT_get e n
    have noA : ∀ {b : Addr} {o : Obj} {es : Array DictEntry} {ep : Nat}, s₁.heap.get? b = some o → o.data = .dict es ep → H b = none := fun {b o es ep} e d => by
      cases q : H b with
      | none => rfl
      | some u =>
        have e' : b = a := hA b (by rw [q]; simp)
        subst e'
        rw [ha] at e; cases e
        have d' : Data.seq vs.toArray _ = Data.dict es ep := d
        cases d'
    have nsK : ∀ {b : Addr} {m : Str → Option Value}, s₁.heap.Ns b m → (hidT s₁.heap H).Ns b m := fun {b m} ⟨o, es, ep, e, d, r⟩ => ⟨o, es, ep, base_of e (noA e d), d, r⟩
    have hKb : K.In (hidT s₁.heap H) := fun b o e => base_of (KX b o e) (by
      cases q : H b with
      | none => rfl
      | some u =>
        have e' : b = a := hA b (by rw [q]; simp)
        subst e'
        rw [hK (by rw [q]; simp)] at e; cases e)
    have hM : Mod K mg (hidT s₁.heap H) := ⟨hKb, nsK hns, ⟨mb, nsK hb, hbb⟩, let ⟨mc, h1, h2⟩ := hlim; ⟨mc, nsK h1, h2⟩⟩
    have e0 : Env0 P w K mg (hidT s₁.heap H) callerA [] s₁ H := ⟨rfl, hM, fun b o e => of_hidT e, Nat.le_of_eq (hidT_size _ _), trivial, fun b hb => absurd (show b ∈ ([] : List Addr) from hb) (by simp), hok, .of_eq hg⟩
    refine codeAny_mono ((F _ hKb (nsK hns)).run callerA [] s₁ H ⟨[.ref a], []⟩ [.ref a] [.ref a] _ _ hr e0 (hbind s₁ (.ref a)) (.cons rfl .nil) (hsp H hO hS)) fun r s' h => ?_
    cases r with
    | error e => exact (hCX H e s' h).elim
    | ok fl =>
      cases fl with
      | next => exact False.elim h
      | brk => exact False.elim h
      | cont => exact False.elim h
      | ret u =>
        obtain ⟨v, H', os, bare, un, hok', r', q⟩ := h
        have q' : v = .bl true := q
        subst q'
        obtain rfl : u = Value.bool true := r'
        refine ⟨rfl, OldK.of_keep fun b o e => ?_, os, bare⟩
        cases q : H b with
        | none => exact un.keep b o e q (by intro z; exact absurd (show b ∈ ([] : List Addr) from z) (by simp)) (by simp)
        | some u =>
          rcases hO b with z | ⟨ob, xs, z⟩
          · rw [q] at z; cases z
          · have z2 := un.frzs b ob _ z
            obtain ⟨e1, _⟩ := hok b _ z
            obtain ⟨e2, _⟩ := hok' b _ z2
            rw [e] at e1; cases e1
            exact e2
  cases hk : K.lookup a with
  | some o =>
    -- the script is one of the module's own objects
    have e := KX a o hk
    rw [ha] at e
    cases e
    refine core (fun _ => none) (fun _ => .inl rfl) (.inr ⟨_, vs.toArray, _, hk, rfl, rfl, rfl, by rw [List.size_toArray, lenV]; exact hl, by simpa using rv⟩) (fun b u z => by have z' : (none : Option HO) = some u := z; cases z') (fun b z => absurd rfl z) fun z => absurd rfl z
  | none =>
    refine core (fun b => if b = a then some (.frz { cls := .type "list", data := .seq vs.toArray } (.lst (ns.map V.int))) else none) (fun b => ?_) (.inl (.inr ⟨{ cls := .type "list", data := .seq vs.toArray }, if_pos rfl⟩)) (fun b u z => ?_) (fun b z => ?_) fun _ => hk
    · by_cases hb : b = a
      · exact .inr ⟨_, _, if_pos hb⟩
      · exact .inl (if_neg hb)
    · by_cases hb : b = a
      · have z' := (if_pos hb).symm.trans z
        cases z'
        subst hb
        exact ⟨ha, by rw [List.length_map]; exact hl, vs, _, rv, ha⟩
      · have z' := (if_neg hb).symm.trans z
        cases z'
    · by_cases hb : b = a
      · exact hb
      · exact absurd (if_neg hb) z
end L2

namespace L2
open PySem PySem.Spec PyProof.Rows

abbrev KOf {K : PySem.W.Frag} {h : Heap} (_ : K.In h) : PySem.W.Frag := K

/-- the goal that k_head leaves (case hc), from the law's promise. F gives the function object fd (K's own) once, then the promise over every base -/
theorem walk_of {l : PySem.W.OpenLaw} {n k : Nat} {q : Program} {loose : List Str} {XP : (Str → Option Value) → Heap → Prop} {YP : World → Heap → Prop} {d : DefRec} {K : Params → PySem.W.Frag} {CX : World → CXT} {sp : World → Sp} {x : Str}
    (hn : l.most = some n) (hn2 : n ≤ sizeLine) (hdf : d.params.defaults = []) (hr : Room k callerA)
    (hY : ∀ (w : World) (h : Heap), YP w h → (K w.params).In h)
    (F : ∀ (w : World) (mg : Str → Option Value) (fa : Addr) (h : Heap), (K w.params).In h → h.Ns mainGlobals mg → mg d.name = some (.ref fa) →
      ∃ fd : FuncData, (∀ (s : Shared) (u : Value), BindsTo s fd ⟨[u], []⟩ [(x, u)]) ∧
        ∀ base : Heap, (K w.params).In base → base.Ns mainGlobals mg → FnOk l.prog w (K w.params) mg base (CX w) k fa fd [x] (sp w))
    (hsp : ∀ (w : World) (H : Hp) (a : Addr) (ns : List Int), ns.length ≤ n → Only H → SqL (K w.params) H a (ns.map V.int) → sp w [.ref a] H (fun v _ => v = .bl true) fun _ _ _ => False)
    (hCX : ∀ (w : World) (H : Hp) (s : Shared) (e : Value) (s' : Shared), CX w [] H s (fun _ _ _ => False) e s' → False) :
    PySem.W.WalkO q loose XP YP l.row.toRowW d [] (fun f vs => PySem.call f vs) := by
  refine Att.attach_call hn hdf fun w s₀ s₁ mg mb fa o pm cd doc a vs ns G Y ho hd hcd hmg hobj hints hlen hg => ?_
  have KX := hY w _ Y
  obtain ⟨fd, hb, hF⟩ := F w mg fa _ KX G.T.g hmg
  exact law_call KX G.T.g G.T.b G.T.builtins G.T.nolimit hg hobj hints (Nat.le_trans hlen hn2) hr hF hb (fun H hO hS => hsp w H a ns hlen hO hS) fun H e s' => hCX w H s₁ e s'
end L2

/- THE LAST THEOREM (shape; LID, My.* are yours):
   My.Adr: a structure of the addresses that your layer names (classes, functions); My.Txt K t: a structure (Prop) of the equations over K;
   My.txt_mk : {K} {implicit addresses ..} (e1 : nsIn K mainGlobals "law" = some (some (.ref f))) (e2 : K.lookup f = some ⟨oc, od, .func (fnOf "law" "law" params body scope dV kV doc pm an cdv ct), sl⟩) (e3 : codeIn K cdv "law" = true) .. : ∃ t, My.Txt K t

set_option maxRecDepth 100000 in
set_option maxHeartbeats 0 in
theorem PySem.Challenge.cw_LID_holds : PySem.Challenge.rw_LID.Holds := by
  w_on; o_law; k_head; (case hw => w_witness2)
  k_fill
  refine L2.walk_of (l := PySem.Challenge.rw_LID) (n := 63) (k := 40) (x := "script") (CX := fun w => ..) (sp := fun _ => My.sp_law) rfl (by decide) rfl ⟨rfl, by decide, by decide⟩ (fun w h Y => PySem.W.kIn_of Y) ?F ?S ?C
  case F =>
    intro w mg fa h KX G hmg
    have T : ∃ t, My.Txt (L2.KOf KX) t := by
      dsimp only [L2.KOf]                          -- K must stand as «<heap const> w.params» for k_is
      refine' My.txt_mk ?e1 ?e2 ?e3 ..
      (case e1 => PySem.W.k_is)                    -- in the order: a name -> its address -> its object -> its parts
      (case e2 => PySem.W.k_is)
      ..
    obtain ⟨t, T⟩ := T
    have e0 := hmg.symm.trans (PySem.W.mg_of KX G T.law)
    cases e0                                       -- fa is the law's own address
    exact ⟨_, fun s u => .of_eq rfl, fun base kb nb => My.law_fn T kb nb⟩     -- if «.of_eq rfl» comes too early: refine' ⟨_, ?b, fun base kb nb => My.law_fn T kb nb⟩; exact fun s u => .of_eq rfl
  case S => exact fun w H a ns hl hO hS => ..
  case C => exact ..
(the tactic k_is has no namespace: write k_is) -/

/-! SHORT WORDS over the layer: a def of the text, its body, what a loop and a test want. -/
namespace L2
open PySem PySem.Spec PyProof.Rows

/-! ### the text by places -/
/-- the j-th statement of a class's body -/
def inClass (s : Stmt) (j : Nat) : Stmt := match s with
  | .ClassDef _ _ _ body _ _ _ _ _ _ _ => body.getD j (.Pass ⟨0, 0, 0, 0⟩)
  | _ => .Pass ⟨0, 0, 0, 0⟩
def defArgs (s : Stmt) : Arguments := match s with
  | .FunctionDef _ a _ _ _ _ _ _ _ _ => a
  | _ => { posonlyargs := [], args := [], vararg := none, kwonlyargs := [], kw_defaults := [], kwarg := none, defaults := [] }
def defBody (s : Stmt) : List Stmt := match s with
  | .FunctionDef _ _ b _ _ _ _ _ _ _ => b
  | _ => []
def defScope (s : Stmt) : Scope := match s with
  | .FunctionDef _ _ _ _ _ _ sc _ _ _ => sc
  | _ => { kind := .function, names := [], isGenerator := false, isCoroutine := false }

/-! ### no exception leaves a def -/
abbrev CX0 : CXT := fun _ _ _ _ _ _ => False
abbrev E0 : XK := fun _ _ _ => False
theorem pass0 {X : Cx} : Passes CX0 X E0 := fun _ _ _ _ _ _ _ h => h.elim

/-! ### a def (or method) of the text as it stands behind the top -/
structure Fun (K : PySem.W.Frag) (x qual : Str) (st : Stmt) (f : Addr) (fd : FuncData) : Prop where
  ex : ∃ (oc : Value) (od : Option Addr) (kV doc pm : Value) (an : Option Addr) (cdv ct : Value) (osl : Array (Option Value)),
    fd = PySem.W.fnOf x qual (defArgs st) (defBody st) (defScope st) .none kV doc pm an cdv ct ∧ K.lookup f = some ⟨oc, od, .func fd, osl⟩ ∧ PySem.W.codeIn K cdv qual = true
  kp : PySem.W.keepIn K (.ref f) = true
section
variable {P : Program} {w : World} {K : PySem.W.Frag} {mg : Str → Option Value} {base : Heap}
/-- THE RULE for a def: its body as a term of rules, and the reading of that term -/
theorem Fun.ok {x qual : Str} {st : Stmt} {f : Addr} {fd : FuncData} {N ps : List Str} {k : Nat} {sp : Sp} (F : Fun K x qual st f fd) (S : FnScope N ps (defScope st)) (len : ∀ vs H Q E, sp vs H Q E → vs.length = ps.length)
    (hbody : ∀ (cdv : Value) (A : Around) (outer : List Env) (s : Shared) (H : Hp) (vs : List V) (Q : VK) (E : XK), Room k (A.deeper (envOfC qual (defScope st) s.heap.objs.size f cdv)) → sp vs H Q E →
      ∃ t, PSs (cxOf CX0 P w K mg base N qual (defScope st) f cdv A outer s H E).nox (defBody st) t ∧ t { nx := fun _ H' => Q .non H', rt := Q } (start N vs) H) : FnOk P w K mg base CX0 (k + 1) f fd ps sp := by
  obtain ⟨oc, od, kV, doc, pm, an, cdv, ct, osl, rfl, lk, hcd⟩ := F.ex
  refine fn_of lk hcd S len fun A outer s H vs Q E hr hsp => ?_
  obtain ⟨t, h, q⟩ := hbody cdv A outer s H vs Q E hr hsp
  exact ⟨t, h.nox, q⟩
/-- how its arguments bind (no defaults): h is «fun _ _ _ _ _ _ us hl => match us, hl with | [_, _], _ => rfl», one _ a parameter -/
theorem Fun.binds {x qual : Str} {st : Stmt} {f : Addr} {fd : FuncData} {ps : List Str} (F : Fun K x qual st f fd)
    (h : ∀ (kV doc pm : Value) (an : Option Addr) (cdv ct : Value) (us : List Value), us.length = ps.length → bindArgs (PySem.W.fnOf x qual (defArgs st) (defBody st) (defScope st) .none kV doc pm an cdv ct) ⟨us, []⟩ = pure (ps.zip us)) : Binds K fd ps [] := by
  obtain ⟨oc, od, kV, doc, pm, an, cdv, ct, osl, rfl, lk, hcd⟩ := F.ex
  exact .all (h kV doc pm an cdv ct)
theorem fun_mk {x qual : Str} {st : Stmt} {f : Addr} {oc : Value} {od an : Option Addr} {osl : Array (Option Value)} {kV doc pm cdv ct : Value} (l : K.lookup f = some ⟨oc, od, .func (PySem.W.fnOf x qual (defArgs st) (defBody st) (defScope st) .none kV doc pm an cdv ct), osl⟩)
    (c : PySem.W.codeIn K cdv qual = true) (k : PySem.W.keepIn K (.ref f) = true) : Fun K x qual st f (PySem.W.fnOf x qual (defArgs st) (defBody st) (defScope st) .none kV doc pm an cdv ct) := ⟨⟨oc, od, kV, doc, pm, an, cdv, ct, osl, rfl, l, c⟩, k⟩
end
theorem small1000 {n : Nat} (h : n ≤ 1000) : n < sizeLine := Nat.lt_of_le_of_lt h (by decide)

/-! ### expressions in short: the name that stands in the i-th slot -/
section
variable {X : Cx}
theorem pv (i : Nat) {x : Str} {pos : Pos} (hN : X.N[i]? = some x := by rfl) (hv : Vis X.env.scope x := by first | exact Or.inl rfl | exact Or.inr (Or.inl rfl) | exact Or.inr (Or.inr rfl)) (hd : (x == ("__debug__" : Str)) = false := by decide)
    (hcd : (x == ("__classdict__" : Str)) = false := by decide) : PE X (.Name x pos) (tVar i) := pe_var hN hv hd hcd
end

/-! ### tests -/
theorem iteF {A B : Prop} (h : B) : if false = true then A else B := by
  rw [if_neg Bool.false_ne_true]
  exact h
theorem iteT {A B : Prop} (h : A) : if true = true then A else B := by
  rw [if_pos rfl]
  exact h
theorem ite2 {c A B : Prop} [Decidable c] (h1 : c → A) (h2 : ¬ c → B) : if c then A else B := by
  by_cases h : c
  · rw [if_pos h]
    exact h1 h
  · rw [if_neg h]
    exact h2 h
theorem iteNS {c A B : Prop} [Decidable c] (hc : c) (h : B) : if (!decide c) = true then A else B := by
  rw [decide_eq_true hc]
  exact iteF h

/-! ### heaps -/
/-- all that was tracked is as it was -/
def Same (H H' : Hp) : Prop := ∀ b o, H b = some o → H' b = some o
theorem Same.trans {H H1 H2 : Hp} (a : Same H H1) (b : Same H1 H2) : Same H H2 := fun c o h => b c o (a c o h)
theorem Same.free {H H' : Hp} (e : Same H H') {l : Addr} (h : H' l = Option.none) : H l = Option.none := by
  cases q : H l with
  | none => rfl
  | some o =>
    rw [e l o q] at h
    cases h
theorem Same.seq {K : PySem.W.Frag} {H H' : Hp} {a : Addr} {xs : List V} (e : Same H H') (h : SqL K H a xs) : SqL K H' a xs := by
  rcases h with (h | ⟨o, h⟩) | h
  · exact .inl (.inl (e _ _ h))
  · exact .inl (.inr ⟨o, e _ _ h⟩)
  · exact .inr h

end L2

set_option Elab.async false
set_option linter.all false
set_option maxRecDepth 100000
set_option maxHeartbeats 4000000
/-! COMPREHENSIONS over the hand layer: the block as a context of its own -/
namespace L2
open PySem PySem.Spec PyProof.Rows

section
variable {prog : Program} {w : World} {A : Around} {R : Result → Shared → Prop} {s : Shared}
theorem compLoop_any {elt target iter : Expr} {ifs : List Expr} {scope : Scope} {pos : Pos} {it acc : Value} {env : Env} (I : Nat → Shared → Prop)
    (turn : ∀ n s, I n s → wpAny (model prog w) A (pyNext it) (fun r s₁ => match r with
      | none => R (.ok .next) s₁
      | some v => wpAny (model prog w) A (letOwnedTupleGo target it v) (fun _ s₁' => wpAny (model prog w) A (assign target env v) (fun _ s₂ =>
          wpAny (model prog w) A (forIn ifs true fun c r => if r = true then do let ok ← isTrue c env (eval c env); pure (ForInStep.yield ok) else pure (ForInStep.yield r)) (fun ok s₃ =>
            if ok = true then wpAny (model prog w) A (eval elt env) (fun x s₄ =>
              wpAny (model prog w) A (call (.builtin "list.append") [acc, x]) (fun _ s₅ => ∃ m, m < n ∧ I m s₅) (notedBy (model prog w) A env fun e s' => R (.error e) s') s₄) (notedBy (model prog w) A env fun e s' => R (.error e) s') s₃
            else ∃ m, m < n ∧ I m s₃) (notedBy (model prog w) A env fun e s' => R (.error e) s') s₂) (notedBy (model prog w) A env fun e s' => R (.error e) s') s₁')
          (notedBy (model prog w) A env fun e s' => R (.error e) s') s₁) (notedBy (model prog w) A env fun e s' => R (.error e) s') s)
    (n : Nat) (h : I n s) : codeAny (model prog w) A (.compLoop (.ListComp elt [⟨target, iter, ifs, 0⟩] scope pos) 0 it acc env) R s := by
  refine codeAny_loop rfl I (fun n s hI => ?_) n h
  show wpAny _ A ((compTurn (.ListComp elt [⟨target, iter, ifs, 0⟩] scope pos) 0 it acc env).onRaise (fun x => do noteFrame x env; theTreesLotGoes x)) _ _ s
  refine wpAny_noted ?_
  rw [compTurn_list]
  refine wpAny_bind (wpAny_standAt (wpAny_bind (wpAny_mono (turn n s hI) (fun r s₁ h₁ => ?_) fun _ _ h' => h')))
  cases r with
  | none => exact wpAny_pure h₁
  | some v =>
    refine wpAny_bind (wpAny_mono h₁ (fun _ s₁' h₁' => ?_) fun _ _ h' => h')
    refine wpAny_bind (wpAny_mono h₁' (fun _ s₂ h₂ => wpAny_bind (wpAny_mono h₂ (fun ok s₃ h₃ => ?_) fun _ _ h' => h')) fun _ _ h' => h')
    cases ok with
    | false => exact wpAny_pure ⟨rfl, h₃⟩
    | true =>
      exact wpAny_bind (wpAny_bind (wpAny_mono h₃ (fun x s₄ h₄ => wpAny_bind (wpAny_mono h₄ (fun _ s₅ h₅ => wpAny_pure (wpAny_pure ⟨rfl, h₅⟩)) fun _ _ h' => h')) fun _ _ h' => h'))
end

/-! ### the cells that a block closes over -/
def closF (cells : List (Str × Addr)) : List (Str × NameKind) → List (Str × Addr) → List (Str × Addr)
  | [], acc => acc
  | (n, k) :: r, acc => closF cells r (if k == .free then (n, (cells.lookup n).getD 0) :: acc else acc)
theorem closureFor_eq {scope : Scope} {env : Env} (h : ∀ x ∈ scope.names, x.2 = .free → ∃ c, env.cells.lookup x.1 = some c) : closureFor scope env = pure (closF env.cells scope.names []) := by
  unfold closureFor
  have key : ∀ (l : List (Str × NameKind)) (acc : List (Str × Addr)), (∀ x ∈ l, x.2 = .free → ∃ c, env.cells.lookup x.1 = some c) →
      (forIn l acc (fun (x : Str × NameKind) (r : List (Str × Addr)) => (match x with
        | (name, kind) => if (kind == NameKind.free) = true then (do let c ← cellOf env name; pure (ForInStep.yield ((name, c) :: r))) else pure (ForInStep.yield r) : Sem (ForInStep (List (Str × Addr))))) : Sem (List (Str × Addr))) = pure (closF env.cells l acc) := by
    intro l
    induction l with
    | nil => intro acc _; rfl
    | cons x r ih =>
      intro acc hl
      obtain ⟨n, k⟩ := x
      rw [List.forIn_cons]
      by_cases hk : k = .free
      · subst hk
        obtain ⟨c, hc⟩ := hl (n, .free) List.mem_cons_self rfl
        have hc' : env.cells.lookup n = some c := hc
        have e1 : cellOf env n = pure c := by unfold cellOf; rw [hc']
        simp only [beq_self_eq_true, if_true, e1, pure_bind]
        rw [ih _ fun y hy => hl y (List.mem_cons_of_mem _ hy)]
        simp only [closF, beq_self_eq_true, if_true, hc', Option.getD_some]
      · have hb : (k == NameKind.free) = false := by simpa using hk
        simp only [hb, Bool.false_eq_true, if_false, pure_bind]
        rw [ih _ fun y hy => hl y (List.mem_cons_of_mem _ hy)]
        simp only [closF, hb, Bool.false_eq_true, if_false]
  have := key scope.names [] h
  simp only at this ⊢
  rw [this]
  rfl
theorem closF_mem {cells : List (Str × Addr)} {x : Str} {c : Addr} : ∀ {l : List (Str × NameKind)} {acc : List (Str × Addr)}, (∀ y ∈ l, y.2 = .free → ∃ c, cells.lookup y.1 = some c) → (x, c) ∈ closF cells l acc → (x, c) ∈ acc ∨ cells.lookup x = some c
  | [], _, _, h => .inl h
  | (n, k) :: r, acc, hl, h => by
    have hr : ∀ y ∈ r, y.2 = .free → ∃ c, cells.lookup y.1 = some c := fun y hy => hl y (List.mem_cons_of_mem _ hy)
    rcases closF_mem hr h with z | z
    · by_cases hk : k = .free
      · subst hk
        obtain ⟨c', hc⟩ := hl (n, .free) List.mem_cons_self rfl
        have hc' : cells.lookup n = some c' := hc
        simp only [beq_self_eq_true, if_true, hc', Option.getD_some] at z
        rcases List.mem_cons.mp z with e | e
        · injection e with e1 e2
          subst e1 e2
          exact .inr hc'
        · exact .inl e
      · have hb : (k == NameKind.free) = false := by simpa using hk
        simp only [hb, Bool.false_eq_true, if_false] at z
        exact .inl z
    · exact .inr z
theorem closF_sub {cells : List (Str × Addr)} {x : Str × Addr} : ∀ {l : List (Str × NameKind)} {acc : List (Str × Addr)}, x ∈ acc → x ∈ closF cells l acc
  | [], _, h => h
  | (n, k) :: r, acc, h => by
    unfold closF
    refine closF_sub ?_
    split
    · exact List.mem_cons_of_mem _ h
    · exact h
theorem closF_has {cells : List (Str × Addr)} {x : Str} {c : Addr} (hc : cells.lookup x = some c) : ∀ {l : List (Str × NameKind)} {acc : List (Str × Addr)}, (x, NameKind.free) ∈ l → (x, c) ∈ closF cells l acc
  | (n, k) :: r, acc, h => by
    unfold closF
    rcases List.mem_cons.mp h with e | e
    · injection e with e1 e2
      subst e1 e2
      refine closF_sub ?_
      simp only [beq_self_eq_true, if_true, hc, Option.getD_some]
      exact List.mem_cons_self
    · exact closF_has hc e
theorem lookup_of_mem {x : Str} {c : Addr} : ∀ {l : List (Str × Addr)}, (x, c) ∈ l → (∀ d, (x, d) ∈ l → d = c) → l.lookup x = some c
  | [], h, _ => by cases h
  | (n, d) :: r, h, u => by
    rw [List.lookup_cons]
    cases e : x == n with
    | true =>
      have e' : x = n := by simpa using e
      subst e'
      rw [u d List.mem_cons_self]
    | false =>
      rcases List.mem_cons.mp h with q | q
      · injection q with q1 q2
        subst q1
        simp at e
      · exact lookup_of_mem q fun d' hd => u d' (List.mem_cons_of_mem _ hd)

/-! ### a block's context -/
def Cx.block (X : Cx) (N : List Str) (scope : Scope) (C : Addr) (s : Shared) (H : Hp) (ex : List Addr) : Cx :=
  { X with N := N, s₀ := s, H₀ := H, env := compEnvC scope (closF X.env.cells scope.names []) C X.env, outer := X.stack, ex := ex, fn := fun _ => false, pn := [], xe := fun _ _ => False }
/-- NO, scO: the names and the scope around; N, sc: the block's; cap: where a name of the block is taken from -/
structure BlockOk (NO : List Str) (scO : Scope) (N : List Str) (sc : Scope) (cap : List (Option Nat)) : Prop where
  kind : sc.kind = .function
  nocell : ∀ y ∈ sc.names, y.2 ≠ .cell
  loc : ∀ y ∈ sc.names, y.2 = .local → sc.names.lookup y.1 = some .local
  free : ∀ y ∈ sc.names, y.2 = .free → scO.names.lookup y.1 = some .cell ∨ scO.names.lookup y.1 = some .free
  len : cap.length = N.length
  cap : (cap.zip N).all (fun p => match p.1 with | Option.none => true | some i => decide (NO[i]? = some p.2) && decide (sc.names.lookup p.2 = some .free)) = true
def blockOk (NO : List Str) (scO : Scope) (N : List Str) (sc : Scope) (cap : List (Option Nat)) : Bool :=
  decide (sc.kind = .function) && sc.names.all (fun y => decide (y.2 ≠ .cell)) && sc.names.all (fun y => !decide (y.2 = .local) || decide (sc.names.lookup y.1 = some .local)) &&
  sc.names.all (fun y => !decide (y.2 = .free) || (decide (scO.names.lookup y.1 = some .cell) || decide (scO.names.lookup y.1 = some .free))) && decide (cap.length = N.length) &&
  (cap.zip N).all (fun p => match p.1 with | Option.none => true | some i => decide (NO[i]? = some p.2) && decide (sc.names.lookup p.2 = some .free))
theorem BlockOk.of {NO : List Str} {scO : Scope} {N : List Str} {sc : Scope} {cap : List (Option Nat)} (h : blockOk NO scO N sc cap = true) : BlockOk NO scO N sc cap := by
  unfold blockOk at h
  simp only [Bool.and_eq_true] at h
  obtain ⟨⟨⟨⟨⟨h1, h2⟩, h3⟩, h4⟩, h5⟩, h6⟩ := h
  refine ⟨of_decide_eq_true h1, fun y hy => of_decide_eq_true (List.all_eq_true.mp h2 y hy), fun y hy hk => ?_, fun y hy hk => ?_, of_decide_eq_true h5, h6⟩
  · have := List.all_eq_true.mp h3 y hy
    rw [decide_eq_true hk] at this
    exact of_decide_eq_true (by simpa using this)
  · have := List.all_eq_true.mp h4 y hy
    rw [decide_eq_true hk] at this
    simpa using this
def capSt (cap : List (Option Nat)) (σ : St) : St := cap.map fun o => o.bind fun i => (σ[i]?).bind id

theorem mem_relabel {sc : Scope} {env : Env} {x : Str} {r : NameKind} (h : (relabel sc env).names.lookup x = some r) : ∃ k, (x, k) ∈ sc.names ∧ (r = k ∨ (k = .free ∧ r = .cell)) := by
  have m := PySem.mem_of_lookup h
  obtain ⟨⟨n, k⟩, hm, e⟩ := List.mem_map.mp m
  dsimp only at e
  split at e
  · rename_i hc
    injection e with e1 e2
    subst e1
    refine ⟨k, hm, .inr ⟨?_, e2.symm⟩⟩
    simp only [Bool.and_eq_true, beq_iff_eq] at hc
    exact hc.1.1
  · injection e with e1 e2
    subst e1 e2
    exact ⟨k, hm, .inl rfl⟩

section
variable {X : Cx} {pins : List (Addr × Obj)} {σ : St} {H : Hp} {s : Shared} {N : List Str} {sc : Scope} {cap : List (Option Nat)}

theorem BlockOk.cells (B : BlockOk X.N X.env.scope N sc cap) (ok : X.Ok) : ∀ x ∈ sc.names, x.2 = .free → ∃ c, X.env.cells.lookup x.1 = some c := fun x hx hk => ok.has x.1 (B.free x hx hk)
theorem BlockOk.back (B : BlockOk X.N X.env.scope N sc cap) (ok : X.Ok) {x : Str} {c : Addr} (h : (closF X.env.cells sc.names []).lookup x = some c) : X.env.cells.lookup x = some c :=
  (closF_mem (B.cells ok) (PySem.mem_of_lookup h)).elim (fun z => by cases z) id
theorem BlockOk.on (B : BlockOk X.N X.env.scope N sc cap) (ok : X.Ok) {x : Str} {c : Addr} (hx : (x, NameKind.free) ∈ sc.names) (h : X.env.cells.lookup x = some c) : (closF X.env.cells sc.names []).lookup x = some c :=
  lookup_of_mem (closF_has h hx) fun d hd => by
    have := (closF_mem (B.cells ok) hd).elim (fun z => by cases z) id
    rw [h] at this
    exact (Option.some.inj this).symm

theorem block_start {fp : List Addr} {h₁ : Heap} {t' : Nat} {D C : Addr} (I : Inv X pins σ H s) (B : BlockOk X.N X.env.scope N sc cap) (hf : ∀ b ∈ fp, FpOk X pins H b ∧ b < s.heap.objs.size)
    (hD : D = s.heap.objs.size) (hC : C = s.heap.objs.size + 1) (k : ∀ b o, s.heap.get? b = some o → h₁.get? b = some o)
    (hl : h₁.get? D = some { cls := .type "list", data := .seq ([] : List Value).toArray }) (hn : ∃ m, h₁.Ns C m) :
    Inv (X.block N sc C s H fp) [] (capSt cap σ) (upd H D (.lst [])) { s with heap := h₁, toks := t' } := by
  subst hD
  have hfr : H s.heap.objs.size = none := I.hok.fresh (Nat.le_refl _)
  have hfC : H C = none := I.hok.fresh (by rw [hC]; exact Nat.le_succ _)
  have neD : ∀ b o, s.heap.get? b = some o → b ≠ s.heap.objs.size := fun b o e => Nat.ne_of_lt (Heap.lt_size e)
  have cellA : ∀ x c, (closF X.env.cells sc.names []).lookup x = some c → X.env.cells.lookup x = some c := fun x c e => B.back I.ok e
  refine ⟨⟨I.ok.mod, B.kind, I.ok.glob, I.ok.blt, ?_, ?_, ?_, ?_, I.ok.hd, I.ok.frames, .inl rfl, ?_, I.bs, Nat.le_trans I.ok.bsz I.sz, ?_, ?_, I.stack, I.stkFree⟩, rfl, I.bare, Un.laid k (Nat.le_refl _) hfr, ?_, ?_, ?_, ?_, ?_, ?_, ?_⟩
  · show s.heap.objs.size ≤ C
    rw [hC]; exact Nat.le_succ _
  · intro x y c h1 h2
    exact I.ok.inj x y c (cellA x c h1) (cellA y c h2)
  · intro x hx
    have hx' : (relabel sc X.env).names.lookup x = some .cell ∨ (relabel sc X.env).names.lookup x = some .free := hx
    have hm : (x, NameKind.free) ∈ sc.names := by
      rcases hx' with q | q
      · obtain ⟨k, hk, e | ⟨e, _⟩⟩ := mem_relabel q
        · subst e; exact absurd rfl (B.nocell _ hk)
        · subst e; exact hk
      · obtain ⟨k, hk, e | ⟨e, _⟩⟩ := mem_relabel q
        · subst e; exact hk
        · subst e; exact hk
    obtain ⟨c, hc⟩ := B.cells I.ok _ hm rfl
    exact ⟨c, B.on I.ok hm hc⟩
  · intro x c h
    exact absurd (show false = true from h) (by decide)
  · intro b hb
    have f := hf b hb
    refine ⟨?_, fun x c e => f.1.2.2.2.2.1 x c (cellA x c e)⟩
    show b ≠ C
    rw [hC]; exact Nat.ne_of_lt (Nat.lt_succ_of_lt f.2)
  · intro b o e hb
    have f := (hf b hb).1
    rcases f.2.2.2.1 with z | z
    · exact I.ok.noex b o e z
    · exact absurd (Nat.lt_of_lt_of_le (Heap.lt_size e) (Nat.le_trans I.ok.bsz z)) (Nat.lt_irrefl _)
  · intro b hb z
    have f := (hf b hb).1
    rcases List.mem_cons.mp (I.stkSub b z) with e | e
    · exact f.2.1 e
    · exact f.2.2.1 e
  · obtain ⟨m, hm⟩ := hn
    refine ⟨m, hm, fun j x v e1 e2 e3 => ?_⟩
    have e1 : N[j]? = some x := e1
    have e3 : Vis (relabel sc X.env) x := e3
    unfold capSt at e2
    rw [List.getElem?_map] at e2
    cases hc : cap[j]? with
    | none => rw [hc] at e2; cases e2
    | some o =>
      rw [hc] at e2
      cases o with
      | none => cases e2
      | some i =>
        have e2 : (σ[i]?).bind id = some v := Option.some.inj e2
        have hv : σ[i]? = some (some v) := by
          cases q : σ[i]? with
          | none => rw [q] at e2; cases e2
          | some w' => rw [q] at e2; exact congrArg some e2
        have hz : (some i, x) ∈ cap.zip N := by
          refine List.mem_of_getElem? (i := j) ?_
          rw [List.getElem?_zip_eq_some]
          exact ⟨hc, e1⟩
        have hcap := List.all_eq_true.mp B.cap _ hz
        simp only [Bool.and_eq_true, decide_eq_true_eq] at hcap
        obtain ⟨hN, hlk⟩ := hcap
        have hmem := PySem.mem_of_lookup hlk
        have hkO := B.free _ hmem rfl
        obtain ⟨m0, hn0, hl0⟩ := I.loc
        obtain ⟨u, ru, lk⟩ := hl0 i x v hN hv (.inr hkO)
        refine ⟨u, ru, .inr ⟨?_, ?_⟩⟩
        · show (relabel sc X.env).names.lookup x = some .cell ∨ (relabel sc X.env).names.lookup x = some .free
          rcases e3 with q | q
          · obtain ⟨k', hk', e | ⟨_, e⟩⟩ := mem_relabel q
            · subst e
              have := B.loc _ hk' rfl
              rw [hlk] at this
              cases this
            · cases e
          · exact q
        · rcases lk with ⟨q, _⟩ | ⟨_, c, hcc, ⟨oc, hoc, hod⟩⟩
          · have q' : X.env.scope.names.lookup x = some .local := q
            rcases hkO with z | z <;> (rw [q'] at z; cases z)
          · exact ⟨c, B.on I.ok hmem hcc, oc, k _ _ hoc, hod⟩
  · intro x c e
    obtain ⟨v, o, ho, hd⟩ := I.cell x c (cellA x c e)
    exact ⟨v, o, k _ _ ho, hd⟩
  · show upd H s.heap.objs.size (.lst []) C = none
    rw [upd_ne (by rw [hC]; exact Nat.succ_ne_self _)]
    exact hfC
  · intro x c e
    obtain ⟨v, o, ho, hd⟩ := I.cell x c (cellA x c e)
    rw [upd_ne (neD c o ho)]
    exact I.freeC x c (cellA x c e)
  · intro p hp
    exact absurd (show p ∈ ([] : List (Addr × Obj)) ++ [] from hp) (by simp)
  · exact I.hok.laid k (Nat.le_refl _) ⟨Nat.zero_le _, [], 0, .nil, hl⟩
  · show (capSt cap σ).length = N.length
    unfold capSt
    rw [List.length_map]
    exact B.len
end
end L2

set_option Elab.async false
set_option linter.all false
set_option maxRecDepth 100000
set_option maxHeartbeats 4000000
namespace L2
open PySem PySem.Spec PyProof.Rows

/-- the tests of a clause -/
def PTs (X : Cx) (ifs : List Expr) (t : TT) : Prop :=
  ∀ (pins : List (Addr × Obj)) (s : Shared) (σ : St) (H : Hp) (Q : Bool → Hp → Prop), Inv X pins σ H s → t σ H Q →
    wpAny (model X.prog X.w) X.A (forIn ifs true fun c r => if r = true then do let ok ← isTrue c X.env (eval c X.env); pure (ForInStep.yield ok) else pure (ForInStep.yield r)) (TP X pins σ Q) X.xe s
def tYes : TT := fun _ H Q => Q true H
theorem pts_nil {X : Cx} : PTs X [] tYes := fun _ _ _ H _ I h => wpAny_tests_nil ⟨H, I, h⟩
/-- the reading of a comprehension: W the invariant over the turn, a measure, what was gathered, the block's names, the heap -/
def CompW (J : It) (g : TG) (tc : TT) (te : TE) (τ0 : St) (H1 : Hp) (Q : VK) (D : Addr) : Prop :=
  ∃ W : Nat → Nat → List V → St → Hp → Prop, (∃ m, W 0 m [] τ0 (upd H1 D (.lst []))) ∧ ∀ i m ys τ H2, W i m ys τ H2 →
    H2 D = some (.lst ys) ∧ ((J.stop i H2 ∧ Q (.ref D) H2) ∨ (J.go i H2 ∧ ys.length < sizeLine ∧ ∃ M : List V → St → Hp → Prop, (∀ zs τ' H', M zs τ' H' → ∃ m', m' < m ∧ W (i + 1) m' zs τ' H') ∧
      ∀ x H3, J.yld i H2 x H3 → g x τ H3 fun τ' H4 => tc τ' H4 fun c H5 => if c = true then te τ' H5 fun y H6 => H6 D = some (.lst ys) ∧ M (ys ++ [y]) τ' (upd H6 D (.lst (ys ++ [y]))) else M ys τ' H5))
def tComp (wi : TI) (g : TG) (tc : TT) (te : TE) (st : St → St) : TE := fun σ H Q => wi σ H fun J H1 => ∀ D, H1 D = none → CompW J g tc te (st σ) H1 Q D

section
variable {X : Cx} {pins : List (Addr × Obj)} {σ : St} {s : Shared} {N : List Str} {sc : Scope} {cap : List (Option Nat)} {elt tg iter : Expr} {ifs : List Expr} {pos : Pos} {wi : TI} {g : TG} {tc : TT} {te : TE}

/-- what a comprehension leaves -/
structure CompEnd (X : Cx) (pins : List (Addr × Obj)) (σ : St) (Q : VK) (D C : Addr) (s' : Shared) : Prop where
  ex : ∃ H', Inv X pins σ H' s' ∧ FpOk X pins H' C ∧ (∃ m, s'.heap.Ns C m) ∧ Q (.ref D) H'

theorem comp_block {J : It} {H : Hp} {it : Addr} {fp : List Addr} {tn : Nat → Heap → Prop} {Q : VK} {RR : Value → Addr → Result → Shared → Prop} (hc : X.calm = true) (B : BlockOk X.N X.env.scope N sc cap)
    (hg : ∀ C s H ex, PG (X.block N sc C s H ex) tg g) (ht : ∀ C s H ex, PTs (X.block N sc C s H ex) ifs tc) (he : ∀ C s H ex, PE (X.block N sc C s H ex) elt te)
    (I : Inv X pins σ H s) (T : Turn X.prog X.w X.K tg J fp it tn) (h0 : tn 0 s.heap) (hf : ∀ b ∈ fp, FpOk X pins H b)
    (h : ∀ D, H D = none → CompW J g tc te (capSt cap σ) H Q D)
    (hRR : ∀ D C s', CompEnd X pins σ Q D C s' → RR (.ref D) C (.ok .next) s') :
    wpAny (model X.prog X.w) X.A (newList []) (fun acc s₃ => wpAny (model X.prog X.w) X.A (newFunctionEnv sc X.env.globals (closF X.env.cells sc.names []) [] X.env.qual none .none (some X.env)) (fun cenv s₄ =>
      codeAny (model X.prog X.w) X.A (.compStart (.ListComp elt [⟨tg, iter, ifs, 0⟩] sc pos) 0 (.ref it) acc { cenv with scope := relabel sc X.env }) (RR acc cenv.locals) s₄) X.xe s₃) X.xe s := by
  refine wpAny_newObj_type (wpAny_newFunctionEnv B.nocell (by intro y hy; simp at hy) (fun h₁ hns₁ hsb₁ => ?_) B.kind)
  dsimp only at hns₁ hsb₁ ⊢
  generalize hH2 : s.heap.push { cls := .type "list", dict := none, data := .seq ([] : List Value).toArray } = H2 at hns₁ hsb₁ ⊢
  have hC : H2.objs.size = s.heap.objs.size + 1 := by rw [← hH2, Heap.size_push]
  have hDC : s.heap.objs.size ≠ H2.objs.size := by rw [hC]; exact Nat.ne_of_lt (Nat.lt_succ_self _)
  have lo : ∀ b o, s.heap.get? b = some o → h₁.get? b = some o := fun b o e =>
    hsb₁.extBut b o (by rw [hC]; exact Nat.ne_of_lt (Nat.lt_succ_of_lt (Heap.lt_size e))) (Heap.get?_push_of_some _ (hH2 ▸ Heap.get?_push_of_some _ e))
  have hacc : h₁.get? s.heap.objs.size = some { cls := .type "list", data := .seq ([] : List Value).toArray } := hsb₁.extBut _ _ hDC (Heap.get?_push_of_some _ (hH2 ▸ Heap.get?_push_size _ rfl))
  have hfs : ∀ b ∈ fp, FpOk X pins H b ∧ b < s.heap.objs.size := fun b hb => by
    obtain ⟨o, e, _⟩ := T.obj 0 _ h0 b hb
    exact ⟨hf b hb, Heap.lt_size e⟩
  obtain ⟨W, ⟨m0, w0⟩, turn⟩ := h s.heap.objs.size (I.hok.fresh (Nat.le_refl _))
  generalize hCg : H2.objs.size = C at hns₁ hsb₁ hC hDC ⊢
  have I0 := block_start (t' := s.toks + ([] : List (Str × Value)).length) I B hfs rfl hC lo hacc ⟨_, hns₁⟩
  have h01 : tn 0 h₁ := T.keep 0 _ _ h0 fun b _ o e => lo b o e
  have cne : ∀ x c, (closF X.env.cells sc.names []).lookup x = some c → X.env.cells.lookup x = some c := fun x c e => B.back I.ok e
  -- the iterator's objects within the block
  have stat : ∀ {H' : Hp}, (∀ b ∈ fp, H' b = none) → ∀ b ∈ fp, FpOk (X.block N sc C s H fp) [] H' b := fun {H'} hn b hb => by
    obtain ⟨f, lt⟩ := hfs b hb
    refine ⟨hn b hb, ?_, fun z => ?_, .inl hb, fun x c e => f.2.2.2.2.1 x c (cne x c e), fun p hp => absurd (show p ∈ ([] : List (Addr × Obj)) ++ [] from hp) (by simp)⟩
    · show b ≠ C
      rw [hC]; exact Nat.ne_of_lt (Nat.lt_succ_of_lt lt)
    · rcases List.mem_cons.mp (I.stkSub b z) with e | e
      · exact f.2.1 e
      · exact f.2.2.1 e
  have fin : ∀ {τ : St} {H' : Hp} {s' : Shared}, Inv (X.block N sc C s H fp) [] τ H' s' → Q (.ref s.heap.objs.size) H' → CompEnd X pins σ Q s.heap.objs.size C s' := fun {τ H' s'} J' q => by
    have hch : ∀ b ∈ fp, (b ∈ X.ex ∨ X.s₀.heap.objs.size ≤ b) ∧ b ≠ X.env.locals ∧ (∀ x c, X.env.cells.lookup x = some c → c ≠ b) ∧ ∀ p ∈ X.pn ++ pins, p.1 ≠ b := fun b hb =>
      let f := hf b hb; ⟨f.2.2.2.1, f.2.1, f.2.2.2.2.1, f.2.2.2.2.2⟩
    refine ⟨H', I.call' (ch := fp) J'.os J'.base J'.hok J'.bare hch, I.fpOk (by rw [hC]; exact Nat.le_succ _) J'.free, ?_, q⟩
    obtain ⟨m, hn, _⟩ := J'.loc
    exact ⟨m, hn⟩
  have loop : ∀ s₃ : Shared, s₃ = { s with heap := h₁, toks := s.toks + ([] : List (Str × Value)).length } →
      codeAny (model X.prog X.w) X.A (.compLoop (.ListComp elt [⟨tg, iter, ifs, 0⟩] sc pos) 0 (.ref it) (.ref s.heap.objs.size) (X.block N sc C s H fp).env) (RR (.ref s.heap.objs.size) C) s₃ := by
    rintro s₃ rfl
    refine compLoop_any (fun n s' => ∃ i ys τ H', Inv (X.block N sc C s H fp) [] τ H' s' ∧ tn i s'.heap ∧ (∀ b ∈ fp, H' b = none) ∧ W i n ys τ H') ?_ m0 ⟨0, [], _, _, I0, h01, fun b hb => ?_, w0⟩
    · rintro n s3 ⟨i, ys, τ, H3, I3, st3, fr3, w3⟩
      obtain ⟨hD3, stop | ⟨go, hlt, M, hM, step⟩⟩ := turn i n ys τ H3 w3
      · refine thn (T.done (X.block N sc C s H fp) rfl rfl rfl hc i [] s3 τ H3 _ I3 (stat fr3) st3 stop.1) fun r s4 ⟨hr, I4⟩ => ?_
        subst hr
        exact hRR _ _ _ (fin I4 stop.2)
      · refine thn (T.item (X.block N sc C s H fp) rfl rfl rfl hc i [] s3 τ H3 _ I3 (stat fr3) st3 go) fun r s4 ⟨u, hr, h4⟩ => ?_
        subst hr
        refine thn h4 fun _ s5 ⟨x, H5, I5, r5, y5, st5, fr5⟩ => ?_
        have I5' := I5.pinned (stat fr5) (T.obj _ _ st5)
        refine wpAny_mono (hg C s H fp _ s5 τ H5 x u _ I5' r5 (step x H5 y5)) (fun _ s6 ⟨τ6, H6, I6, q6⟩ => ?_) (fun _ _ z => False.elim z)
        refine wpAny_mono (ht C s H fp _ s6 τ6 H6 _ I6 q6) (fun ok s7 ⟨H7, I7, q7⟩ => ?_) (fun _ _ z => False.elim z)
        have again : ∀ {τ8 : St} {H8 : Hp} {s8 : Shared} {zs : List V}, Inv (X.block N sc C s H fp) ([] ++ pinsAt fp s5.heap) τ8 H8 s8 → M zs τ8 H8 →
            ∃ m, m < n ∧ ∃ i ys τ H', Inv (X.block N sc C s H fp) [] τ H' s8 ∧ tn i s8.heap ∧ (∀ b ∈ fp, H' b = none) ∧ W i m ys τ H' := fun {τ8 H8 s8 zs} I8 w8' => by
          obtain ⟨m', hm, w8⟩ := hM zs τ8 H8 w8'
          refine ⟨m', hm, i + 1, zs, τ8, H8, I8.unpinned, T.keep _ _ _ st5 fun b hb o e => (I8.pin (b, o) (List.mem_append_right _ (List.mem_append_right _ (mem_pinsAt hb e)))).1, fun b hb => ?_, w8⟩
          obtain ⟨o, e, d⟩ := T.obj _ _ st5 b hb
          exact (I8.pin (b, o) (List.mem_append_right _ (List.mem_append_right _ (mem_pinsAt hb e)))).2.1
        cases ok with
        | false => exact again I7 q7
        | true =>
          refine wpAny_mono (he C s H fp _ s7 τ6 H7 _ I7 q7) (fun v s8 ⟨y, H8, I8, r8, hD8, q8⟩ => ?_) (fun _ _ z => False.elim z)
          refine wpAny_mono (mt_append (X := X.block N sc C s H fp) _ s8 τ6 H8 (.ref s.heap.objs.size) [y] (.ref s.heap.objs.size) [v] (fun _ H9 => M (ys ++ [y]) τ6 H9) I8 rfl (.cons r8 .nil) ⟨_, ys, y, rfl, rfl, hD8, hlt, q8⟩) (fun _ s9 ⟨_, H9, I9, _, q9⟩ => again I9 q9) (fun _ _ z => False.elim z)
    · have hne : b ≠ s.heap.objs.size := Nat.ne_of_lt (hfs b hb).2
      rw [upd_ne hne]
      exact (hf b hb).1
  exact codeAny_compStart_list (loop _ rfl) (T.self X.A 0 _ _ _ h01 (loop _ rfl))

/-- a comprehension as a value -/
theorem pe_comp (hc : X.calm = true) (B : BlockOk X.N X.env.scope N sc cap) (hi : PI X tg iter wi)
    (hg : ∀ C s H ex, PG (X.block N sc C s H ex) tg g) (ht : ∀ C s H ex, PTs (X.block N sc C s H ex) ifs tc) (he : ∀ C s H ex, PE (X.block N sc C s H ex) elt te)
    (hs : ∀ x, foldedSetIterable iter X.env x = pure x := by intro _; rfl) : PE X (.ListComp elt [⟨tg, iter, ifs, 0⟩] sc pos) (tComp wi g tc te (capSt cap)) := by
  intro pins s σ H Q I h
  rw [eval_ListComp]
  refine wpAny_comprehension_free (use := none) rfl hs (closureFor_eq (B.cells I.ok)) B.kind B.loc (thn (hi pins s σ H _ I h) fun xv s₁ h₁ => thn h₁ fun itv s₂ h₂ => ?_)
  obtain ⟨it, fp, tn, J, H2, e, I2, T, st2, f2, h2⟩ := h₂
  subst e
  refine comp_block (RR := fun acc C => compPost (model X.prog X.w) X.A X.xe none (EP X pins σ Q) acc C) hc B hg ht he I2 T st2 f2 h2 fun D C s' q => ?_
  obtain ⟨H', I', fC, ⟨m, hn⟩, q⟩ := q.ex
  refine ⟨m, hn, fun h' sb => ⟨.ref D, H', ?_, rfl, q⟩⟩
  exact I'.turned (t' := s'.toks) (fun b o hb e => (sb.2 b hb).trans e) fC.1 fC.2.1 fC.2.2.2.1 fC.2.2.2.2.1 fC.2.2.2.2.2

/-- name = comprehension, where the store comes ahead of the block's leaving -/
theorem ps_setC {i : Nat} {y : Str} {py spos : Pos} (hN : X.N.Nodup) (hiN : X.N[i]? = some y) (hx : Loc X.env.scope y) (hc : X.calm = true) (B : BlockOk X.N X.env.scope N sc cap) (hi : PI X tg iter wi)
    (hg : ∀ C s H ex, PG (X.block N sc C s H ex) tg g) (ht : ∀ C s H ex, PTs (X.block N sc C s H ex) ifs tc) (he : ∀ C s H ex, PE (X.block N sc C s H ex) elt te)
    (hsw : swapsWith (.ListComp elt [⟨tg, iter, ifs, 0⟩] sc pos) (some (.Name y py)) spos.line X.env = pure true := by rfl)
    (hs : ∀ x, foldedSetIterable iter X.env x = pure x := by intro _; rfl) (hfn : X.fn y = true ∨ X.env.scope.names.lookup y = some .local := by first | exact .inl rfl | exact .inr rfl | assumption) :
    PS X (.Assign [.Name y py] (.ListComp elt [⟨tg, iter, ifs, 0⟩] sc pos) spos) (tAsg (tComp wi g tc te (capSt cap)) (gName i)) := by
  intro pins s σ H Dn I h
  rw [exec_Assign_Name_used _ _ _ _ hsw]
  refine wpAny_bind (wpAny_standAt (wpAny_bind ?_))
  show wpAny _ X.A (do let _ ← comprehension (.ListComp elt [⟨tg, iter, ifs, 0⟩] sc pos) sc X.env _ (newList []) false (eval iter X.env) (some (assign (.Name y py) X.env))) _ _ s
  refine wpAny_bind (wpAny_mono (wpAny_comprehension_free (use := some (assign (.Name y py) X.env)) (Q := fun _ s' => SP X pins Dn .next s') rfl hs (closureFor_eq (B.cells I.ok)) B.kind B.loc
    (thn (hi pins s σ H _ I h) fun xv s₁ h₁ => thn h₁ fun itv s₂ h₂ => ?_)) (fun _ s' hq => wpAny_pure (wpAny_pure hq)) fun _ _ e => e)
  obtain ⟨it, fp, tn, J, H2, e, I2, T, st2, f2, h2⟩ := h₂
  subst e
  refine comp_block (Q := fun x H1 => gName i x σ H1 Dn.nx) (RR := fun acc C => compPost (model X.prog X.w) X.A X.xe (some (assign (.Name y py) X.env)) (fun _ s' => SP X pins Dn .next s') acc C) hc B hg ht he I2 T st2 f2 h2 fun D C s' q => ?_
  obtain ⟨H', I', fC, ⟨m, hn⟩, q⟩ := q.ex
  show wpAny _ X.A (assign (.Name y py) X.env (.ref D)) _ _ _
  refine wpAny_assign_Name (store_ok2 I' hN hiN hx (v := .ref D) rfl (fun s'' I'' ⟨a, sb, ha⟩ => ?_) hfn)
  have hCa : C ≠ a := by
    rcases ha with ha | ha
    · rw [ha]; exact fC.2.1
    · exact fun z => fC.2.2.2.2.1 y a ha z.symm
  refine ⟨m, hn.sameBut sb hCa, fun h' sb' => ⟨_, H', ?_, q⟩⟩
  exact I''.turned (t' := s''.toks) (fun b o hb e => (sb'.2 b hb).trans e) fC.1 fC.2.1 fC.2.2.2.1 fC.2.2.2.2.1 fC.2.2.2.2.2
end

/-! ### the forms one uses: n turns, an invariant over the turn, what was gathered, the block's names, the heap -/
theorem comp_by {J : It} {g : TG} {tc : TT} {te : TE} {τ0 : St} {H1 : Hp} {Q : VK} {D : Addr} (n : Nat) (hn : n ≤ sizeLine) (Pv : Nat → List V → St → Hp → Prop) (h0 : Pv 0 [] τ0 (upd H1 D (.lst [])))
    (hD : ∀ i ys τ H, Pv i ys τ H → H D = some (.lst ys) ∧ ys.length ≤ i)
    (hs : ∀ i ys τ H, i < n → Pv i ys τ H → J.go i H ∧ ∀ x H3, J.yld i H x H3 → g x τ H3 fun τ' H4 => tc τ' H4 fun c H5 => if c = true then te τ' H5 fun y H6 => H6 D = some (.lst ys) ∧ Pv (i + 1) (ys ++ [y]) τ' (upd H6 D (.lst (ys ++ [y]))) else Pv (i + 1) ys τ' H5)
    (he : ∀ ys τ H, Pv n ys τ H → J.stop n H ∧ Q (.ref D) H) : CompW J g tc te τ0 H1 Q D := by
  refine ⟨fun i m ys τ H => m = n - i ∧ i ≤ n ∧ Pv i ys τ H, ⟨n, rfl, Nat.zero_le _, h0⟩, ?_⟩
  rintro i m ys τ H ⟨rfl, hi, p⟩
  obtain ⟨hd, hl⟩ := hD i ys τ H p
  refine ⟨hd, ?_⟩
  by_cases hlt : i < n
  · obtain ⟨go, st⟩ := hs i ys τ H hlt p
    exact .inr ⟨go, by omega, Pv (i + 1), fun zs τ' H' q => ⟨n - (i + 1), by omega, rfl, hlt, q⟩, st⟩
  · have e : i = n := by omega
    subst e
    exact .inl (he ys τ H p)
end L2

set_option Elab.async false
set_option linter.all false
set_option maxRecDepth 100000
set_option maxHeartbeats 4000000
/-! EXCEPTIONS over the hand layer: raise of an own class, the way through the frames, try with one clause -/
namespace L2
open PySem PySem.Spec PyProof.Rows

/-! ### what is tracked stands in the heap -/
theorem ObjOk.there {P : Program} {w : World} {H : Hp} {h : Heap} {a : Addr} {o : HO} (x : ObjOk P w H h a o) : ∃ ob, h.get? a = some ob := by
  cases o with
  | lst xs => obtain ⟨_, _, _, _, e⟩ := x; exact ⟨_, e⟩
  | tup xs => obtain ⟨_, _, _, ob, e, _⟩ := x; exact ⟨ob, e⟩
  | dK kvs => obtain ⟨_, _, _, _, o, _, _, e, _⟩ := x; exact ⟨o, e⟩
  | dT kvs => obtain ⟨_, _, _, _, o, _, _, e, _⟩ := x; exact ⟨o, e⟩
  | set S n => obtain ⟨o, _, _, _, e, _⟩ := x; exact ⟨o, e⟩
  | ins C dx fs => obtain ⟨_, _, _, e, _⟩ := x; exact ⟨_, e⟩
  | own y => obtain ⟨o, e⟩ := x; exact ⟨o, e⟩
  | xd fs => obtain ⟨_, ⟨o, _, _, e, _⟩, _⟩ := x; exact ⟨o, e⟩
  | rng lo hi => obtain ⟨_, _, _, e⟩ := x; exact ⟨_, e⟩
  | frz ob u => obtain ⟨e, _⟩ := x; exact ⟨ob, e⟩
  | tbl ps => exact ⟨_, (show h.get? a = some _ from x)⟩
  | met f y => exact ⟨_, (show h.get? a = some _ from x)⟩
  | ext φ => obtain ⟨_, ⟨o, e⟩, _⟩ := x; exact ⟨o, e⟩
theorem HOk.there {P : Program} {w : World} {H : Hp} {h : Heap} {a : Addr} {o : HO} (x : HOk P w H h) (e : H a = some o) : ∃ ob, h.get? a = some ob := (x a o e).there
theorem HOk.none_of {P : Program} {w : World} {H : Hp} {h : Heap} {a : Addr} (x : HOk P w H h) (e : h.get? a = none) : H a = none := by
  cases q : H a with
  | none => rfl
  | some o =>
    obtain ⟨ob, e'⟩ := x.there q
    rw [e] at e'
    cases e'

/-! ### an exception in flight -/
structure Fly (h : Heap) (H : Hp) (h0 : Heap) (e : Addr) (cls : Value) : Prop where
  ex : ∃ (oe : Obj) (vs : Array Value) (T : Addr) (oT : Obj) (ts : Array Value) (a0 : Value), h.get? e = some oe ∧ oe.cls = cls ∧ oe.data = .fields vs ∧ vs[0]? = some a0 ∧ vs[1]? = some (.ref T) ∧ T ≠ e ∧
    h.get? T = some oT ∧ oT.data = .fields ts ∧ ts[3]? = some .none ∧ H T = none ∧ h0.get? T = none
  free : H e = none
  new : h0.get? e = none
def CXo (P : Program) (w : World) : CXT := fun outer H s E x s' => ∃ (e : Addr) (cls : Value) (H' : Hp), x = .ref e ∧ Fly s'.heap H' s.heap e cls ∧ s'.os = s.os ∧ AllBare s'.gens ∧ Un (frs outer) [] H H' s.heap s'.heap ∧ HOk P w H' s'.heap ∧ E cls none H'

section
variable {X : Cx} {pins : List (Addr × Obj)} {σ : St} {H : Hp} {s s' : Shared}

/-- all objects kept but the frames' slots -/
theorem Inv.slots (I : Inv X pins σ H s) (ho : s'.os = s.os) (hg : AllBare s'.gens) (kp : ∀ b o, s.heap.get? b = some o → b ∉ frs X.stack → s'.heap.get? b = some o)
    (sl : ∀ b o, s.heap.get? b = some o → b ∈ frs X.stack → ∃ sl, s'.heap.get? b = some { o with slots := sl }) : Inv X pins σ H s' := by
  refine I.call' (ch := []) ho ⟨fun b o e _ hb _ => kp b o e hb, fun b o e _ hb _ => sl b o e hb, fun _ _ _ n _ => n, fun b o e _ => ?_, fun _ _ e => e, fun _ _ _ e => e, fun b ps e => ⟨#[], by rw [e]; simp⟩⟩ (fun b u e => ?_) hg (fun b hb => absurd hb (by simp))
  · by_cases hb : b ∈ frs X.stack
    · obtain ⟨sl', e'⟩ := sl b o e hb
      exact ⟨_, e'⟩
    · exact ⟨o, kp b o e hb⟩
  · have nf : ∀ c v, H c = some v → c ∉ frs X.stack := fun c v q z => by
      rw [I.stkFree c z] at q
      cases q
    refine (I.hok b u e).stay (fun c v hc q => kp c v q ?_) (fun _ q => q) fun _ _ q => q
    rcases hc with rfl | hc
    · exact nf _ _ e
    · exact nf _ _ hc

/-- what stood at the entry stands now -/
theorem Inv.old (I : Inv X pins σ H s) (hx : X.ex = []) {b : Addr} {o : Obj} (e : X.s₀.heap.get? b = some o) : ∃ o', s.heap.get? b = some o' := I.base.there b o e (by rw [hx]; simp)

/-- the frame is left by an exception that was made here -/
theorem leave_made {E : XK} {P : Program} {w : World} {K : PySem.W.Frag} {mg : Str → Option Value} {base : Heap} {N : List Str} {qual : Str} {scope : Scope} {f : Addr} {cd : Value} {A : Around} {outer : List Env} {s0 : Shared} {H0 : Hp}
    {h' : Heap} {e : Addr} {cls : Value} {vs : List Value} (I : Inv (cxOf (CXo P w) P w K mg base N qual scope f cd A outer s0 H0 E) pins σ H s) (m : Heap.MadeExcOf s.heap h' e cls vs) (q : E cls none H) :
    (cxOf (CXo P w) P w K mg base N qual scope f cd A outer s0 H0 E).xe (.ref e) { s with heap := h' } := by
  have hst := I.stack
  have hmem : ∀ env ∈ (envOfC qual scope s0.heap.objs.size f cd :: outer), ∀ a, env.frame = some a → a ∈ frs (envOfC qual scope s0.heap.objs.size f cd :: outer) := fun env he a ha => List.mem_filterMap.mpr ⟨env, he, ha⟩
  have hB : ∀ b o, s.heap.get? b = some o → b ∉ frs (envOfC qual scope s0.heap.objs.size f cd :: outer) → (PySem.W.hideAll s.heap (frs (envOfC qual scope s0.heap.objs.size f cd :: outer))).get? b = some o := fun b o e hb => PySem.W.hideAll_get _ e hb
  refine wpAny_leaves_madeW (base := PySem.W.hideAll s.heap (frs (envOfC qual scope s0.heap.objs.size f cd :: outer))) I.ok.frames rfl (fun b o e => PySem.W.of_hideAll _ e) (PySem.W.funFrames_hide hst hmem) m fun h'' t fl _ _ up => ?_
  have kp : ∀ b o, s.heap.get? b = some o → b ∉ frs (envOfC qual scope s0.heap.objs.size f cd :: outer) → h''.get? b = some o := fun b o e hb => fl.1 b o (hB b o e hb)
  have sl : ∀ b o, s.heap.get? b = some o → b ∈ frs (envOfC qual scope s0.heap.objs.size f cd :: outer) → ∃ sl, h''.get? b = some { o with slots := sl } := fun b o e hb => by
    obtain ⟨_, o', e', hd⟩ := hst.mem hb
    rw [e] at e'
    cases e'
    exact up b o (m.keeps b o e) hd
  have I2 : Inv (cxOf (CXo P w) P w K mg base N qual scope f cd A outer s0 H0 E) pins σ H { s with heap := h'' } := I.slots rfl I.bare kp sl
  have he : H e = none := I.hok.none_of m.new
  have h0e : s0.heap.get? e = none := by
    cases q : s0.heap.get? e with
    | none => rfl
    | some o =>
      obtain ⟨o', e'⟩ := I.old rfl q
      rw [m.new] at e'
      cases e'
  obtain ⟨_, _, hfr, oe, ws, T, oT, ts, g1, ⟨g2, g3⟩, g4, g5, g6, g7, g8, g9, g10⟩ := fl
  have hT : ∀ o, s.heap.get? T = some o → T ∈ frs (envOfC qual scope s0.heap.objs.size f cd :: outer) := fun o e => by
    by_cases hb : T ∈ frs (envOfC qual scope s0.heap.objs.size f cd :: outer)
    · exact hb
    · have := hB T o e hb
      rw [g6] at this
      cases this
  refine ⟨e, cls, H, rfl, ⟨⟨oe, ws, T, oT, ts, _, g1, g2, g4, g3, g5, g7, g8, g9, g10, ?_, ?_⟩, he, h0e⟩, I2.os, I2.bare, I2.base, I2.hok, q⟩
  · cases z : H T with
    | none => rfl
    | some u =>
      obtain ⟨ob, e'⟩ := I.hok.there z
      have := I.stkFree T (hT ob e')
      rw [z] at this
      cases this
  · cases z : s0.heap.get? T with
    | none => rfl
    | some u =>
      obtain ⟨ob, e'⟩ := I.old rfl z
      have hm := hT ob e'
      have hm' : T = s0.heap.objs.size ∨ T ∈ frs outer := List.mem_cons.mp hm
      rcases hm' with z' | z'
      · exact absurd (Heap.lt_size z) (by rw [z']; exact Nat.lt_irrefl _)
      · obtain ⟨_, o', e'', hd⟩ := hfr.mem z'
        rw [g8] at e''
        cases e''
        exact absurd g9 (hd ts)

/-- an exception of a callee leaves the frame -/
theorem leave_on {E : XK} {P : Program} {w : World} {K : PySem.W.Frag} {mg : Str → Option Value} {base : Heap} {N : List Str} {qual : Str} {scope : Scope} {f : Addr} {cd : Value} {A : Around} {outer : List Env} {s0 : Shared} {H0 : Hp} :
    Passes (CXo P w) (cxOf (CXo P w) P w K mg base N qual scope f cd A outer s0 H0 E) E := by
  intro pins σ H s x s' I hx
  obtain ⟨e, cls, H', rfl, F, os, bare, un, hok, q⟩ := hx
  have I1 : Inv (cxOf (CXo P w) P w K mg base N qual scope f cd A outer s0 H0 E) pins σ H' s' := I.call' (ch := []) os un hok bare (fun b hb => absurd hb (by simp))
  obtain ⟨⟨oe, ws, T, oT, ts, a0, g1, g2, g3, g4, g5, g6, g7, g8, g9, g10, g11⟩, he, hn⟩ := F
  have hst := I1.stack
  have hmem : ∀ env ∈ (envOfC qual scope s0.heap.objs.size f cd :: outer), ∀ a, env.frame = some a → a ∈ e :: T :: frs (envOfC qual scope s0.heap.objs.size f cd :: outer) := fun env he a ha =>
    List.mem_cons_of_mem _ (List.mem_cons_of_mem _ (List.mem_filterMap.mpr ⟨env, he, ha⟩))
  have hB : ∀ b o, s'.heap.get? b = some o → b ∉ e :: T :: frs (envOfC qual scope s0.heap.objs.size f cd :: outer) → (PySem.W.hideAll s'.heap (e :: T :: frs (envOfC qual scope s0.heap.objs.size f cd :: outer))).get? b = some o := fun b o e hb => PySem.W.hideAll_get _ e hb
  have hfl : Heap.FlyingW (PySem.W.hideAll s'.heap (e :: T :: frs (envOfC qual scope s0.heap.objs.size f cd :: outer))) (envOfC qual scope s0.heap.objs.size f cd :: outer) e cls a0 s'.heap :=
    ⟨fun b o e => PySem.W.of_hideAll _ e, PySem.W.hideAll_none _ List.mem_cons_self, PySem.W.funFrames_hide hst hmem, oe, ws, T, oT, ts, g1, ⟨g2, g4⟩, g3, g5, PySem.W.hideAll_none _ (List.mem_cons_of_mem _ List.mem_cons_self), g6, g7, g8, g9⟩
  refine wpAny_leaves_onW I.ok.frames rfl hfl fun h'' fl up => ?_
  have nof : ∀ b, s.heap.get? b = none → s0.heap.get? b = none := fun b z => by
    cases q : s0.heap.get? b with
    | none => rfl
    | some o =>
      obtain ⟨o', e'⟩ := I.old rfl q
      rw [z] at e'
      cases e'
  -- the exception and its entry are no objects of the entry, no tracked ones, no frames
  have offe : e ∉ frs (envOfC qual scope s0.heap.objs.size f cd :: outer) := fun hb => by
    obtain ⟨_, o', e', hd⟩ := hst.mem hb
    rw [g1] at e'
    cases e'
    exact hd ws g3
  have offT : T ∉ frs (envOfC qual scope s0.heap.objs.size f cd :: outer) := fun hb => by
    obtain ⟨_, o', e', hd⟩ := hst.mem hb
    rw [g7] at e'
    cases e'
    exact hd ts g8
  have kp : ∀ b o, s'.heap.get? b = some o → b ≠ e → b ≠ T → b ∉ frs (envOfC qual scope s0.heap.objs.size f cd :: outer) → h''.get? b = some o := fun b o q n1 n2 n3 => fl.1 b o (hB b o q (by simp [n1, n2, n3]))
  have sl : ∀ b o, s'.heap.get? b = some o → b ∈ frs (envOfC qual scope s0.heap.objs.size f cd :: outer) → ∃ sl, h''.get? b = some { o with slots := sl } := fun b o q hb => by
    obtain ⟨_, o', e', hd⟩ := hst.mem hb
    rw [q] at e'
    cases e'
    exact up b o q hd
  obtain ⟨_, _, hfr, oe2, ws2, T2, oT2, ts2, k1, ⟨k2, k3⟩, k4, k5, k6, k7, k8, k9, k10⟩ := fl
  have hT2 : ∀ o, s'.heap.get? T2 = some o → T2 = T ∨ T2 ∈ frs (envOfC qual scope s0.heap.objs.size f cd :: outer) := fun o q => by
    by_cases n2 : T2 = T
    · exact .inl n2
    · by_cases n3 : T2 ∈ frs (envOfC qual scope s0.heap.objs.size f cd :: outer)
      · exact .inr n3
      · have := hB T2 o q (by simp [k7, n2, n3])
        rw [k6] at this
        cases this
  -- over the call and the leaving together
  have old : ∀ b o, s.heap.get? b = some o → b ≠ e ∧ b ≠ T := fun b o q => ⟨fun z => (by rw [z, hn] at q; cases q), fun z => (by rw [z, g11] at q; cases q)⟩
  have nt : ∀ b u, H' b = some u → b ≠ e ∧ b ≠ T ∧ b ∉ frs (envOfC qual scope s0.heap.objs.size f cd :: outer) := fun b u q => ⟨fun z => (by rw [z, he] at q; cases q), fun z => (by rw [z, g10] at q; cases q), fun z => (by rw [I1.stkFree b z] at q; cases q)⟩
  have I2 : Inv (cxOf (CXo P w) P w K mg base N qual scope f cd A outer s0 H0 E) pins σ H' { s' with heap := h'' } := by
    refine I.call' (ch := []) os ⟨fun b o q n hb _ => ?_, fun b o q n hb _ => ?_, fun b o q n hx => un.free b o q n hx, fun b o q hx => ?_, un.tups, un.frzs, un.tbls⟩ (fun b u q => ?_) bare (fun b hb => absurd hb (by simp))
    · exact kp b o (un.keep b o q n hb (by simp)) (old b o q).1 (old b o q).2 hb
    · obtain ⟨sl1, q1⟩ := un.slot b o q n hb (by simp)
      obtain ⟨sl2, q2⟩ := sl b _ q1 hb
      exact ⟨sl2, q2⟩
    · obtain ⟨o', q1⟩ := un.there b o q (by simp)
      by_cases hb : b ∈ frs (envOfC qual scope s0.heap.objs.size f cd :: outer)
      · obtain ⟨sl2, q2⟩ := sl b _ q1 hb
        exact ⟨_, q2⟩
      · exact ⟨o', kp b o' q1 (old b o q).1 (old b o q).2 hb⟩
    · refine (hok b u q).stay (fun c v hc z => ?_) (fun _ z => z) fun _ _ z => z
      rcases hc with rfl | hc
      · exact kp _ v z (nt _ _ q).1 (nt _ _ q).2.1 (nt _ _ q).2.2
      · exact kp _ v z (nt _ _ hc).1 (nt _ _ hc).2.1 (nt _ _ hc).2.2
  refine ⟨e, cls, H', rfl, ⟨⟨oe2, ws2, T2, oT2, ts2, _, k1, k2, k4, k3, k5, k7, k8, k9, k10, ?_, ?_⟩, he, nof e hn⟩, I2.os, I2.bare, I2.base, I2.hok, q⟩
  · cases z : H' T2 with
    | none => rfl
    | some u =>
      obtain ⟨ob, e'⟩ := hok.there z
      rcases hT2 ob e' with z' | z'
      · rw [z', g10] at z
        cases z
      · rw [I1.stkFree T2 z'] at z
        cases z
  · cases z : s0.heap.get? T2 with
    | none => rfl
    | some u =>
      obtain ⟨ob, e'⟩ := I1.old rfl z
      rcases hT2 ob e' with z' | z'
      · rw [z', nof T g11] at z
        cases z
      · have hm' : T2 = s0.heap.objs.size ∨ T2 ∈ frs outer := List.mem_cons.mp z'
        rcases hm' with w' | w'
        · exact absurd (Heap.lt_size z) (by rw [w']; exact Nat.lt_irrefl _)
        · obtain ⟨_, o', e'', hd⟩ := hfr.mem w'
          rw [k8] at e''
          cases e''
          exact absurd k9 (hd ts2)
end

/-! ### an own error class -/
/-- what the fragment says of an own class under ValueError without an __init__ -/
structure ExcC (K : PySem.W.Frag) (mg : Str → Option Value) (x : Str) (C : Addr) : Prop where
  mg : mg x = some (.ref C)
  ok : PySem.W.excIn K C [.type "ValueError", .type "Exception", .type "BaseException", .type "object"] "ValueError.__new__" = true
theorem exc_obj {K : PySem.W.Frag} {h : Heap} {C : Addr} {bmB : List Value} {newId : String} (X : K.In h) (q : PySem.W.excIn K C bmB newId = true) :
    ∃ bm N nm qn bs hdct sn sub ab col dd k0 k1 k2 k3 k5 mN, h.get? C = some (excClassObj nm qn C N bs bm hdct sn sub ab col dd k0 k1 k2 k3 k5 newId) ∧ h.Ns N mN ∧ mN "__init__" = none ∧ OwnTail h bmB bm := by
  unfold PySem.W.excIn at q
  split at q
  · rename_i dd cd sl ho
    split at q
    · rename_i C' bm k0 k1 k2 k3 n k5 hm hs
      simp only [Bool.and_eq_true, beq_iff_eq, Bool.not_eq_true'] at q
      obtain ⟨⟨⟨⟨⟨rfl, rfl⟩, hdel⟩, ht⟩, hok⟩, hni⟩ := q
      obtain ⟨nm, bs, mro, ns, qn, hd, sn, sub, ab, col, del⟩ := cd
      dsimp only at hm hdel hok hni
      subst hm hdel
      have hsl : sl = #[k0, k1, k2, k3, some (.builtin n), k5] := by
        obtain ⟨l⟩ := sl
        simp only at hs
        rw [hs]
      subst hsl
      exact ⟨bm, ns, nm, qn, bs, hd, sn, sub, ab, col, dd, k0, k1, k2, k3, k5, _, X _ _ ho, .of_isNs (PySem.W.isNs_of_in X hok), PySem.W.nsMap_none_of_in X hok hni, PySem.W.tail_of_in X ht⟩
    · cases q
  · cases q

/-- what may be raised: the class's own exceptions reach what is wanted -/
def Leaves (X : Cx) (E : St → XK) : Prop := ∀ (pins : List (Addr × Obj)) (σ : St) (H : Hp) (s : Shared) (h' : Heap) (e : Addr) (cls : Value) (vs : List Value), Inv X pins σ H s → Heap.MadeExcOf s.heap h' e cls vs → E σ cls none H → X.xe (.ref e) { s with heap := h' }
theorem leaves_cx {E : XK} {P : Program} {w : World} {K : PySem.W.Frag} {mg : Str → Option Value} {base : Heap} {N : List Str} {qual : Str} {scope : Scope} {f : Addr} {cd : Value} {A : Around} {outer : List Env} {s0 : Shared} {H0 : Hp} :
    Leaves (cxOf (CXo P w) P w K mg base N qual scope f cd A outer s0 H0 E) (fun _ => E) := fun _ _ _ _ _ _ _ _ I m q => leave_made I m q

section
variable {X : Cx} {x : Str} {C : Addr} {e0 : Expr} {es : List Expr} {np cpos pos : Pos} {t : TA} {E : St → XK}
def tRaise (C : Addr) (E : St → XK) (t : TA) : TS := fun _ σ H => t σ H fun vs H1 => vs.length ≤ sizeLine ∧ E σ (.ref C) none H1
theorem ps_raise (hc : X.calm = true) (c : ExcC X.K X.mg x C) (hL : Leaves X E) (hg : Gl X x) (ha : PA X (e0 :: es) t) (hd : (x == ("__debug__" : Str)) = false := by decide)
    (he : starEach (e0 :: es) X.env = (false, eval e0 X.env) :: starEach es X.env := by rfl) (hpl : (backTo cpos (starEach es X.env)).any (·.1) = false := by rfl) :
    PS X (.Raise (some (.Call (.Name x np) (e0 :: es) [] cpos)) none pos) (tRaise C E t) := by
  intro pins s σ H D I h
  obtain ⟨tl, N, nm, q, bs, hdct, sn, sub, ab, col, dd, k0, k1, k2, k3, k5, mN, hC, hN, hni, T⟩ := exc_obj I.ok.mod.kin c.ok
  refine wpAny_Raise_call_subT (C := C) (nm := nm) (q := q) (N := N) (bs := bs) (bm := tl) (hdct := hdct) (sn := sn) (sub := sub) (ab := ab) (col := col) (dd := dd) (k0 := k0) (k1 := k1) (k2 := k2) (k3 := k3) (k5 := k5)
    PySem.F.excBase_ValueError (mN := mN) (T.hasType PySem.F.excBase_ValueError.hasBase) (I.ok.hd hc) (by rw [he]; show (false || (backTo cpos (starEach es X.env)).any (·.1)) = false; rw [hpl]; rfl) hni (ld_glob I hg c.mg ⟨rfl, ?_⟩ hd)
  have ha' := ha cpos pins s σ H _ I h
  rw [he] at ha' ⊢
  exact Calls.evalArgs_plain (thn ha' fun us s2 ⟨vs, H2, I2, r2, hl, q2⟩ => ⟨rfl, by rw [← r2.length]; exact hl, I2.bk _ _ hC, hN.keeps I2.bk, T.keeps I2.bk, fun h' e m => hL pins σ H2 s2 h' e (.ref C) us I2 m q2⟩)
end

/-! ### calls whose exceptions are wanted by the names' values -/
def PassesX (CX : CXT) (X : Cx) (E : St → XK) : Prop := ∀ (pins : List (Addr × Obj)) (σ : St) (H : Hp) (s : Shared) (e : Value) (s' : Shared), Inv X pins σ H s → CX X.stack H s (E σ) e s' → X.xe e s'
theorem passes_cx {E : XK} {P : Program} {w : World} {K : PySem.W.Frag} {mg : Str → Option Value} {base : Heap} {N : List Str} {qual : Str} {scope : Scope} {f : Addr} {cd : Value} {A : Around} {outer : List Env} {s0 : Shared} {H0 : Hp} :
    PassesX (CXo P w) (cxOf (CXo P w) P w K mg base N qual scope f cd A outer s0 H0 E) (fun _ => E) := leave_on
def tCallX (sp : Sp) (dvs : List V) (E : St → XK) (t : TA) : TE := fun σ H Q => t σ H fun vs H1 => sp (vs ++ dvs) H1 Q (E σ)
def tMethX (C : Addr) (m : Str) (sp : Sp) (dvs : List V) (E : St → XK) (ta : TE) (t : TA) : TE := fun σ H Q => ta σ H fun x H1 => ∃ a dx fs, x = .ref a ∧ H1 a = some (.ins C dx fs) ∧ fs.lookup m = none ∧
  t σ H1 fun vs H2 => sp (x :: (vs ++ dvs)) H2 Q (E σ)
def tMakeX (C : Addr) (sp : Sp) (dvs : List V) (E : St → XK) (t : TA) : TE := fun σ H Q => t σ H fun vs H1 => ∀ x dx, H1 x = none → H1 dx = none → dx ≠ x →
  sp (.ref x :: (vs ++ dvs)) (upd (upd H1 dx (.own x)) x (.ins C dx [])) (fun v H2 => v = .non ∧ Q (.ref x) H2) (E σ)
section
variable {X : Cx} {CX : CXT} {k : Nat} {f C : Addr} {fd : FuncData} {ps : List Str} {sp : Sp} {dvs : List V} {ds : List Value} {E : St → XK} {x m : Str} {p pos apos : Pos} {e o : Expr} {es : List Expr} {ta : TE} {t : TA}
theorem run_fnX {E : XK} {pins : List (Addr × Obj)} {σ : St} {H : Hp} {s : Shared} {Q : VK} {us : List Value} {vs : List V} (F : FnOk X.prog X.w X.K X.mg X.base CX k f fd ps sp) (hr : Room k X.A) (hb : Binds X.K fd ps ds) (hd : Vals dvs ds)
    (hx : ∀ e s', CX X.stack H s E e s' → X.xe e s') (I : Inv X pins σ H s) (r : Vals vs us) (h : sp (vs ++ dvs) H Q E) : wpAny (model X.prog X.w) X.A (call (.ref f) us) (EP X pins σ Q) X.xe s := by
  have r2 : Vals (vs ++ dvs) (us ++ ds) := r.append hd
  have hl : (us ++ ds).length = ps.length := by rw [← r2.length]; exact F.len _ _ _ _ h
  refine wpAny_call (codeAny_mono (F.run X.A X.stack s H ⟨us, []⟩ (us ++ ds) (vs ++ dvs) Q E hr I.env0 (hb s us I.kIn hl) r2 h) fun r s' hq => ?_)
  cases r with
  | error e => exact hx e s' hq
  | ok fl =>
    cases fl with
    | ret u => exact I.after hq
    | next => exact False.elim hq
    | brk => exact False.elim hq
    | cont => exact False.elim hq
theorem pe_callX (F : FnOk X.prog X.w X.K X.mg X.base CX k f fd ps sp) (hr : Room k X.A) (hg : Gl X x) (hm : X.mg x = some (.ref f)) (hk : PySem.W.keepIn X.K (.ref f) = true) (hb : Binds X.K fd ps ds) (hd : Vals dvs ds) (hx : PassesX CX X E)
    (ha : PA X (e :: es) t) (hdb : (x == ("__debug__" : Str)) = false := by decide) (he : starEach (e :: es) X.env = (false, eval e X.env) :: starEach es X.env := by rfl) (hpl : (backTo pos (starEach es X.env)).any (·.1) = false := by rfl) :
    PE X (.Call (.Name x p) (e :: es) [] pos) (tCallX sp dvs E t) := by
  intro pins s σ H Q I h
  refine wpAny_Call_Name_kw (ld_glob I hg hm ?_ hdb)
  refine PySem.W.callWith_K (h₀ := X.base) I.ok.mod.kin hk (thn (ha pos pins s σ H _ I h) fun us s1 ⟨vs, H1, I1, r, q⟩ => ⟨I1.kIn, ?_⟩) he hpl
  exact run_fnX F hr hb hd (fun e s' => hx pins σ H1 s1 e s' I1) I1 r q
theorem pe_methX {pl : Sem Bool} (he : PE X o ta) (c : Cls X.K C) (hm : Meth X.K C m f) (F : FnOk X.prog X.w X.K X.mg X.base CX k f fd ps sp) (hr : Room k X.A) (hb : Binds X.K fd ps ds) (hd : Vals dvs ds) (hx : PassesX CX X E) (ha : PA X (e :: es) t)
    (hst : starEach (e :: es) X.env = (false, eval e X.env) :: starEach es X.env := by rfl) (hpl : (backTo pos (starEach es X.env)).any (·.1) = false := by rfl)
    (ht : eval (.Call (.Attribute o m apos) (e :: es) [] pos) X.env = (do
      let ov ← eval o X.env
      standAt apos.atName
      let (f, first) ← holding [ov] (getMethod ov m pl)
      callWith pos f first (backTo pos (starEach (e :: es) X.env)) (backToKw pos (keywordEach [] X.env))) := by rfl) :
    PE X (.Call (.Attribute o m apos) (e :: es) [] pos) (tMethX C m sp dvs E ta t) := by
  intro pins s σ H Q I h
  refine PySem.W.methodCall_KW (pl := pl) (thn (he pins s σ H _ I h) fun u s1 ⟨x, H1, I1, rx, a, dx, fs, ex, ea, l, q⟩ => ?_) ht
  subst ex
  obtain rfl : u = Value.ref a := rx
  refine getmeth_ok I1 ea c hm l ?_
  refine PySem.W.callWith_K (first := [.ref a]) (h₀ := X.base) I.ok.mod.kin hm.kp (thn (ha pos pins s1 σ H1 _ I1 q) fun us s2 ⟨vs, H2, I2, r, q2⟩ => ⟨I2.kIn, ?_⟩) hst hpl
  exact run_fnX (us := .ref a :: us) (vs := .ref a :: vs) F hr hb hd (fun e s' => hx pins σ H2 s2 e s' I2) I2 (.cons rfl r) q2
theorem run_makeX {E : XK} {pins : List (Addr × Obj)} {σ : St} {H : Hp} {s : Shared} {Q : VK} {us : List Value} {vs : List V} (M : Mk X.K C f) (F : FnOk X.prog X.w X.K X.mg X.base CX k f fd ps sp) (hr : Room (k + 1) X.A) (hb : Binds X.K fd ps ds) (hd : Vals dvs ds)
    (hx : ∀ H s e s', Inv X pins σ H s → CX X.stack H s E e s' → X.xe e s') (I : Inv X pins σ H s) (r : Vals vs us)
    (h : ∀ x dx, H x = none → H dx = none → dx ≠ x → sp (.ref x :: (vs ++ dvs)) (upd (upd H dx (.own x)) x (.ins C dx [])) (fun v H2 => v = .non ∧ Q (.ref x) H2) E) :
    wpAny (model X.prog X.w) X.A (call (.ref C) us) (EP X pins σ Q) X.xe s := by
  have hq := h (s.heap.objs.size + 1) s.heap.objs.size (I.hok.fresh (Nat.le_succ _)) (I.hok.fresh (Nat.le_refl _)) (Nat.ne_of_lt (Nat.lt_succ_self _))
  have I2 := Inv.made (C := C) I
  have r2 : Vals (V.ref (s.heap.objs.size + 1) :: (vs ++ dvs)) (Value.ref (s.heap.objs.size + 1) :: (us ++ ds)) := .cons rfl (r.append hd)
  have hl : (Value.ref (s.heap.objs.size + 1) :: us ++ ds).length = ps.length := by
    have e := r2.length
    rw [F.len _ _ _ _ hq] at e
    exact e.symm
  refine wpAny_call (make_map (f := f) I.kIn M.makes M.init (beq_iff_eq.mp M.fn) (codeAny_mono (F.run _ X.stack _ _ ⟨Value.ref (s.heap.objs.size + 1) :: us, []⟩ (Value.ref (s.heap.objs.size + 1) :: (us ++ ds)) _ _ E (hr.make C us [])
    (I2.env0.make C us []) (hb _ (Value.ref (s.heap.objs.size + 1) :: us) I2.kIn hl) r2 hq) fun r s' hq' => ?_))
  cases r with
  | error e => exact hx _ _ e s' I2 hq'
  | ok fl =>
    cases fl with
    | ret u =>
      obtain ⟨v, H', I3, rv, ev, q3⟩ := I2.after hq'
      subst ev
      exact ⟨rv, ⟨V.ref (s.heap.objs.size + 1), H', I3, rfl, q3⟩⟩
    | next => exact False.elim hq'
    | brk => exact False.elim hq'
    | cont => exact False.elim hq'
theorem pe_makeX (M : Mk X.K C f) (F : FnOk X.prog X.w X.K X.mg X.base CX k f fd ps sp) (hr : Room (k + 1) X.A) (hg : Gl X x) (hm : X.mg x = some (.ref C)) (hb : Binds X.K fd ps ds) (hd : Vals dvs ds) (hx : PassesX CX X E)
    (ha : PA X (e :: es) t) (hdb : (x == ("__debug__" : Str)) = false := by decide) (he : starEach (e :: es) X.env = (false, eval e X.env) :: starEach es X.env := by rfl) (hpl : (backTo pos (starEach es X.env)).any (·.1) = false := by rfl) :
    PE X (.Call (.Name x p) (e :: es) [] pos) (tMakeX C sp dvs E t) := by
  intro pins s σ H Q I h
  refine wpAny_Call_Name_kw (ld_glob I hg hm ?_ hdb)
  refine PySem.W.callWith_K (h₀ := X.base) I.ok.mod.kin M.kp (thn (ha pos pins s σ H _ I h) fun us s1 ⟨vs, H1, I1, r, q⟩ => ⟨I1.kIn, ?_⟩) he hpl
  exact run_makeX M F hr hb hd (fun H s e s' I' => hx pins σ H s e s' I') I1 r q
end

/-! ### a def whose exceptions are told -/
section
variable {P : Program} {w : World} {K : PySem.W.Frag} {mg : Str → Option Value} {base : Heap}
theorem Fun.okX {x qual : Str} {st : Stmt} {f : Addr} {fd : FuncData} {N ps : List Str} {k : Nat} {sp : Sp} (F : Fun K x qual st f fd) (S : FnScope N ps (defScope st)) (len : ∀ vs H Q E, sp vs H Q E → vs.length = ps.length)
    (hbody : ∀ (cdv : Value) (A : Around) (outer : List Env) (s : Shared) (H : Hp) (vs : List V) (Q : VK) (E : XK), Room k (A.deeper (envOfC qual (defScope st) s.heap.objs.size f cdv)) → sp vs H Q E →
      ∃ t, PSs (cxOf (CXo P w) P w K mg base N qual (defScope st) f cdv A outer s H E) (defBody st) t ∧ t { nx := fun _ H' => Q .non H', rt := Q } (start N vs) H) : FnOk P w K mg base (CXo P w) (k + 1) f fd ps sp := by
  obtain ⟨oc, od, kV, doc, pm, an, cdv, ct, osl, rfl, lk, hcd⟩ := F.ex
  exact fn_of lk hcd S len fun A outer s H vs Q E hr hsp => hbody cdv A outer s H vs Q E hr hsp
end
end L2

set_option Elab.async false
set_option linter.all false
set_option maxRecDepth 100000
set_option maxHeartbeats 4000000
/-! TRY, isinstance, all, any, zip of two lists, == of nested lists and tuples -/
namespace L2
open PySem PySem.Spec PyProof.Rows

section
variable {X : Cx} {pins pins' pn' : List (Addr × Obj)} {σ : St} {H H' : Hp} {s s1 : Shared}
/-- another wish, other pins, another place around -/
theorem Inv.re {xe' : Value → Shared → Prop} {A' : Around} {c' : Bool} (I : Inv X pins σ H s) (hp : ∀ p ∈ pn' ++ pins', s.heap.get? p.1 = some p.2 ∧ H p.1 = none ∧ p.1 ≠ X.env.locals ∧ p.1 ∉ X.fs ∧ ∀ v, p.2.data ≠ .cell v)
    (hd : c' = true → A'.handled = none) (hf : A'.frames = some X.stack) : Inv { X with pn := pn', xe := xe', A := A', calm := c' } pins' σ H s :=
  ⟨⟨I.ok.mod, I.ok.kind, I.ok.glob, I.ok.blt, I.ok.above, I.ok.inj, I.ok.has, I.ok.cab, hd, hf, I.ok.stk, I.ok.exf, I.ok.bs, I.ok.bsz, I.ok.noex, I.ok.exfs, I.ok.funs, I.ok.frf⟩, I.os, I.bare, I.base, I.loc, I.cell, I.free, I.freeC, hp, I.hok, I.len⟩
/-- behind a call that raised, and what was done to the exception since -/
theorem Inv.thru {h'' : Heap} (I : Inv X pins σ H s) (os : s1.os = s.os) (bare : AllBare s1.gens) (un : Un (frs X.stack) [] H H' s.heap s1.heap) (hok : HOk X.prog X.w H' s1.heap) (off : List Addr)
    (hoff : ∀ b ∈ off, s.heap.get? b = none ∧ H' b = none) (kp : ∀ b o, s1.heap.get? b = some o → b ∉ off → b ∉ frs X.stack → h''.get? b = some o)
    (sl : ∀ b o, s1.heap.get? b = some o → b ∈ frs X.stack → ∃ sl, h''.get? b = some { o with slots := sl }) : Inv X pins σ H' { s1 with heap := h'' } := by
  have I1 : Inv X pins σ H' s1 := I.call' (ch := []) os un hok bare (fun b hb => absurd hb (by simp))
  have old : ∀ b o, s.heap.get? b = some o → b ∉ off := fun b o q hb => by
    rw [(hoff b hb).1] at q
    cases q
  have nt : ∀ b u, H' b = some u → b ∉ off ∧ b ∉ frs X.stack := fun b u q => ⟨fun z => (by rw [(hoff b z).2] at q; cases q), fun z => (by rw [I1.stkFree b z] at q; cases q)⟩
  refine I.call' (ch := []) os ⟨fun b o q n hb _ => ?_, fun b o q n hb _ => ?_, fun b o q n hx => un.free b o q n hx, fun b o q hx => ?_, un.tups, un.frzs, un.tbls⟩ (fun b u q => ?_) bare (fun b hb => absurd hb (by simp))
  · exact kp b o (un.keep b o q n hb (by simp)) (old b o q) hb
  · obtain ⟨sl1, q1⟩ := un.slot b o q n hb (by simp)
    obtain ⟨sl2, q2⟩ := sl b _ q1 hb
    exact ⟨sl2, q2⟩
  · obtain ⟨o', q1⟩ := un.there b o q (by simp)
    by_cases hb : b ∈ frs X.stack
    · obtain ⟨sl2, q2⟩ := sl b _ q1 hb
      exact ⟨_, q2⟩
    · exact ⟨o', kp b o' q1 (old b o q) hb⟩
  · refine (hok b u q).stay (fun c v hc z => ?_) (fun _ z => z) fun _ _ z => z
    rcases hc with rfl | hc
    · exact kp _ v z (nt _ _ q).1 (nt _ _ q).2
    · exact kp _ v z (nt _ _ hc).1 (nt _ _ hc).2
/-- the frame's own names are forgotten -/
theorem Inv.forget {h' : Heap} {t' : Nat} {m' : Str → Option Value} (I : Inv X pins σ H s) (hn : h'.Ns X.env.locals m') (sb : Heap.SameBut X.env.locals s.heap h') :
    Inv X pins (List.replicate X.N.length none) H { s with heap := h', toks := t' } := by
  have neL : ∀ b o, X.s₀.heap.get? b = some o → b ≠ X.env.locals := fun b o e => Nat.ne_of_lt (Nat.lt_of_lt_of_le (Heap.lt_size e) I.ok.above)
  refine ⟨I.ok, I.os, I.bare, ⟨fun b o e n hb hx => ?_, fun b o e n hb hx => ?_, I.base.free, fun b o e hx => ?_, I.base.tups, I.base.frzs, I.base.tbls⟩, ⟨m', hn, fun i x v e1 e2 e3 => ?_⟩, fun x c e => ?_, I.free, I.freeC, fun p hp => ?_, fun b u e => ?_, by simp⟩
  · exact (sb.2 b (neL b o e)).trans (I.base.keep b o e n hb hx)
  · obtain ⟨sl, e1⟩ := I.base.slot b o e n hb hx
    exact ⟨sl, (sb.2 b (neL b o e)).trans e1⟩
  · obtain ⟨o', e1⟩ := I.base.there b o e hx
    exact ⟨o', (sb.2 b (neL b o e)).trans e1⟩
  · rw [List.getElem?_replicate] at e2
    split at e2 <;> cases e2
  · obtain ⟨v, z⟩ := I.cell x c e
    exact ⟨v, z.sameBut sb (I.cne x c e)⟩
  · obtain ⟨e, n, ne, nf, d⟩ := I.pin p hp
    exact ⟨(sb.2 p.1 ne).trans e, n, ne, nf, d⟩
  · refine (I.hok b u e).stay (fun c v hc q => (sb.2 c ?_).trans q) (fun _ q => q) fun _ _ q => q
    rintro rfl
    rcases hc with z | hc
    · rw [← z, I.free] at e
      cases e
    · rw [I.free] at hc
      cases hc
end

/-! ### try with one clause that always returns -/
def Cx.tried (X : Cx) (pn : List (Addr × Obj)) (R : St → Value → Hp → Prop) : Cx :=
  { X with pn := pn, A := X.A, calm := X.calm, xe := fun x s₁ => ∃ (pins : List (Addr × Obj)) (σ : St) (H : Hp) (s : Shared), Inv { X with pn := pn, xe := X.xe, A := X.A, calm := X.calm } pins σ H s ∧ CXo X.prog X.w X.stack H s (fun cls _ H' => R σ cls H') x s₁ }
def Cx.held (X : Cx) (pn : List (Addr × Obj)) (e : Addr) (oe : Obj) : Cx := { X with pn := pn ++ [(e, oe)], xe := fun _ _ => False, A := X.A.mark (some (.ref e)), calm := false }
def TryR (X : Cx) (c : Value) (i : Nat) (suite : List Stmt) (D : Ends) : St → Value → Hp → Prop := fun σ cls H => PySem.W.exmOne X.K cls c = some true ∧
  ∀ (e : Addr) (oe : Obj) (pn : List (Addr × Obj)), oe.cls = cls → ∃ th, PSs (X.held pn e oe) suite th ∧ th { nx := fun _ _ => False, rt := D.rt } (σ.set i (some (.ref e))) H
def tTry (tb : Ends → TS) : TS := fun D σ H => tb D D σ H
theorem passes_tried {X : Cx} {pn : List (Addr × Obj)} {R : St → Value → Hp → Prop} : PassesX (CXo X.prog X.w) (X.tried pn R) (fun σ cls _ H => R σ cls H) := by
  intro pins σ H s x s' I hx
  exact ⟨pins, σ, H, s, I.re (pn' := pn) (pins' := pins) (xe' := X.xe) (A' := X.A) (c' := X.calm) I.pin I.ok.hd I.ok.frames, hx⟩
theorem looks_ty {M : Model} {h : Heap} {e : Addr} {oe : Obj} {cls : Value} (h1 : h.get? e = some oe) (h2 : oe.cls = cls) : PySem.W.Looks M h (typeOf (.ref e)) cls := h2 ▸ (PySem.W.Looks.ld h1).andThen .now

theorem ps_try {X : Cx} {body : List Stmt} {cx n : Str} {c : Value} {np hpos pos : Pos} {b₀ : Stmt} {suite : List Stmt} {i : Nat} {tb : Ends → TS} (hc : X.calm = true) (hst : X.stack = X.env :: X.outer) (hfr : X.env.frame = some X.env.locals)
    (hN : X.N.Nodup) (hi : X.N[i]? = some n) (hl : X.env.scope.names.lookup n = some .local) (hg : Gl X cx) (hm : X.mg cx = some c) (hb : ∀ D pn, PSs (X.tried pn (TryR X c i (b₀ :: suite) D)) body (tb D))
    (hd : (cx == ("__debug__" : Str)) = false := by decide) : PS X (.Try body [.ExceptHandler (some (.Name cx np)) (some n) (b₀ :: suite) hpos] [] [] pos) (tTry tb) := by
  intro pins s σ H D I h
  have It : Inv (X.tried (X.pn ++ pins) (TryR X c i (b₀ :: suite) D)) [] σ H s := I.re (pins' := []) (fun p hp => I.pin p (by simpa using hp)) I.ok.hd I.ok.frames
  have back : ∀ {σ' : St} {H' : Hp} {s' : Shared}, Inv (X.tried (X.pn ++ pins) (TryR X c i (b₀ :: suite) D)) [] σ' H' s' → Inv X pins σ' H' s' := fun {σ' H' s'} J =>
    J.re (pn' := X.pn) (pins' := pins) (xe' := X.xe) (A' := X.A) (c' := X.calm) (fun p hp => J.pin p (by simpa [Cx.tried] using hp)) J.ok.hd J.ok.frames
  refine wpAny_Try_except (wpAny_mono (hb D (X.pn ++ pins) [] s σ H D It h) (fun f s1 q => ?_) (fun x s1 q => ?_))
  · cases f with
    | next => obtain ⟨σ', H', J, q⟩ := q; exact wpAny_execs_nil ⟨σ', H', back J, q⟩
    | brk => obtain ⟨σ', H', J, q⟩ := q; exact ⟨σ', H', back J, q⟩
    | cont => obtain ⟨σ', H', J, q⟩ := q; exact ⟨σ', H', back J, q⟩
    | ret u => obtain ⟨v, σ', H', J, r, q⟩ := q; exact ⟨v, σ', H', back J, r, q⟩
  · obtain ⟨pins', σ', H1, s0, J0, e, cls, H', rfl, F, os, bare, un, hok, hR⟩ := q
    have J : Inv X pins σ' H1 s0 := J0.re (pn' := X.pn) (pins' := pins) (xe' := X.xe) (A' := X.A) (c' := X.calm) (fun p hp => J0.pin p (List.mem_append_left _ hp)) J0.ok.hd J0.ok.frames
    obtain ⟨⟨oe, ws, T, oT, ts, a0, g1, g2, g3, g4, g5, g6, g7, g8, g9, g10, g11⟩, he, hn⟩ := F
    have J1 : Inv X pins σ' H' s1 := J.call' (ch := []) os un hok bare (fun b hb => absurd hb (by simp))
    have hst1 := J1.stack
    have hmem : ∀ env ∈ X.stack, ∀ a, env.frame = some a → a ∈ e :: T :: frs X.stack := fun env he a ha => List.mem_cons_of_mem _ (List.mem_cons_of_mem _ (List.mem_filterMap.mpr ⟨env, he, ha⟩))
    have hB : ∀ b o, s1.heap.get? b = some o → b ∉ [e, T] → b ∉ frs X.stack → (PySem.W.hideAll s1.heap (e :: T :: frs X.stack)).get? b = some o := fun b o q n1 n2 => PySem.W.hideAll_get _ q (by
      intro z
      rcases List.mem_cons.mp z with z | z
      · exact n1 (by simp [z])
      · rcases List.mem_cons.mp z with z | z
        · exact n1 (by simp [z])
        · exact n2 z)
    have hfl : Heap.FlyingW (PySem.W.hideAll s1.heap (e :: T :: frs X.stack)) X.stack e cls a0 s1.heap :=
      ⟨fun b o q => PySem.W.of_hideAll _ q, PySem.W.hideAll_none _ List.mem_cons_self, PySem.W.funFrames_hide hst1 hmem, oe, ws, T, oT, ts, g1, ⟨g2, g4⟩, g3, g5, PySem.W.hideAll_none _ (List.mem_cons_of_mem _ List.mem_cons_self), g6, g7, g8, g9⟩
    have hoff : ∀ b ∈ [e, T], s0.heap.get? b = none ∧ H' b = none := fun b hb => by
      rcases List.mem_cons.mp hb with rfl | hb
      · exact ⟨hn, he⟩
      · rcases List.mem_cons.mp hb with rfl | hb
        · exact ⟨g11, g10⟩
        · cases hb
    have far : ∀ {h2 : Heap}, Heap.FlyingW (PySem.W.hideAll s1.heap (e :: T :: frs X.stack)) X.stack e cls a0 h2 → s1.heap.UpToSlots h2 → Inv X pins σ' H' { s1 with heap := h2 } := fun {h2} fl up =>
      J.thru os bare un hok [e, T] hoff (fun b o q n1 n2 => fl.1 b o (hB b o q n1 n2)) fun b o q hb => by
        obtain ⟨_, o', e', hd⟩ := hst1.mem hb
        rw [q] at e'
        cases e'
        exact up b o q hd
    rw [hst] at hfl
    refine wpAny_looks_onW (by rw [I.ok.frames, hst]) hfr hfl fun h4 held4 up4 => ?_
    refine wpAny_landsW held4 fun h5 fl5 up5 => ?_
    have I5 : Inv X pins σ' H' { s1 with heap := h5 } := far (by rw [hst]; exact fl5) (up4.trans up5)
    refine wpAny_handleBy_cons (codeAny_handlers_test ?_) (by intro q; cases q)
    have I5' : Inv { X with pn := X.pn, xe := fun _ _ => False, A := X.A.mark (some (.ref e)), calm := false } pins σ' H' { s1 with heap := h5 } := I5.re I5.pin (fun z => absurd z (by decide)) I5.ok.frames
    refine ld_glob I5' hg hm ?_ hd
    obtain ⟨ob5, hob5, hc5⟩ := fl5.there
    refine (PySem.W.exm_one I5.kIn (looks_ty hob5 hc5) hR.1).here ?_
    refine codeAny_handlers_suite_as (lands_againW fl5 fun h6 fl6 up6 => ?_)
    have I6 : Inv X pins σ' H' { s1 with heap := h6 } := far (by rw [hst]; exact fl6) ((up4.trans up5).trans up6)
    obtain ⟨oe6, ws6, k1, k2, k3, _⟩ := fl6.first
    have I6p : Inv (X.held (X.pn ++ pins) e oe6) [] σ' H' { s1 with heap := h6 } := I6.re (fun p hp => by
      rw [List.append_nil] at hp
      rcases List.mem_append.mp hp with hp | hp
      · exact I6.pin p hp
      · have e' : p = (e, oe6) := by simpa using hp
        subst e'
        refine ⟨k1, he, fun z => ?_, fun z => ?_, fun v z => ?_⟩
        · obtain ⟨m, ⟨oL, es, ep, hoL, hdL, _⟩, _⟩ := I6.loc
          have z' : e = X.env.locals := z
          rw [← z', k1] at hoL
          cases hoL
          rw [k3] at hdL
          cases hdL
        · obtain ⟨_, o', e', hd⟩ := I6.funs.mem z
          rw [k1] at e'
          cases e'
          exact hd ws6 k3
        · have z' : oe6.data = .cell v := z
          rw [k3] at z'
          cases z') (fun z => absurd z (by decide)) I6.ok.frames
    refine store_ok (X := X.held (X.pn ++ pins) e oe6) I6p hN hi (.inl hl) (v := .ref e) rfl (fun s7 I7 => ?_) (.inr hl)
    obtain ⟨th, hth, q7⟩ := hR.2 e oe6 (X.pn ++ pins) k2
    refine wpAny_mono (hth [] s7 _ H' _ I7 q7) (fun f s8 q8 => ?_) (fun _ _ z => False.elim z)
    cases f with
    | next => obtain ⟨_, _, _, q⟩ := q8; exact False.elim q
    | brk => obtain ⟨_, _, _, q⟩ := q8; exact False.elim q
    | cont => obtain ⟨_, _, _, q⟩ := q8; exact False.elim q
    | ret u =>
      obtain ⟨v, σ8, H8, I8, rv, q⟩ := q8
      obtain ⟨m, hn8, _⟩ := I8.loc
      refine wpAny_nameGoes hl hn8 (by show (X.env.scope.kind == .class || (X.env.scope.kind == .module && X.env.locals != X.env.globals)) = false; rw [I.ok.kind]; rfl) fun h9 m9 hn9 sb9 => ?_
      have I9 := I8.forget (t' := s8.toks + 1) hn9 sb9
      refine ⟨v, List.replicate X.N.length none, H8, ?_, rv, q⟩
      exact I9.re (pn' := X.pn) (pins' := pins) (xe' := X.xe) (A' := X.A) (c' := X.calm) (fun p hp => I9.pin p (List.mem_append_left _ (List.mem_append_left _ hp))) I.ok.hd I.ok.frames
end L2

set_option Elab.async false
set_option linter.all false
set_option maxRecDepth 100000
set_option maxHeartbeats 4000000
namespace L2
open PySem PySem.Spec PyProof.Rows

/-! ### isinstance -/
def clsV : V → Value
  | .ty n => .type n
  | .ref a => .ref a
  | _ => .none
theorem clsV_rel {c : V} {u : Value} (r : RelV c u) (h : clsV c ≠ .none) : u = clsV c := by
  cases c with
  | ty n => exact r
  | ref a => exact r
  | _ => exact absurd rfl h
theorem call_isi {X : Cx} : CallR X (.builtin "isinstance") (fun xs H Q => ∃ x c t b, xs = [x, c] ∧ TyOf X.K H x t ∧ clsV c ≠ .none ∧ PySem.W.kitOne X.K t (clsV c) = some b ∧ Q (.bl b) H) := by
  intro pins s σ H xs us Q I r h
  obtain ⟨x, c, t, b, rfl, ty, hc, hk, q⟩ := h
  obtain ⟨u, w', rfl, r1, r2⟩ := vals2 r
  rw [clsV_rel r2 hc]
  exact isinst_ok I r1 ty hk fun tk => ⟨.bl b, H, I.tok tk, rfl, q⟩

/-- what the fragment says of an own error class, for isinstance of its objects -/
structure ExcK (K : PySem.W.Frag) (C : Addr) : Prop where
  cl : (PySem.W.clsIn K C).isSome = true
  ga : PySem.W.findIn K (.ref C) "__getattribute__" = some (some (.builtin "BaseException.__getattribute__"))
  gh : PySem.W.findIn K (.ref C) "__getattr__" = some none
  ca : PySem.W.findIn K (.ref C) "__class__" = some (some (.builtin "object.__class__"))
  gt : PySem.W.specialIn K (.builtin "object.__class__") "__get__" = some (some (.builtin "getset_descriptor.__get__"))
  tk : PySem.W.takesIn K (.builtin "object.__class__") = some true
  mo : PySem.W.mroIn K C (.type "object") = some true
  mb : PySem.W.mroIn K C (.type "BaseException") = some true

section
open PySem.Builtin PySem.Builtin.ObjectAttr PySem.Builtin.Getset_descriptor
variable {prog : Program} {w : World} {A : Around} {E : Value → Shared → Prop} {K : PySem.W.Frag} {h : Heap} {g : Array GenState} {d : Drawn} {t : Nat} {os : OsState} {a C : Addr} {o : Obj}
theorem xc_get {R : Result → Shared → Prop} {tp : Value} (X : K.In h) (hx : h.get? a = some o) (hc : o.cls = .ref C) (k : ExcK K C) (hq : R (.ok (.ret (.ref C))) ⟨h, g, d, t, os⟩) :
    codeAny (model prog w) A (.call (.builtin "getset_descriptor.__get__") ⟨[.builtin "object.__class__", .ref a, tp], []⟩) R ⟨h, g, d, t, os⟩ := by
  have L0 : PySem.W.Looks (model prog w) h (typeOf (.ref a)) (.ref C) := looks_ty hx hc
  have L1 := PySem.W.looks_mroIn (M := model prog w) X k.mo
  refine codeAny_call_builtin PySem.W.KF.slot_gs.plain PySem.W.KF.entry_gs (PySem.W.KF.slot_gs.check _ _ _ _ _ _ _ _ PySem.W.KF.type_class (PySem.W.KF.args_gs _ _ _) ?_)
  unfold Builtin.«getset_descriptor.__get__» descrGet
  rw [PySem.W.dga_obj]
  refine wpAny_bind (wpAny_pure ?_)
  unfold descrGetter descrCheckInstance descrNameAndClass isInstance
  simp only [PySem.W.KF.owner_class]
  repeat lk
  refine ⟨Code.quiet_builtin _ (by decide +kernel), codeAny_builtin PySem.W.KF.entry_class ?_⟩
  unfold Builtin.«object.__class__» shownTypeOf
  repeat lk
  exact hq
theorem xc_find {M : Model} (X : K.In h) (k : ExcK K C) : PySem.W.Looks M h (PySem.Builtin.ObjectAttr.find (.ref a) (.ref C) "__class__") (.bind (.builtin "getset_descriptor.__get__") (.builtin "object.__class__")) := by
  have L3 := PySem.W.looks_takesIn (M := M) X k.tk
  refine (PySem.W.looks_findIn (M := M) X k.ca).andThen ((PySem.W.looks_specialIn (M := M) X k.gt).andThen ?_)
  exact (show PySem.W.Looks M h (PySem.Builtin.ObjectAttr.dataDescriptor? (some (.builtin "object.__class__")) (some (.builtin "getset_descriptor.__get__"))) (some (.builtin "getset_descriptor.__get__", .builtin "object.__class__")) from L3.andThen .now).andThen (PySem.W.Looks.tag .now)
theorem xc_entry {tk : Tok} {Q : Fin → Shared → Prop} (X : K.In h) (hx : h.get? a = some o) (hc : o.cls = .ref C) (k : ExcK K C) (hq : Q (.done (.ret (.ref C))) ⟨h, g, d, t, os⟩) :
    wpAny (model prog w) A (Builtin.«object.__getattribute__» ⟨[.ref a, .str "__class__" tk], []⟩) Q E ⟨h, g, d, t, os⟩ := by
  have L0 : PySem.W.Looks (model prog w) h (typeOf (.ref a)) (.ref C) := looks_ty hx hc
  have L1 := xc_find (M := model prog w) (a := a) X k
  refine wpAny_bind (wpAny_pure (wpAny_bind (wpAny_pure (wpAny_bind (L0.at (wpAny_bind (L1.at ?_)))))))
  show wpAny _ _ (holding [.builtin "object.__class__"] (call (.builtin "getset_descriptor.__get__") [.builtin "object.__class__", .ref a, .ref C]) >>= ret) _ _ _
  exact wpAny_bind (wpAny_holding (wpAny_call (xc_get X hx hc k (wpAny_pure hq))))
theorem xc_check {M : Model} {nameV : Value} {Q : Unit → Shared → Prop} (X : K.In h) (hx : h.get? a = some o) (hc : o.cls = .ref C) (k : ExcK K C) (hq : Q () ⟨h, g, d, t, os⟩) :
    wpAny M A (checkBuiltinCall "BaseException.__getattribute__" ⟨[.ref a, nameV], []⟩) Q E ⟨h, g, d, t, os⟩ := by
  have hk : builtinKind "BaseException.__getattribute__" = some .slot := by decide +kernel
  have hs : splitId "BaseException.__getattribute__" = some ("BaseException", "__getattribute__") := by decide +kernel
  have ha := PySem.F.args_bexc_ga (.ref a) nameV
  have LI : PySem.W.Looks M h (isInstance (.ref a) (.type "BaseException")) true := (looks_ty hx hc).andThen (PySem.W.looks_mroIn X k.mb)
  simp only [checkBuiltinCall, hk, hs]
  refine wpAny_bind (LI.at ?_)
  repeat (any_goals (first | assumption | wp_step))
theorem xc_class {Q : Option Value → Shared → Prop} (X : K.In h) (hx : h.get? a = some o) (hc : o.cls = .ref C) (k : ExcK K C) (hq : Q (some (.ref C)) ⟨h, g, d, t + 1, os⟩) :
    wpAny (model prog w) A (getAttr? (.ref a) "__class__") Q E ⟨h, g, d, t, os⟩ := by
  have L0 : PySem.W.Looks (model prog w) h (typeOf (.ref a)) (.ref C) := looks_ty hx hc
  have L1 := PySem.W.looks_findIn (M := model prog w) X k.ga
  have L2 := PySem.W.looks_findIn (M := model prog w) X k.gh
  have f3 := PySem.F.excAttr_ValueError.ga.bind (.ref a)
  have hx2 : (onTheHeap (Value.ref C) && Value.builtin "BaseException.__getattribute__" == Value.builtin "object.__getattribute__") = false := by
    have e : (Value.builtin "BaseException.__getattribute__" == Value.builtin "object.__getattribute__") = false := by decide +kernel
    rw [e]; rfl
  unfold getAttr? getAttrBy? getAttrBy
  refine wpAny_bind (wpAny_mkText (wpAny_bind (wpAny_attempt (wpAny_holding (wpAny_bind (L0.at (wpAny_bind (L1.at ?_))))))))
  dsimp only
  rw [if_neg (by rw [hx2]; exact Bool.false_ne_true)]
  unfold getAttrByItsOwn hookBefore
  rw [if_pos (show onTheHeap (Value.ref C) = true from rfl)]
  refine wpAny_bind (L2.at ?_)
  refine wpAny_bind (wpAny_attempt (wpAny_holding ?_))
  show wpAny _ _ (boundAndCalled (.builtin "BaseException.__getattribute__") (.ref a) (.str "__class__" t)) _ _ _
  unfold boundAndCalled
  refine wpAny_bind (wpAny_of_eq f3 ?_)
  show wpAny _ _ (call (.builtin "BaseException.__getattribute__") [.ref a, .str "__class__" t]) _ _ _
  refine wpAny_call (codeAny_call_builtin PySem.F.excAttr_ValueError.ga.plain PySem.F.entry_bexc_ga (xc_check X hx hc k (xc_entry X hx hc k ?_)))
  exact wpAny_of_eq (PySem.W.handedOut_of rfl) (wpAny_pure hq)
end
theorem kitx_exc {K : PySem.W.Frag} {e C : Addr} (k : ExcK K C) : PySem.W.KitX K (.ref e) (.ref C) (fun h => ∃ oe, h.get? e = some oe ∧ oe.cls = .ref C) where
  ty := fun _ _ _ ⟨_, h1, h2⟩ => looks_ty h1 h2
  it := fun M h X _ => by
    have hc := k.cl
    unfold PySem.W.clsIn at hc
    split at hc
    · rename_i c' d' cd' sl' ho
      intro A' Q' E' s' kk q
      unfold isType loadHead
      exact wpAny_bind (wpAny_loadPart (kk _ _ (X _ _ ho)) (wpAny_pure q))
    · cases hc
  ne := fun h tp dd its n sl X htp => by
    refine Bool.eq_false_iff.mpr fun q => ?_
    have e : C = tp := Value.ref.inj (beq_iff_eq.mp q)
    subst e
    have hc := k.cl
    unfold PySem.W.clsIn at hc
    split at hc
    · rename_i c' d' cd' sl' ho
      have z := (X _ _ ho).symm.trans htp
      cases z
    · cases hc
  ca := fun {_ _ _ _ _ s} X ⟨oe, h1, h2⟩ q => by
    obtain ⟨hh, g, d, t, os⟩ := s
    exact xc_class X h1 h2 k q
theorem call_isiX {X : Cx} : CallR X (.builtin "isinstance") (fun xs H Q => ∃ (a : Addr) (oe : Obj) (C : Addr) (c : V) (b : Bool), xs = [.ref a, c] ∧ (a, oe) ∈ X.pn ∧ oe.cls = .ref C ∧ ExcK X.K C ∧ clsV c ≠ .none ∧ PySem.W.kitOne X.K (.ref C) (clsV c) = some b ∧ Q (.bl b) H) := by
  intro pins s σ H xs us Q I r h
  obtain ⟨a, oe, C, c, b, rfl, hp, hc, k, hn, hk, q⟩ := h
  obtain ⟨u, w', rfl, r1, r2⟩ := vals2 r
  cases r1
  rw [clsV_rel r2 hn]
  have hpin := (I.pin (a, oe) (List.mem_append_left _ hp)).1
  exact PySem.W.kia_one (kitx_exc k) I.kIn ⟨oe, hpin, hc⟩ hk (fun z => nomatch z) fun tk => ⟨.bl b, H, I.tok tk, rfl, q⟩
end L2

set_option Elab.async false
set_option linter.all false
set_option maxRecDepth 100000
set_option maxHeartbeats 4000000
namespace L2
open PySem PySem.Spec PyProof.Rows

/-! ### all, any over a list of bools -/
theorem Vals.at {xs : List V} {us : List Value} {i : Nat} {u : Value} (r : Vals xs us) (h : us[i]? = some u) : ∃ x, xs[i]? = some x ∧ RelV x u := by
  have hl := r.length
  have hi : i < us.length := (List.getElem?_eq_some_iff.mp h).1
  have hx : xs[i]? = some (xs[i]'(by omega)) := List.getElem?_eq_getElem (by omega)
  obtain ⟨u', h1, h2⟩ := r.get hx
  rw [h] at h1
  cases h1
  exact ⟨_, hx, h2⟩
theorem all_range {bs : List Bool} : (List.range bs.length).all (fun i => (bs[i]?).getD false) = bs.all id := by
  rw [Bool.eq_iff_iff, List.all_eq_true, List.all_eq_true]
  constructor
  · intro h b hb
    obtain ⟨i, hi, e⟩ := List.mem_iff_getElem.mp hb
    have := h i (List.mem_range.mpr hi)
    rw [List.getElem?_eq_getElem hi] at this
    rw [← e]
    exact this
  · intro h i hi
    have hi' := List.mem_range.mp hi
    rw [List.getElem?_eq_getElem hi']
    exact h _ (List.getElem_mem hi')
theorem any_range {bs : List Bool} : (List.range bs.length).any (fun i => (bs[i]?).getD false) = bs.any id := by
  rw [Bool.eq_iff_iff, List.any_eq_true, List.any_eq_true]
  constructor
  · rintro ⟨i, hi, h⟩
    have hi' := List.mem_range.mp hi
    rw [List.getElem?_eq_getElem hi'] at h
    exact ⟨_, List.getElem_mem hi', h⟩
  · rintro ⟨b, hb, h⟩
    obtain ⟨i, hi, e⟩ := List.mem_iff_getElem.mp hb
    refine ⟨i, List.mem_range.mpr hi, ?_⟩
    rw [List.getElem?_eq_getElem hi, e]
    exact h
section
variable {X : Cx}
theorem bools_truth {A : Around} {prog : Program} {w : World} {bs : List Bool} {its : List Value} (r : Vals (bs.map V.bl) its) : TruthOf prog w A (fun i v => its.toArray[i]? = some v) (fun i => (bs[i]?).getD false) := by
  intro i v s Q E hP hQ
  obtain ⟨x, hx, rx⟩ := r.at (i := i) (u := v) (by simpa using hP)
  rw [List.getElem?_map] at hx
  cases e : bs[i]? with
  | none => rw [e] at hx; cases hx
  | some b =>
    rw [e] at hx
    cases hx
    cases rx
    have hQ : Q ((bs[i]?).getD false) s := hQ
    rw [e] at hQ
    exact wpAny_truthy_bool hQ
theorem call_all (hc : X.calm = true) : CallR X (.builtin "all") (fun xs H Q => ∃ (p : Addr) (bs : List Bool), xs = [.ref p] ∧ SqL X.K H p (bs.map V.bl) ∧ Q (.bl (bs.all id)) H) := by
  intro pins s σ H xs us Q I r h
  obtain ⟨p, bs, rfl, hq, q⟩ := h
  obtain ⟨u, rfl, rx⟩ := vals1 r
  cases rx
  obtain ⟨its, r', pl, hz⟩ := I.list hq
  obtain ⟨ol, hol, hol'⟩ := pl.isList
  have hlt : p < s.heap.objs.size := Heap.lt_size hol
  refine call_all_walk (wpAny_pyIter_list pl.isList ⟨s.heap.objs.size, _, _, _, _, _, fun i => (bs[i]?).getD false, rfl, Walks.list (A := X.A.in1) (show X.A.in1.handled = none from I.ok.hd hc) s.heap.objs.size p (Nat.ne_of_lt hlt) its.toArray, ⟨⟨_, Heap.get?_push_size _ rfl, rfl, rfl⟩, ⟨ol, Heap.get?_push_of_some _ hol, hol'⟩⟩, bools_truth r', fun h' tk hk => ?_⟩)
  refine ⟨.bl _, H, I.kept (t' := tk) (fun b o e => hk b o (by simpa using Nat.ne_of_lt (Heap.lt_size e)) (Heap.get?_push_of_some _ e)), rfl, ?_⟩
  have e : its.toArray.size = bs.length := by rw [List.size_toArray, ← r'.length, List.length_map]
  rw [e, all_range]
  exact q
theorem call_any (hc : X.calm = true) : CallR X (.builtin "any") (fun xs H Q => ∃ (p : Addr) (bs : List Bool), xs = [.ref p] ∧ SqL X.K H p (bs.map V.bl) ∧ Q (.bl (bs.any id)) H) := by
  intro pins s σ H xs us Q I r h
  obtain ⟨p, bs, rfl, hq, q⟩ := h
  obtain ⟨u, rfl, rx⟩ := vals1 r
  cases rx
  obtain ⟨its, r', pl, hz⟩ := I.list hq
  obtain ⟨ol, hol, hol'⟩ := pl.isList
  have hlt : p < s.heap.objs.size := Heap.lt_size hol
  refine call_any_walk (wpAny_pyIter_list pl.isList ⟨s.heap.objs.size, _, _, _, _, _, fun i => (bs[i]?).getD false, rfl, Walks.list (A := X.A.in1) (show X.A.in1.handled = none from I.ok.hd hc) s.heap.objs.size p (Nat.ne_of_lt hlt) its.toArray, ⟨⟨_, Heap.get?_push_size _ rfl, rfl, rfl⟩, ⟨ol, Heap.get?_push_of_some _ hol, hol'⟩⟩, bools_truth r', fun h' tk hk => ?_⟩)
  refine ⟨.bl _, H, I.kept (t' := tk) (fun b o e => hk b o (by simpa using Nat.ne_of_lt (Heap.lt_size e)) (Heap.get?_push_of_some _ e)), rfl, ?_⟩
  have e : its.toArray.size = bs.length := by rw [List.size_toArray, ← r'.length, List.length_map]
  rw [e, any_range]
  exact q
end

/-! ### zip of two lists -/
def Itz (K : PySem.W.Frag) (a b : Addr) : It :=
  ⟨fun i H => ∃ xs ys x y, SqL K H a xs ∧ SqL K H b ys ∧ xs[i]? = some x ∧ ys[i]? = some y,
   fun i H v H' => ∃ T x y, v = .ref T ∧ H T = none ∧ H' = upd H T (.tup [x, y]) ∧ (∀ xs, SqL K H a xs → xs[i]? = some x) ∧ ∀ ys, SqL K H b ys → ys[i]? = some y,
   fun i H => ∃ xs ys, SqL K H a xs ∧ SqL K H b ys ∧ (xs.length ≤ i ∨ ys.length ≤ i)⟩
def zipTn (a b z TI TO i1 i2 : Addr) (i : Nat) (h : Heap) : Prop := IsZip h z TI TO .none ∧ IsPair h TI (.ref i1) (.ref i2) ∧ (∃ p q, IsPair h TO p q) ∧ h.IsListIter i1 a i ∧ h.IsListIter i2 b i
theorem zip_inv {X : Cx} {pins : List (Addr × Obj)} {σ : St} {H : Hp} {s : Shared} {fp ch : List Addr} {h' : Heap} (I : Inv X pins σ H s) (hf : ∀ b ∈ fp, FpOk X pins H b) (hch : ∀ b ∈ ch, b ∈ fp) (k : ∀ c o, c ∉ ch → s.heap.get? c = some o → h'.get? c = some o) :
    Inv X pins σ H { s with heap := h' } := by
  have nt : ∀ b u, H b = some u → b ∉ ch := fun b u e z => by
    rw [(hf b (hch b z)).1] at e
    cases e
  refine I.step (g' := s.gens) (d' := s.drawn) (t' := s.toks) (ch := ch) (fun b hb => ?_) (fun b o _ _ hc e _ => k b o hc e) (fun b o _ _ hc e _ => ⟨o.slots, k b o hc e⟩) (fun _ _ _ _ n => n) (fun b o hc e => ⟨o, k b o hc e⟩) (fun _ _ e => e) (fun _ _ _ e => e) (fun b ps e => ⟨#[], by rw [e]; simp⟩) (fun m hm => ?_) (fun b u e => ?_) I.bare
  · have f := hf b (hch b hb)
    exact ⟨f.2.2.2.1, f.2.1, f.2.2.2.2.1, f.2.2.2.2.2⟩
  · obtain ⟨o, es, ep, ho, r⟩ := hm
    exact ⟨o, es, ep, k _ o (fun z => (hf _ (hch _ z)).2.1 rfl) ho, r⟩
  · refine (I.hok b u e).stay (fun c v hc q => k c v ?_ q) (fun _ q => q) fun _ _ q => q
    rcases hc with rfl | hc
    · exact nt _ _ e
    · exact nt _ _ hc
theorem turn_zip {P : Program} {w : World} {K : PySem.W.Frag} {elts : List Expr} {kk : Nat} {tp : Pos} (a b z TI TO i1 i2 : Addr) (D : ZipApart z TI TO i1 i2 a b) :
    Turn P w K (.Tuple elts kk tp) (Itz K a b) [z, TI, TO, i1, i2] z (zipTn a b z TI TO i1 i2) where
  mem := by simp
  obj := fun i h st c hc => by
    obtain ⟨h1, h2, ⟨p, q, h3⟩, ⟨o4, e4, _, d4⟩, ⟨o5, e5, _, d5⟩⟩ := st
    simp only [List.mem_cons, List.not_mem_nil, or_false] at hc
    rcases hc with rfl | rfl | rfl | rfl | rfl
    · exact ⟨_, h1, fun v z => nomatch z⟩
    · exact ⟨_, h2, fun v z => nomatch z⟩
    · exact ⟨_, h3, fun v z => nomatch z⟩
    · exact ⟨o4, e4, fun v z => by rw [d4] at z; cases z⟩
    · exact ⟨o5, e5, fun v z => by rw [d5] at z; cases z⟩
  keep := fun i h h' st k => by
    obtain ⟨h1, h2, ⟨p, q, h3⟩, h4, h5⟩ := st
    exact ⟨k z (by simp) _ h1, k TI (by simp) _ h2, ⟨p, q, k TO (by simp) _ h3⟩, h4.at fun o e => k i1 (by simp) o e, h5.at fun o e => k i2 (by simp) o e⟩
  item := by
    intro X hP hw hK hc i pins s σ H E I hf st hg
    subst hP hw hK
    obtain ⟨h1, h2, ⟨p, q, h3⟩, h4, h5⟩ := st
    obtain ⟨xs, ys, x, y, hq1, hq2, hx, hy⟩ := hg
    obtain ⟨its1, rv1, p1, hz1⟩ := I.list hq1
    obtain ⟨its2, rv2, p2, hz2⟩ := I.list hq2
    obtain ⟨u1, hu1, ru1⟩ := rv1.get hx
    obtain ⟨u2, hu2, ru2⟩ := rv2.get hy
    refine wpAny_pyNext_zip_item D h1 h2 h3 h4 h5 p1.isList p2.isList (x := u1) (y := u2) (by simpa using hu1) (by simpa using hu2) fun h' a1 a2 a3 a4 a5 a6 a7 => ?_
    refine ⟨_, rfl, wpAny_letOwnedTupleGo_zip a1 fun h'' b1 bs => ?_⟩
    have hnz : s.heap.objs.size ≠ z := Nat.ne_of_gt (Heap.lt_size h1)
    have hT : IsPair h'' s.heap.objs.size u1 u2 := (bs.2 _ hnz).trans a5
    have kk : ∀ c o, c ∉ [z, TO, i1, i2] → s.heap.get? c = some o → h''.get? c = some o := fun c o hc e => by
      simp only [List.mem_cons, List.not_mem_nil, or_false, not_or] at hc
      exact (bs.2 c hc.1).trans (a7 c o hc.1 hc.2.1 hc.2.2.1 hc.2.2.2 e)
    have hfr : H s.heap.objs.size = none := I.hok.fresh (Nat.le_refl _)
    have nt : ∀ c v, H c = some v → c ∉ [z, TO, i1, i2] ∧ c ≠ s.heap.objs.size := fun c v e => by
      refine ⟨fun hc => ?_, ne_of_none e hfr⟩
      have hm : c ∈ [z, TI, TO, i1, i2] := by
        simp only [List.mem_cons, List.not_mem_nil, or_false] at hc ⊢
        rcases hc with h | h | h | h <;> simp [h]
      rw [(hf c hm).1] at e
      cases e
    have sub : ∀ c ∈ [z, TO, i1, i2], c ∈ [z, TI, TO, i1, i2] := fun c hc => by
      simp only [List.mem_cons, List.not_mem_nil, or_false] at hc ⊢
      rcases hc with h | h | h | h <;> simp [h]
    have lt : ∀ c o, s.heap.get? c = some o → c ≠ s.heap.objs.size := fun c o e => Nat.ne_of_lt (Heap.lt_size e)
    have I2 : Inv X pins σ (upd H s.heap.objs.size (.tup [x, y])) { s with heap := h'' } := by
      refine I.step (g' := s.gens) (d' := s.drawn) (t' := s.toks) (ch := [z, TO, i1, i2]) (fun c hc => ?_) (fun c o _ _ hc e _ => kk c o hc e) (fun c o _ _ hc e _ => ⟨o.slots, kk c o hc e⟩) (fun c o _ e n => by rw [upd_ne (lt c o e)]; exact n)
        (fun c o hc e => ⟨o, kk c o hc e⟩) (fun c zs e => by rw [upd_ne (nt c _ e).2]; exact e) (fun c o v e => by rw [upd_ne (nt c _ e).2]; exact e) (fun c ps e => ⟨#[], by rw [upd_ne (nt c _ e).2, e]; simp⟩) (fun m hm => ?_) (fun c v e => ?_) I.bare
      · have f := hf c (sub c hc)
        exact ⟨f.2.2.2.1, f.2.1, f.2.2.2.2.1, f.2.2.2.2.2⟩
      · obtain ⟨o, es, ep, ho, r⟩ := hm
        exact ⟨o, es, ep, kk _ o (fun c => (hf _ (sub _ c)).2.1 rfl) ho, r⟩
      · by_cases hc : c = s.heap.objs.size
        · subst hc
          rw [upd_same] at e
          cases e
          exact ⟨by show 2 ≤ sizeLine; decide, [u1, u2], .cons ru1 (.cons ru2 .nil), _, hT, rfl, 0, rfl⟩
        · rw [upd_ne hc] at e
          refine (I.hok c v e).stay (fun c' v' hc' q => kk c' v' ?_ q) (fun c' q => by rw [upd_ne (nt c' _ q).2]; exact q) fun c' zs q => by rw [upd_ne (nt c' _ q).2]; exact q
          rcases hc' with rfl | hc'
          · exact (nt _ _ e).1
          · exact (nt _ _ hc').1
    refine ⟨.ref s.heap.objs.size, _, I2, rfl, ⟨_, x, y, rfl, hfr, rfl, fun zs hq => ?_, fun zs hq => ?_⟩, ⟨b1, ?_, ⟨u1, u2, (bs.2 _ D.TOz).trans a2⟩, a3.at fun o e => (bs.2 _ D.i1z).trans e, a4.at fun o e => (bs.2 _ D.i2z).trans e⟩, fun c hc => ?_⟩
    · rw [I.list_inj hq hq1]
      exact hx
    · rw [I.list_inj hq hq2]
      exact hy
    · exact (bs.2 _ D.TIz).trans (a7 _ _ D.TIz D.TITO D.TIi1 D.TIi2 h2)
    · obtain ⟨o, e⟩ : ∃ o, s.heap.get? c = some o := by
        simp only [List.mem_cons, List.not_mem_nil, or_false] at hc
        obtain ⟨o4, e4, _⟩ := h4
        obtain ⟨o5, e5, _⟩ := h5
        rcases hc with rfl | rfl | rfl | rfl | rfl
        · exact ⟨_, h1⟩
        · exact ⟨_, h2⟩
        · exact ⟨_, h3⟩
        · exact ⟨_, e4⟩
        · exact ⟨_, e5⟩
      rw [upd_ne (lt c o e)]
      exact (hf c hc).1
  done := by
    intro X hP hw hK hc i pins s σ H E I hf st hg
    subst hP hw hK
    obtain ⟨h1, h2, ⟨p, q, h3⟩, h4, h5⟩ := st
    obtain ⟨xs, ys, hq1, hq2, hend⟩ := hg
    obtain ⟨its1, rv1, p1, hz1⟩ := I.list hq1
    obtain ⟨its2, rv2, p2, hz2⟩ := I.list hq2
    have l1 := rv1.length
    have l2 := rv2.length
    refine wpAny_pyNext_zip_end (I.ok.hd hc) D h1 h2 h3 h4 h5 p1.isList p2.isList (by
      rcases hend with z | z
      · exact .inl (by simp; omega)
      · exact .inr (by simp; omega)) fun h' hk => ⟨rfl, ?_⟩
    refine zip_inv (ch := [z, TO, i1, i2]) I hf (fun c hc => ?_) fun c o hc e => ?_
    · simp only [List.mem_cons, List.not_mem_nil, or_false] at hc ⊢
      rcases hc with h | h | h | h <;> simp [h]
    · simp only [List.mem_cons, List.not_mem_nil, or_false, not_or] at hc
      exact hk c o hc.1 hc.2.1 hc.2.2.1 hc.2.2.2 e
  self := fun _ _ _ _ _ st h => wpAny_pyIter_zip st.1 h
def iZip (K : PySem.W.Frag) (ta : TA) : TI := fun σ H R => ta σ H fun vs H1 => ∃ a b, vs = [.ref a, .ref b] ∧ (∃ xs, SqL K H1 a xs) ∧ (∃ ys, SqL K H1 b ys) ∧ R (Itz K a b) H1
theorem boot_zipT : bootBuiltins "zip" = some (.type "zip") := by decide +kernel
theorem pi_zip {X : Cx} {elts : List Expr} {kk : Nat} {tp : Pos} {e1 e2 : Expr} {ta : TA} {p pos : Pos} (hg : Gl X "zip") (hm : X.mg "zip" = none) (ha : PA X [e1, e2] ta) (hs : starEach [e1, e2] X.env = [(false, eval e1 X.env), (false, eval e2 X.env)] := by rfl)
    (hs2 : starEach [e2] X.env = [(false, eval e2 X.env)] := by rfl) : PI X (.Tuple elts kk tp) (.Call (.Name "zip" p) [e1, e2] [] pos) (iZip X.K ta) := by
  intro pins s σ H R I h
  refine Call_ (ld_blt I hg hm boot_zipT (PyProof.Rows.callWith_type1 (thn (ha pos pins s σ H _ I h) fun us s1 ⟨vs, H1, I1, r1, q1⟩ => ?_) (by rw [hs, hs2]) (by rw [hs2]; rfl)))
  obtain ⟨a, b, e, ⟨xs, hq1⟩, ⟨ys, hq2⟩, q⟩ := q1
  subst e
  obtain ⟨u, w', rfl, ru, rw'⟩ := vals2 r1
  cases ru
  cases rw'
  obtain ⟨its1, rv1, p1, hz1⟩ := I1.list hq1
  obtain ⟨its2, rv2, p2, hz2⟩ := I1.list hq2
  have lt1 : a < s1.heap.objs.size := by obtain ⟨_, e, _⟩ := p1.isList; exact Heap.lt_size e
  have lt2 : b < s1.heap.objs.size := by obtain ⟨_, e, _⟩ := p2.isList; exact Heap.lt_size e
  refine call_zip_2 p1.isList p2.isList fun h' g1 g2 g3 g4 g5 g6 g7 => wpAny_pyIter_zip g1 ?_
  have I2 : Inv X pins σ H1 { s1 with heap := h' } := I1.kept (t' := s1.toks) g7
  refine ⟨s1.heap.objs.size + 4, [s1.heap.objs.size + 4, s1.heap.objs.size + 2, s1.heap.objs.size + 3, s1.heap.objs.size, s1.heap.objs.size + 1], _, _, H1, rfl, I2, turn_zip a b _ _ _ _ _ (zipApart_new lt1 lt2), ⟨g1, g2, ⟨_, _, g3⟩, g4, g5⟩, fun c hc => ?_, q⟩
  have le : s1.heap.objs.size ≤ c := by
    simp only [List.mem_cons, List.not_mem_nil, or_false] at hc
    rcases hc with rfl | rfl | rfl | rfl | rfl
    · exact Nat.le_add_right _ _
    · exact Nat.le_add_right _ _
    · exact Nat.le_add_right _ _
    · exact Nat.le_refl _
    · exact Nat.le_add_right _ _
  exact I1.fpOk le (I1.hok.fresh le)

/-! ### == of nested lists and tuples -/
inductive Dt where
  | non | bl (b : Bool) | int (i : Int) | str (x : Str) | lst (l : List Dt) | tup (l : List Dt)
mutual
def HasD (K : PySem.W.Frag) (H : Hp) : Dt → V → Prop
  | .non, v => v = .non
  | .bl b, v => v = .bl b
  | .int i, v => v = .int i
  | .str x, v => v = .str x
  | .lst l, v => ∃ a xs, v = .ref a ∧ SqL K H a xs ∧ HasDs K H l xs
  | .tup l, v => ∃ a xs, v = .ref a ∧ SqT K H a xs ∧ HasDs K H l xs
def HasDs (K : PySem.W.Frag) (H : Hp) : List Dt → List V → Prop
  | [], xs => xs = []
  | d :: l, xs => ∃ x r, xs = x :: r ∧ HasD K H d x ∧ HasDs K H l r
end
mutual
def dpD : Dt → Nat
  | .lst l => dpDs l + 1
  | .tup l => dpDs l + 1
  | _ => 0
def dpDs : List Dt → Nat
  | [] => 0
  | d :: l => max (dpD d) (dpDs l)
end
theorem HasDs.len {K : PySem.W.Frag} {H : Hp} : ∀ {l : List Dt} {xs : List V}, HasDs K H l xs → xs.length = l.length
  | [], _, h => by rw [show _ = [] from h]; rfl
  | d :: l, _, h => by
    obtain ⟨x, r, rfl, _, h2⟩ := h
    rw [List.length_cons, List.length_cons, HasDs.len h2]
section
variable {X : Cx} {pins : List (Addr × Obj)} {σ : St} {H : Hp} {s : Shared}
theorem all_tt (n : Nat) : ((List.range n).all fun _ => true) = true := List.all_eq_true.mpr fun _ _ => rfl
theorem rc_lstOf {A : Around} {a b : Addr} {xs ys : List V} (I : Inv X pins σ H s) (hq : SqL X.K H a xs) (hq' : SqL X.K H b ys) (hl : xs.length = ys.length) (hu : A.units < cLine)
    (he : ∀ {us vs : List Value}, Vals xs us → Vals ys vs → ∀ (j : Nat) (h1 : j < us.toArray.size) (h2 : j < vs.toArray.size), SeqAt.EqAt A.in1 s us.toArray[j] vs.toArray[j] true) : SeqAt.RcAt A s (.ref a) (.ref b) true := by
  obtain ⟨its, r, pl, hz⟩ := I.list hq
  obtain ⟨its', r', pl', hz'⟩ := I.list hq'
  have e1 := r.length
  have e2 := r'.length
  have := SeqAt.RcAt.lists (A := A) (e := fun _ => true) pl.isList pl'.isList (by simp; omega) hu (he r r')
  rw [all_tt] at this
  exact this
theorem rc_tupOf {A : Around} {a b : Addr} {xs ys : List V} (I : Inv X pins σ H s) (hq : SqT X.K H a xs) (hq' : SqT X.K H b ys) (hl : xs.length = ys.length) (hu : A.units < cLine)
    (he : ∀ {us vs : List Value}, Vals xs us → Vals ys vs → ∀ (j : Nat) (h1 : j < us.toArray.size) (h2 : j < vs.toArray.size), SeqAt.EqAt A.in1 s us.toArray[j] vs.toArray[j] true) : SeqAt.RcAt A s (.ref a) (.ref b) true := by
  obtain ⟨its, r, pl, hz⟩ := I.tuple hq
  obtain ⟨its', r', pl', hz'⟩ := I.tuple hq'
  have e1 := r.length
  have e2 := r'.length
  have e5 : its.length = its'.length := by omega
  have := SeqAt.RcAt.tuples (A := A) (e := fun _ => true) pl pl' hu (he r r')
  rw [all_tt] at this
  simpa [e5] using this
theorem rn_lstOf {A : Around} {a b : Addr} {xs ys : List V} (I : Inv X pins σ H s) (hq : SqL X.K H a xs) (hq' : SqL X.K H b ys) (hl : xs.length = ys.length) (hu : A.units < cLine)
    (he : ∀ {us vs : List Value}, Vals xs us → Vals ys vs → ∀ (j : Nat) (h1 : j < us.toArray.size) (h2 : j < vs.toArray.size), SeqAt.EqAt A.in1 s us.toArray[j] vs.toArray[j] true) : SeqAt.RcNeAt A s (.ref a) (.ref b) false := by
  obtain ⟨its, r, pl, hz⟩ := I.list hq
  obtain ⟨its', r', pl', hz'⟩ := I.list hq'
  have e1 := r.length
  have e2 := r'.length
  have := SeqAt.RcNeAt.lists (A := A) (e := fun _ => true) pl.isList pl'.isList (by simp; omega) hu (he r r')
  rw [all_tt] at this
  exact this
theorem rn_tupOf {A : Around} {a b : Addr} {xs ys : List V} (I : Inv X pins σ H s) (hq : SqT X.K H a xs) (hq' : SqT X.K H b ys) (hl : xs.length = ys.length) (hu : A.units < cLine)
    (he : ∀ {us vs : List Value}, Vals xs us → Vals ys vs → ∀ (j : Nat) (h1 : j < us.toArray.size) (h2 : j < vs.toArray.size), SeqAt.EqAt A.in1 s us.toArray[j] vs.toArray[j] true) : SeqAt.RcNeAt A s (.ref a) (.ref b) false := by
  obtain ⟨its, r, pl, hz⟩ := I.tuple hq
  obtain ⟨its', r', pl', hz'⟩ := I.tuple hq'
  have e1 := r.length
  have e2 := r'.length
  have e5 : its.length = its'.length := by omega
  have := SeqAt.RcNeAt.tuples (A := A) (e := fun _ => true) pl pl' hu (he r r')
  rw [all_tt] at this
  simpa [e5] using this
mutual
theorem eq_same (I : Inv X pins σ H s) : ∀ (d : Dt) {A : Around} {x y : V} {u v : Value}, HasD X.K H d x → HasD X.K H d y → RelV x u → RelV y v → A.units + dpD d < cLine → SeqAt.EqAt A s u v true
  | .non, A, x, y, u, v, hx, hy, rx, ry, hu => by
    cases (show x = _ from hx); cases (show y = _ from hy); cases rx; cases ry
    exact SeqAt.EqAt.same _
  | .bl b, A, x, y, u, v, hx, hy, rx, ry, hu => by
    cases (show x = _ from hx); cases (show y = _ from hy); cases rx; cases ry
    exact SeqAt.EqAt.same _
  | .int i, A, x, y, u, v, hx, hy, rx, ry, hu => by
    cases (show x = _ from hx); cases (show y = _ from hy)
    obtain ⟨t, rfl⟩ := rx
    obtain ⟨t', rfl⟩ := ry
    have := SeqAt.EqAt.int_int (A := A) (s := s) i t i t'
    rw [beq_self_eq_true] at this
    exact this
  | .str z, A, x, y, u, v, hx, hy, rx, ry, hu => by
    cases (show x = _ from hx); cases (show y = _ from hy)
    obtain ⟨t, rfl⟩ := rx
    obtain ⟨t', rfl⟩ := ry
    have := SeqAt.EqAt.str_str (A := A) (s := s) z t z t'
    rw [beq_self_eq_true] at this
    exact this
  | .lst l, A, x, y, u, v, hx, hy, rx, ry, hu => by
    obtain ⟨a, xs, rfl, hq, hd⟩ := hx
    obtain ⟨b, ys, rfl, hq', hd'⟩ := hy
    cases rx
    cases ry
    by_cases hab : a = b
    · subst hab; exact SeqAt.EqAt.same _
    · exact SeqAt.EqAt.of_refs hab (rc_lstOf I hq hq' (by rw [hd.len, hd'.len]) (by omega) fun r r' => eq_sames I l hd hd' r r' (by unfold dpD at hu; show A.units + 1 + dpDs l < cLine; omega))
  | .tup l, A, x, y, u, v, hx, hy, rx, ry, hu => by
    obtain ⟨a, xs, rfl, hq, hd⟩ := hx
    obtain ⟨b, ys, rfl, hq', hd'⟩ := hy
    cases rx
    cases ry
    by_cases hab : a = b
    · subst hab; exact SeqAt.EqAt.same _
    · exact SeqAt.EqAt.of_refs hab (rc_tupOf I hq hq' (by rw [hd.len, hd'.len]) (by omega) fun r r' => eq_sames I l hd hd' r r' (by unfold dpD at hu; show A.units + 1 + dpDs l < cLine; omega))
theorem eq_sames (I : Inv X pins σ H s) : ∀ (l : List Dt) {A : Around} {xs ys : List V} {us vs : List Value}, HasDs X.K H l xs → HasDs X.K H l ys → Vals xs us → Vals ys vs → A.units + dpDs l < cLine →
    ∀ (j : Nat) (h1 : j < us.toArray.size) (h2 : j < vs.toArray.size), SeqAt.EqAt A s us.toArray[j] vs.toArray[j] true
  | [], A, xs, ys, us, vs, hx, hy, rx, ry, hu => by
    cases (show xs = _ from hx)
    cases rx
    intro j h1 h2
    exact absurd h1 (by simp)
  | d :: l, A, xs, ys, us, vs, hx, hy, rx, ry, hu => by
    obtain ⟨x, r, rfl, hx1, hx2⟩ := hx
    obtain ⟨y, r', rfl, hy1, hy2⟩ := hy
    cases rx with
    | cons rx rxs =>
      cases ry with
      | cons ry rys =>
        have m1 : dpD d ≤ dpDs (d :: l) := by unfold dpDs; exact Nat.le_max_left _ _
        have m2 : dpDs l ≤ dpDs (d :: l) := by conv => rhs; unfold dpDs
                                               exact Nat.le_max_right _ _
        intro j h1 h2
        cases j with
        | zero => exact eq_same I d hx1 hy1 rx ry (by omega)
        | succ j =>
          have := eq_sames I l (A := A) hx2 hy2 rxs rys (by omega) j (by simpa using h1) (by simpa using h2)
          simpa using this
end
end
/-- == of two that read alike: True -/
def rSame (K : PySem.W.Frag) (A : Around) (k : Bool) : R2 := fun x y H Q => ∃ d, HasD K H d x ∧ HasD K H d y ∧ 0 < dpD d ∧ A.units + dpD d < cLine ∧ Q (.bl k) H
theorem op_eqD {X : Cx} : OpR X (compareOp .Eq) (rSame X.K X.A true) := by
  intro pins s σ H x y v u Q I rx ry h
  obtain ⟨d, hx, hy, h0, hu, q⟩ := h
  cases d with
  | lst l =>
    obtain ⟨a, xs, rfl, hq, hd⟩ := hx
    obtain ⟨b, ys, rfl, hq', hd'⟩ := hy
    cases rx
    cases ry
    exact (rc_lstOf I hq hq' (by rw [hd.len, hd'.len]) (by omega) fun r r' => eq_sames I l hd hd' r r' (by unfold dpD at hu; show X.A.units + 1 + dpDs l < cLine; omega)) _ _ _ _ ⟨.bl true, H, I, rfl, q⟩
  | tup l =>
    obtain ⟨a, xs, rfl, hq, hd⟩ := hx
    obtain ⟨b, ys, rfl, hq', hd'⟩ := hy
    cases rx
    cases ry
    exact (rc_tupOf I hq hq' (by rw [hd.len, hd'.len]) (by omega) fun r r' => eq_sames I l hd hd' r r' (by unfold dpD at hu; show X.A.units + 1 + dpDs l < cLine; omega)) _ _ _ _ ⟨.bl true, H, I, rfl, q⟩
  | _ => exact absurd h0 (by unfold dpD; decide)
theorem op_neD {X : Cx} : OpR X (compareOp .NotEq) (rSame X.K X.A false) := by
  intro pins s σ H x y v u Q I rx ry h
  obtain ⟨d, hx, hy, h0, hu, q⟩ := h
  cases d with
  | lst l =>
    obtain ⟨a, xs, rfl, hq, hd⟩ := hx
    obtain ⟨b, ys, rfl, hq', hd'⟩ := hy
    cases rx
    cases ry
    exact (rn_lstOf I hq hq' (by rw [hd.len, hd'.len]) (by omega) fun r r' => eq_sames I l hd hd' r r' (by unfold dpD at hu; show X.A.units + 1 + dpDs l < cLine; omega)) _ _ _ _ ⟨.bl false, H, I, rfl, q⟩
  | tup l =>
    obtain ⟨a, xs, rfl, hq, hd⟩ := hx
    obtain ⟨b, ys, rfl, hq', hd'⟩ := hy
    cases rx
    cases ry
    exact (rn_tupOf I hq hq' (by rw [hd.len, hd'.len]) (by omega) fun r r' => eq_sames I l hd hd' r r' (by unfold dpD at hu; show X.A.units + 1 + dpDs l < cLine; omega)) _ _ _ _ ⟨.bl false, H, I, rfl, q⟩
  | _ => exact absurd h0 (by unfold dpD; decide)
theorem yes_if {τ : St} {H : Hp} {A B : Hp → Prop} (h : A H) : tYes τ H (fun c H5 => if c = true then A H5 else B H5) := by
  show if true = true then A H else B H
  exact iteT h
theorem name_yes_if {i : Nat} {x : V} {τ : St} {H : Hp} {A B : St → Hp → Prop} (h : A (τ.set i (some x)) H) : gName i x τ H (fun τ' H4 => tYes τ' H4 fun c H5 => if c = true then A τ' H5 else B τ' H5) := by
  show if true = true then A (τ.set i (some x)) H else B (τ.set i (some x)) H
  exact iteT h
end L2

set_option Elab.async false
set_option linter.all false
set_option maxRecDepth 100000
set_option maxHeartbeats 4000000
/-! ZIP of any number of lists (next and end for every number; the making for three and for four) -/
namespace L2
open PySem PySem.Spec PyProof.Rows
section
variable {prog : Program} {w : World} {A : Around} {E : Value → Shared → Prop} {s : Shared}
abbrev Tup (h : Heap) (T : Addr) (vs : Array Value) : Prop := h.get? T = some { cls := .type "tuple", data := .seq vs }

theorem forIn_steps {α σ : Type} {r : σ} {f : α → σ → Sem (ForInStep σ)} {Q : σ → Shared → Prop} (I : Nat → Shared → Prop) :
    ∀ (l : List α) (k : Nat) (s : Shared), I k s → (∀ j a s, l[j]? = some a → I (k + j) s → wpAny (model prog w) A (f a r) (fun r' s' => r' = .yield r ∧ I (k + j + 1) s') E s) → (∀ s, I (k + l.length) s → Q r s) → wpAny (model prog w) A (forIn l r f) Q E s
  | [], k, s, h, _, hQ => by
    rw [List.forIn_nil]
    exact wpAny_pure (hQ s h)
  | a :: l, k, s, h, hs, hQ => by
    rw [List.forIn_cons]
    refine wpAny_bind (wpAny_mono (hs 0 a s rfl h) (fun r' s' hr => ?_) fun _ _ e => e)
    obtain ⟨rfl, hI⟩ := hr
    refine forIn_steps I l (k + 1) s' hI (fun j b s2 hb h2 => ?_) (fun s2 h2 => hQ s2 ?_)
    · have := hs (j + 1) b s2 hb (by rw [show k + (j + 1) = k + 1 + j by omega]; exact h2)
      rw [show k + (j + 1) + 1 = k + 1 + j + 1 by omega] at this
      exact this
    · rw [List.length_cons, show k + (l.length + 1) = k + 1 + l.length by omega]
      exact h2

structure ZApart (z TI TO : Addr) (L : List (Addr × Addr)) : Prop where
  nd : (z :: TI :: TO :: L.map (·.1)).Nodup
  ls : ∀ p ∈ L, p.2 ∉ z :: TO :: L.map (·.1)
theorem ZApart.TIz {z TI TO : Addr} {L : List (Addr × Addr)} (D : ZApart z TI TO L) : TI ≠ z := fun e => (List.nodup_cons.mp D.nd).1 (by rw [e]; exact List.mem_cons_self)
theorem ZApart.TOz {z TI TO : Addr} {L : List (Addr × Addr)} (D : ZApart z TI TO L) : TO ≠ z := fun e => (List.nodup_cons.mp D.nd).1 (by rw [e]; exact List.mem_cons_of_mem _ List.mem_cons_self)
theorem ZApart.iz {z TI TO : Addr} {L : List (Addr × Addr)} (D : ZApart z TI TO L) {p : Addr × Addr} (hp : p ∈ L) : p.1 ≠ z := fun e => (List.nodup_cons.mp D.nd).1 (by rw [← e]; exact List.mem_cons_of_mem _ (List.mem_cons_of_mem _ (List.mem_map_of_mem hp)))
theorem ZApart.nd2 {z TI TO : Addr} {L : List (Addr × Addr)} (D : ZApart z TI TO L) : (TI :: TO :: L.map (·.1)).Nodup := (List.nodup_cons.mp D.nd).2
theorem ZApart.TITO {z TI TO : Addr} {L : List (Addr × Addr)} (D : ZApart z TI TO L) : TI ≠ TO := fun e => (List.nodup_cons.mp D.nd2).1 (by rw [e]; exact List.mem_cons_self)
theorem ZApart.iTI {z TI TO : Addr} {L : List (Addr × Addr)} (D : ZApart z TI TO L) {p : Addr × Addr} (hp : p ∈ L) : p.1 ≠ TI := fun e => (List.nodup_cons.mp D.nd2).1 (by rw [← e]; exact List.mem_cons_of_mem _ (List.mem_map_of_mem hp))
theorem ZApart.nd3 {z TI TO : Addr} {L : List (Addr × Addr)} (D : ZApart z TI TO L) : (TO :: L.map (·.1)).Nodup := (List.nodup_cons.mp D.nd2).2
theorem ZApart.iTO {z TI TO : Addr} {L : List (Addr × Addr)} (D : ZApart z TI TO L) {p : Addr × Addr} (hp : p ∈ L) : p.1 ≠ TO := fun e => (List.nodup_cons.mp D.nd3).1 (by rw [← e]; exact List.mem_map_of_mem hp)
theorem ZApart.ii {z TI TO : Addr} {L : List (Addr × Addr)} (D : ZApart z TI TO L) {j k : Nat} {p q : Addr × Addr} (hp : L[j]? = some p) (hq : L[k]? = some q) (e : p.1 = q.1) : j = k := by
  have n := (List.nodup_cons.mp D.nd3).2
  have hj : j < (L.map (·.1)).length := by rw [List.length_map]; exact (List.getElem?_eq_some_iff.mp hp).1
  refine (List.getElem?_inj hj n).mp ?_
  rw [List.getElem?_map, List.getElem?_map, hp, hq]
  exact congrArg some e

/-- between two items -/
structure ZMid (z TI TO : Addr) (L : List (Addr × Addr)) (us : List Value) (m : Nat) (h0 : Heap) (k : Nat) (h : Heap) : Prop where
  sz : h.objs.size = h0.objs.size
  zip : IsZip h z TI TO .ellipsis
  out : ∃ vs, Tup h TO vs ∧ vs.size = L.length ∧ ∀ j, j < k → vs[j]? = us[j]?
  its : ∀ (j : Nat) (p : Addr × Addr), L[j]? = some p → h.IsListIter p.1 p.2 (if j < k then m + 1 else m)
  old : ∀ c o, c ∉ z :: TO :: L.map (·.1) → h0.get? c = some o → h.get? c = some o

theorem znext_item {z TI TO : Addr} {L : List (Addr × Addr)} {m : Nat} {us : List Value} {vs0 : Array Value} {Q : Value → Shared → Prop} (D : ZApart z TI TO L) (hne : 0 < L.length) (hsm : L.length ≤ 100)
    (hz : IsZip s.heap z TI TO .none) (hTI : Tup s.heap TI (L.map fun p => Value.ref p.1).toArray) (hTO : Tup s.heap TO vs0) (hv0 : vs0.size = L.length)
    (hit : ∀ p ∈ L, s.heap.IsListIter p.1 p.2 m) (hu : us.length = L.length) (hx : ∀ (j : Nat) (p : Addr × Addr) (u : Value), L[j]? = some p → us[j]? = some u → ∃ xs, s.heap.IsList p.2 xs ∧ xs[m]? = some u)
    (hQ : ∀ h', IsZip h' z TI TO (rawInt s.heap.objs.size) → Tup h' TO us.toArray → (∀ p ∈ L, h'.IsListIter p.1 p.2 (m + 1)) → Tup h' s.heap.objs.size us.toArray →
      (∀ c o, c ∉ z :: TO :: L.map (·.1) → s.heap.get? c = some o → h'.get? c = some o) → Q (.ref s.heap.objs.size) { s with heap := h' }) :
    wpAny (model prog w) A (Builtin.«zip.__next__» ⟨[.ref z], []⟩) (fun fin s' => ∃ v, fin = .done (.ret v) ∧ Q v s') E s := by
  have hsl : (L.map fun p => Value.ref p.1).toArray.size = L.length := by simp
  have hemp : (L.map fun p => Value.ref p.1).toArray.isEmpty = false := by
    rw [Array.isEmpty_eq_false_iff]
    intro e
    rw [e] at hsl
    have : (0 : Nat) = L.length := hsl
    omega
  have fits : L.length ≤ sizeLine := Nat.le_trans hsm (by decide)
  show wpAny _ _ (field (.ref z) 2 >>= _) _ _ _
  refine wpAny_bind (wpAny_field hz rfl (x := .bool false) rfl (show wpAny _ _ (field (.ref z) 3 >>= _) _ _ _ from wpAny_bind (wpAny_field hz rfl (x := .ref TI) rfl (wpAny_bind (wpAny_seqItems hTI rfl ?_)))))
  simp only [hemp, Bool.false_eq_true, if_false]
  refine wpAny_bind (show wpAny _ _ (Builtin.SmallTypes.ownedTupleIsFree (.ref z)) _ _ _ from ?_)
  unfold Builtin.SmallTypes.ownedTupleIsFree
  refine wpAny_bind (wpAny_field hz rfl (x := .none) rfl (wpAny_pure ?_))
  simp only [if_true]
  refine wpAny_bind (wpAny_rule (wpAny_bind (wpAny_field hz rfl (x := .ref TO) rfl (wpAny_bind (wpAny_setField_rec hz (by simp) fun h₁ hz₁ hs₁ => ?_)))))
  replace hz₁ : IsZip h₁ z TI TO .ellipsis := hz₁
  refine wpAny_bind (forIn_steps (fun k s' => ∃ h', s' = { s with heap := h' } ∧ ZMid z TI TO L us m s.heap k h') _ 0 _ ⟨h₁, rfl, ?_⟩ ?_ ?_)
  · refine ⟨hs₁.1, hz₁, ⟨vs0, hs₁.extBut _ _ D.TOz hTO, hv0, fun j hj => absurd hj (Nat.not_lt_zero _)⟩, fun j p hp => ?_, fun c o hc e => hs₁.extBut _ _ (fun q => hc (by rw [q]; exact List.mem_cons_self)) e⟩
    rw [if_neg (Nat.not_lt_zero _)]
    have hm := List.mem_of_getElem? hp
    exact (hit p hm).extBut hs₁.extBut (D.iz hm)
  · rintro j a s' ha ⟨h₂, rfl, M⟩
    rw [Nat.zero_add] at M ⊢
    -- which item
    have hja : ∃ p, L[j]? = some p ∧ a = (Value.ref p.1, j) := by
      have ha2 : (L.map fun p => Value.ref p.1).zipIdx[j]? = some a := ha
      rw [List.getElem?_zipIdx, List.getElem?_map] at ha2
      cases q : L[j]? with
      | none => rw [q] at ha2; cases ha2
      | some p => rw [q] at ha2; exact ⟨p, rfl, by have := (Option.some.inj ha2).symm; rw [this]; simp⟩
    obtain ⟨p, hp, rfl⟩ := hja
    have hm := List.mem_of_getElem? hp
    have hjl : j < L.length := (List.getElem?_eq_some_iff.mp hp).1
    obtain ⟨u, huj⟩ : ∃ u, us[j]? = some u := ⟨us[j], List.getElem?_eq_getElem (by omega)⟩
    obtain ⟨xs, hl, hxu⟩ := hx j p u hp huj
    have hl₂ : h₂.IsList p.2 xs := hl.at fun o e => M.old _ _ (D.ls p hm) e
    have hi₂ : h₂.IsListIter p.1 p.2 m := by
      have := M.its j p hp
      rw [if_neg (Nat.lt_irrefl _)] at this
      exact this
    refine wpAny_bind (wpAny_onRaise ?_)
    show wpAny _ _ (Builtin.SmallTypes.nextOf (.ref p.1) >>= _) _ _ _
    refine wpAny_bind (wpAny_nextOf_list_item hi₂ hl₂ hxu fun h₃ hi₃ hs₃ => wpAny_pure ?_)
    obtain ⟨vs, hTO₂, hvs, hvj⟩ := M.out
    have hTO₃ : Tup h₃ TO vs := hs₃.extBut _ _ (D.iTO hm).symm hTO₂
    refine wpAny_bind (wpAny_seqItems hTO₃ rfl (wpAny_bind (wpAny_updateSeq hTO₃ rfl (wpAny_bind (wpAny_letGo (wpAny_pure ⟨rfl, _, rfl, ?_⟩))) (by rw [hvs]; exact fits) (by rw [Array.size_setIfInBounds, hvs]; exact Nat.le_succ_of_le fits))))
    have hs₄ : Heap.SameBut TO h₃ (h₃.update TO (Obj.mapSeq fun x => x.setIfInBounds j u)) := Heap.SameBut.update ..
    have hTO₄ : Tup (h₃.update TO (Obj.mapSeq fun x => x.setIfInBounds j u)) TO (vs.setIfInBounds j u) := by
      show Heap.get? _ _ = _
      rw [Heap.get?_update_self _ hTO₃ rfl]
      simp [Obj.mapSeq]
    refine ⟨by rw [hs₄.1, hs₃.1]; exact M.sz, hs₄.extBut _ _ D.TOz.symm (hs₃.extBut _ _ (D.iz hm).symm M.zip), ⟨_, hTO₄, by rw [Array.size_setIfInBounds]; exact hvs, fun i hi => ?_⟩, fun i q hq => ?_, fun c o hc e => ?_⟩
    · by_cases hij : i = j
      · subst hij
        rw [Array.getElem?_setIfInBounds_self_of_lt (by omega)]
        exact huj.symm
      · rw [Array.getElem?_setIfInBounds_ne (Ne.symm hij)]
        exact hvj i (by omega)
    · have hqm := List.mem_of_getElem? hq
      by_cases hij : i = j
      · subst hij
        rw [hp] at hq
        cases hq
        rw [if_pos (Nat.lt_succ_self _)]
        exact hi₃.extBut hs₄.extBut (D.iTO hm)
      · have e1 := M.its i q hq
        have e2 : (if i < j + 1 then m + 1 else m) = if i < j then m + 1 else m := by
          by_cases hlt : i < j
          · rw [if_pos hlt, if_pos (by omega)]
          · rw [if_neg hlt, if_neg (by omega)]
        rw [e2]
        exact (e1.extBut hs₃.extBut fun z' => hij (D.ii hq hp z')).extBut hs₄.extBut (D.iTO hqm)
    · have n1 : c ≠ TO := fun q => hc (by rw [q]; exact List.mem_cons_of_mem _ List.mem_cons_self)
      have n2 : c ≠ p.1 := fun q => hc (by rw [q]; exact List.mem_cons_of_mem _ (List.mem_cons_of_mem _ (List.mem_map_of_mem hm)))
      exact hs₄.extBut _ _ n1 (hs₃.extBut _ _ n2 (M.old c o hc e))
  · rintro s' ⟨h₅, rfl, M⟩
    have hln : 0 + ((L.map fun p => Value.ref p.1).toArray.toList.zipIdx).length = L.length := by simp
    rw [hln] at M
    obtain ⟨vs, hTO₅, hvs, hvj⟩ := M.out
    have hvu : vs = us.toArray := by
      refine Array.ext_getElem? fun j => ?_
      by_cases hj : j < L.length
      · rw [hvj j hj]
        simp
      · rw [Array.getElem?_eq_none (by omega), Array.getElem?_eq_none (by simp; omega)]
    subst hvu
    refine wpAny_bind (wpAny_seqItems hTO₅ rfl (wpAny_bind (wpAny_newTuple ?_)))
    show wpAny _ _ (Builtin.SmallTypes.ownedTupleHandOut (.ref z) (.ref h₅.objs.size) >>= _) _ _ _
    refine wpAny_bind ?_
    unfold Builtin.SmallTypes.ownedTupleHandOut
    have hzlt : z < h₅.objs.size := Heap.lt_size M.zip
    have hz₆ : IsZip (h₅.push { cls := .type "tuple", data := .seq us.toArray.toList.toArray }) z TI TO .ellipsis := Heap.get?_push_of_some _ M.zip
    refine wpAny_bind (wpAny_setField_rec hz₆ (by simp) fun h₇ hz₇ hs₇ => ?_)
    replace hz₇ : IsZip h₇ z TI TO (rawInt h₅.objs.size) := hz₇
    refine wpAny_setField_rec hz₇ (by simp) fun h₈ hz₈ hs₈ => wpAny_pure ⟨_, rfl, ?_⟩
    replace hz₈ : IsZip h₈ z TI TO (rawInt h₅.objs.size) := hz₈
    have up : ∀ c o, c ≠ z → h₅.get? c = some o → h₈.get? c = some o := fun c o c1 e => hs₈.extBut _ _ c1 (hs₇.extBut _ _ c1 (Heap.get?_push_of_some _ e))
    have hT₈ : Tup h₈ h₅.objs.size us.toArray := hs₈.extBut _ _ (Nat.ne_of_gt hzlt) (hs₇.extBut _ _ (Nat.ne_of_gt hzlt) (Heap.get?_push_size _ rfl))
    rw [M.sz] at hz₈ hT₈
    show Q (.ref h₅.objs.size) _
    rw [M.sz]
    refine hQ h₈ hz₈ (up _ _ D.TOz hTO₅) (fun p hp => ?_) hT₈ fun c o hc e => up c o (fun q => hc (by rw [q]; exact List.mem_cons_self)) (M.old c o hc e)
    obtain ⟨j, hj, e⟩ := List.mem_iff_getElem.mp hp
    have := M.its j p (by rw [← e]; exact List.getElem?_eq_getElem hj)
    rw [if_pos hj] at this
    exact this.at fun o e => up _ o (D.iz hp) e

theorem znext_end {z TI TO : Addr} {p : Addr × Addr} {L : List (Addr × Addr)} {m : Nat} {xs vs0 : Array Value} {Q : Fin → Shared → Prop} (hh : A.handled = none) (D : ZApart z TI TO (p :: L))
    (hz : IsZip s.heap z TI TO .none) (hTI : Tup s.heap TI ((p :: L).map fun p => Value.ref p.1).toArray) (hTO : Tup s.heap TO vs0)
    (hit : s.heap.IsListIter p.1 p.2 m) (hl : s.heap.IsList p.2 xs) (hend : xs[m]? = none)
    (hE : ∀ h' e, (∀ c o, c ∉ z :: TO :: (p :: L).map (·.1) → s.heap.get? c = some o → h'.get? c = some o) → (∃ o, h'.get? e = some o ∧ o.cls = .type "StopIteration") → E (.ref e) { s with heap := h' }) :
    wpAny (model prog w) A (Builtin.«zip.__next__» ⟨[.ref z], []⟩) Q E s := by
  have hm : p ∈ p :: L := List.mem_cons_self
  have hemp : ((p :: L).map fun p => Value.ref p.1).toArray.isEmpty = false := by simp
  show wpAny _ _ (field (.ref z) 2 >>= _) _ _ _
  refine wpAny_bind (wpAny_field hz rfl (x := .bool false) rfl (show wpAny _ _ (field (.ref z) 3 >>= _) _ _ _ from wpAny_bind (wpAny_field hz rfl (x := .ref TI) rfl (wpAny_bind (wpAny_seqItems hTI rfl ?_)))))
  simp only [hemp, Bool.false_eq_true, if_false]
  refine wpAny_bind (show wpAny _ _ (Builtin.SmallTypes.ownedTupleIsFree (.ref z)) _ _ _ from ?_)
  unfold Builtin.SmallTypes.ownedTupleIsFree
  refine wpAny_bind (wpAny_field hz rfl (x := .none) rfl (wpAny_pure ?_))
  simp only [if_true]
  refine wpAny_bind (wpAny_rule (wpAny_bind (wpAny_field hz rfl (x := .ref TO) rfl (wpAny_bind (wpAny_setField_rec hz (by simp) fun h₁ hz₁ hs₁ => ?_)))))
  replace hz₁ : IsZip h₁ z TI TO .ellipsis := hz₁
  refine wpAny_bind ?_
  simp only [List.map_cons, List.zipIdx_cons, List.forIn_cons]
  refine wpAny_bind (wpAny_bind (wpAny_onRaise ?_))
  show wpAny _ _ (Builtin.SmallTypes.nextOf (.ref p.1) >>= _) _ _ _
  have n1 : p.2 ≠ z := fun q => D.ls p hm (by rw [q]; exact List.mem_cons_self)
  refine wpAny_bind (wpAny_nextOf_list_end hh (hit.extBut hs₁.extBut (D.iz hm)) (hl.extBut hs₁.extBut n1) hend fun h₂ e hs₂ he => ?_)
  obtain ⟨oe, hoe, hce⟩ := he
  have hz₂ : IsZip h₂ z TI TO .ellipsis := hs₂ _ _ (D.iz hm).symm hz₁
  have hez : e ≠ z := fun x => by
    subst x
    rw [hz₂] at hoe
    cases hoe
    simp at hce
  refine wpAny_setField_rec hz₂ (by simp) fun h₃ _ hs₃ => hE h₃ e (fun c o hc x => ?_) ⟨oe, hs₃.extBut _ _ hez hoe, hce⟩
  have c1 : c ≠ z := fun q => hc (by rw [q]; exact List.mem_cons_self)
  have c2 : c ≠ p.1 := fun q => hc (by rw [q]; exact List.mem_cons_of_mem _ (List.mem_cons_of_mem _ (List.mem_map_of_mem hm)))
  exact hs₃.extBut _ _ c1 (hs₂ _ _ c2 (hs₁.extBut _ _ c1 x))

theorem zpy_item {z TI TO : Addr} {L : List (Addr × Addr)} {m : Nat} {us : List Value} {vs0 : Array Value} {Q : Option Value → Shared → Prop} (D : ZApart z TI TO L) (hne : 0 < L.length) (hsm : L.length ≤ 100)
    (hz : IsZip s.heap z TI TO .none) (hTI : Tup s.heap TI (L.map fun p => Value.ref p.1).toArray) (hTO : Tup s.heap TO vs0) (hv0 : vs0.size = L.length)
    (hit : ∀ p ∈ L, s.heap.IsListIter p.1 p.2 m) (hu : us.length = L.length) (hx : ∀ (j : Nat) (p : Addr × Addr) (u : Value), L[j]? = some p → us[j]? = some u → ∃ xs, s.heap.IsList p.2 xs ∧ xs[m]? = some u)
    (hQ : ∀ h', IsZip h' z TI TO (rawInt s.heap.objs.size) → Tup h' TO us.toArray → (∀ p ∈ L, h'.IsListIter p.1 p.2 (m + 1)) → Tup h' s.heap.objs.size us.toArray →
      (∀ c o, c ∉ z :: TO :: L.map (·.1) → s.heap.get? c = some o → h'.get? c = some o) → Q (some (.ref s.heap.objs.size)) { s with heap := h' }) :
    wpAny (model prog w) A (pyNext (.ref z)) Q E s := by
  have hT : s.TypeIs (.ref z) "zip" := ⟨_, hz, rfl⟩
  unfold pyNext
  exact wpAny_bind (wpAny_attempt (wpAny_callSpecial?_slot (name := Str.ofString "__next__") hT F.slot_zip_next
    (wpAny_call_entry F.slot_zip_next hT F.entry_zip_next (znext_item D hne hsm hz hTI hTO hv0 hit hu hx fun h' a1 a2 a3 a4 a5 => wpAny_pure (hQ h' a1 a2 a3 a4 a5)) (F.args_zip_next_1 _))))
theorem zpy_end {z TI TO : Addr} {p : Addr × Addr} {L : List (Addr × Addr)} {m : Nat} {xs vs0 : Array Value} {Q : Option Value → Shared → Prop} (hh : A.handled = none) (D : ZApart z TI TO (p :: L))
    (hz : IsZip s.heap z TI TO .none) (hTI : Tup s.heap TI ((p :: L).map fun p => Value.ref p.1).toArray) (hTO : Tup s.heap TO vs0)
    (hit : s.heap.IsListIter p.1 p.2 m) (hl : s.heap.IsList p.2 xs) (hend : xs[m]? = none)
    (hQ : ∀ h', (∀ c o, c ∉ z :: TO :: (p :: L).map (·.1) → s.heap.get? c = some o → h'.get? c = some o) → Q none { s with heap := h' }) : wpAny (model prog w) A (pyNext (.ref z)) Q E s := by
  have hT : s.TypeIs (.ref z) "zip" := ⟨_, hz, rfl⟩
  unfold pyNext
  refine wpAny_bind (wpAny_attempt (wpAny_callSpecial?_slot (name := Str.ofString "__next__") hT F.slot_zip_next
    (wpAny_call_entry F.slot_zip_next hT F.entry_zip_next (znext_end hh D hz hTI hTO hit hl hend fun h' e hk he => ?_) (F.args_zip_next_1 _))))
  obtain ⟨o, ho, hc⟩ := he
  exact wpAny_bind (wpAny_isInstance (T := "StopIteration") (b := true) ⟨o, ho, hc⟩ isSubtype_stop (wpAny_pure (hQ _ hk)))
end

/-! ### the iterator: L is the (iterator, list) pairs; it ends where the first list ends -/
def Itn (K : PySem.W.Frag) (as : List Addr) : It :=
  ⟨fun i H => ∃ vs : List V, vs.length = as.length ∧ ∀ (j : Nat) (a : Addr) (v : V), as[j]? = some a → vs[j]? = some v → ∃ xs, SqL K H a xs ∧ xs[i]? = some v,
   fun i H v H' => ∃ (T : Addr) (vs : List V), v = .ref T ∧ H T = none ∧ H' = upd H T (.tup vs) ∧ vs.length = as.length ∧ ∀ (j : Nat) (a : Addr) (v : V), as[j]? = some a → vs[j]? = some v → ∀ xs, SqL K H a xs → xs[i]? = some v,
   fun i H => ∃ a as' xs, as = a :: as' ∧ SqL K H a xs ∧ xs.length ≤ i⟩
def znTn (L : List (Addr × Addr)) (z TI TO : Addr) (i : Nat) (h : Heap) : Prop :=
  IsZip h z TI TO .none ∧ Tup h TI (L.map fun p => Value.ref p.1).toArray ∧ (∃ vs, Tup h TO vs ∧ vs.size = L.length) ∧ ∀ p ∈ L, h.IsListIter p.1 p.2 i
theorem vals_of {X : Cx} {pins : List (Addr × Obj)} {σ : St} {H : Hp} {s : Shared} (I : Inv X pins σ H s) {i : Nat} : ∀ (as : List Addr) (vs : List V), vs.length = as.length → (∀ (j : Nat) (a : Addr) (v : V), as[j]? = some a → vs[j]? = some v → ∃ xs, SqL X.K H a xs ∧ xs[i]? = some v) →
    ∃ us : List Value, Vals vs us ∧ ∀ (j : Nat) (a : Addr) (u : Value), as[j]? = some a → us[j]? = some u → ∃ xs, s.heap.IsList a xs ∧ xs[i]? = some u
  | [], [], _, _ => ⟨[], .nil, fun j a u h => by simp at h⟩
  | a :: as, v :: vs, hl, h => by
    obtain ⟨us, r, g⟩ := vals_of I as vs (by simpa using hl) fun j a' v' h1 h2 => h (j + 1) a' v' h1 h2
    obtain ⟨xs, hq, hx⟩ := h 0 a v rfl rfl
    obtain ⟨its, rv, pl, hz⟩ := I.list hq
    obtain ⟨u, hu, ru⟩ := rv.get hx
    refine ⟨u :: us, .cons ru r, fun j a' u' h1 h2 => ?_⟩
    cases j with
    | zero =>
      cases h1
      cases h2
      exact ⟨_, pl.isList, by simpa using hu⟩
    | succ j => exact g j a' u' h1 h2
end L2

set_option Elab.async false
set_option linter.all false
set_option maxRecDepth 100000
set_option maxHeartbeats 4000000
namespace L2
open PySem PySem.Spec PyProof.Rows
theorem turn_zipn {P : Program} {w : World} {K : PySem.W.Frag} {elts : List Expr} {kk : Nat} {tp : Pos} {L : List (Addr × Addr)} {z TI TO : Addr} (D : ZApart z TI TO L) (hne : 0 < L.length) (hsm : L.length ≤ 100) :
    Turn P w K (.Tuple elts kk tp) (Itn K (L.map (·.2))) (z :: TI :: TO :: L.map (·.1)) z (znTn L z TI TO) where
  mem := List.mem_cons_self
  obj := fun i h st c hc => by
    obtain ⟨h1, h2, ⟨vs, h3, _⟩, h4⟩ := st
    rcases List.mem_cons.mp hc with rfl | hc
    · exact ⟨_, h1, fun v z => nomatch z⟩
    rcases List.mem_cons.mp hc with rfl | hc
    · exact ⟨_, h2, fun v z => nomatch z⟩
    rcases List.mem_cons.mp hc with rfl | hc
    · exact ⟨_, h3, fun v z => nomatch z⟩
    obtain ⟨p, hp, rfl⟩ := List.mem_map.mp hc
    obtain ⟨o, e, _, d⟩ := h4 p hp
    exact ⟨o, e, fun v z => by rw [d] at z; cases z⟩
  keep := fun i h h' st k => by
    obtain ⟨h1, h2, ⟨vs, h3, h5⟩, h4⟩ := st
    refine ⟨k z List.mem_cons_self _ h1, k TI (List.mem_cons_of_mem _ List.mem_cons_self) _ h2, ⟨vs, k TO (List.mem_cons_of_mem _ (List.mem_cons_of_mem _ List.mem_cons_self)) _ h3, h5⟩, fun p hp => (h4 p hp).at fun o e => k p.1 ?_ o e⟩
    exact List.mem_cons_of_mem _ (List.mem_cons_of_mem _ (List.mem_cons_of_mem _ (List.mem_map_of_mem hp)))
  item := by
    intro X hP hw hK hc i pins s σ H E I hf st hg
    subst hP hw hK
    obtain ⟨h1, h2, ⟨vs0, h3, h5⟩, h4⟩ := st
    obtain ⟨vs, hvl, hv⟩ := hg
    have hll : (L.map (·.2)).length = L.length := List.length_map ..
    obtain ⟨us, ru, hu⟩ := vals_of I _ vs hvl hv
    have hul := ru.length
    refine zpy_item D hne hsm h1 h2 h3 h5 h4 (us := us) (by omega) (fun j p u e1 e2 => hu j p.2 u (by rw [List.getElem?_map, e1]; rfl) e2) fun h' a1 a2 a3 a4 a5 => ?_
    refine ⟨_, rfl, wpAny_letOwnedTupleGo_zip a1 fun h'' b1 bs => ?_⟩
    have hnz : s.heap.objs.size ≠ z := Nat.ne_of_gt (Heap.lt_size h1)
    have hT : Tup h'' s.heap.objs.size us.toArray := (bs.2 _ hnz).trans a4
    have sub : ∀ c ∈ z :: TO :: L.map (·.1), c ∈ z :: TI :: TO :: L.map (·.1) := fun c hc => by
      rcases List.mem_cons.mp hc with rfl | hc
      · exact List.mem_cons_self
      · exact List.mem_cons_of_mem _ (List.mem_cons_of_mem _ hc)
    have kk : ∀ c o, c ∉ z :: TO :: L.map (·.1) → s.heap.get? c = some o → h''.get? c = some o := fun c o hc e => (bs.2 c fun q => hc (by rw [q]; exact List.mem_cons_self)).trans (a5 c o hc e)
    have hfr : H s.heap.objs.size = none := I.hok.fresh (Nat.le_refl _)
    have nt : ∀ c v, H c = some v → c ∉ z :: TO :: L.map (·.1) ∧ c ≠ s.heap.objs.size := fun c v e => by
      refine ⟨fun hc => ?_, ne_of_none e hfr⟩
      rw [(hf c (sub c hc)).1] at e
      cases e
    have lt : ∀ c o, s.heap.get? c = some o → c ≠ s.heap.objs.size := fun c o e => Nat.ne_of_lt (Heap.lt_size e)
    have I2 : Inv X pins σ (upd H s.heap.objs.size (.tup vs)) { s with heap := h'' } := by
      refine I.step (g' := s.gens) (d' := s.drawn) (t' := s.toks) (ch := z :: TO :: L.map (·.1)) (fun c hc => ?_) (fun c o _ _ hc e _ => kk c o hc e) (fun c o _ _ hc e _ => ⟨o.slots, kk c o hc e⟩) (fun c o _ e n => by rw [upd_ne (lt c o e)]; exact n)
        (fun c o hc e => ⟨o, kk c o hc e⟩) (fun c zs e => by rw [upd_ne (nt c _ e).2]; exact e) (fun c o v e => by rw [upd_ne (nt c _ e).2]; exact e) (fun c ps e => ⟨#[], by rw [upd_ne (nt c _ e).2, e]; simp⟩) (fun m hm => ?_) (fun c v e => ?_) I.bare
      · have f := hf c (sub c hc)
        exact ⟨f.2.2.2.1, f.2.1, f.2.2.2.2.1, f.2.2.2.2.2⟩
      · obtain ⟨o, es, ep, ho, r⟩ := hm
        exact ⟨o, es, ep, kk _ o (fun c => (hf _ (sub _ c)).2.1 rfl) ho, r⟩
      · by_cases hc : c = s.heap.objs.size
        · subst hc
          rw [upd_same] at e
          cases e
          exact ⟨Nat.le_trans (by omega : vs.length ≤ 100) (by decide), us, ru, _, hT, rfl, 0, rfl⟩
        · rw [upd_ne hc] at e
          refine (I.hok c v e).stay (fun c' v' hc' q => kk c' v' ?_ q) (fun c' q => by rw [upd_ne (nt c' _ q).2]; exact q) fun c' zs q => by rw [upd_ne (nt c' _ q).2]; exact q
          rcases hc' with rfl | hc'
          · exact (nt _ _ e).1
          · exact (nt _ _ hc').1
    have TIn : TI ∉ z :: TO :: L.map (·.1) := fun c => by
      rcases List.mem_cons.mp c with e | c
      · exact D.TIz e
      rcases List.mem_cons.mp c with e | c
      · exact D.TITO e
      obtain ⟨p, hp, e⟩ := List.mem_map.mp c
      exact D.iTI hp e
    refine ⟨.ref s.heap.objs.size, _, I2, rfl, ⟨_, vs, rfl, hfr, rfl, hvl, fun j a v e1 e2 xs hq => ?_⟩, ⟨b1, kk _ _ TIn h2, ⟨_, (bs.2 _ D.TOz).trans a2, by simp; omega⟩, fun p hp => (a3 p hp).at fun o e => (bs.2 _ (D.iz hp)).trans e⟩, fun c hc => ?_⟩
    · obtain ⟨ys, hq2, hy⟩ := hv j a v e1 e2
      rw [I.list_inj hq hq2]
      exact hy
    · obtain ⟨o, e⟩ : ∃ o, s.heap.get? c = some o := by
        rcases List.mem_cons.mp hc with rfl | hc
        · exact ⟨_, h1⟩
        rcases List.mem_cons.mp hc with rfl | hc
        · exact ⟨_, h2⟩
        rcases List.mem_cons.mp hc with rfl | hc
        · exact ⟨_, h3⟩
        obtain ⟨p, hp, rfl⟩ := List.mem_map.mp hc
        obtain ⟨o, e, _⟩ := h4 p hp
        exact ⟨o, e⟩
      rw [upd_ne (lt c o e)]
      exact (hf c hc).1
  done := by
    intro X hP hw hK hc i pins s σ H E I hf st hg
    subst hP hw hK
    obtain ⟨h1, h2, ⟨vs0, h3, h5⟩, h4⟩ := st
    obtain ⟨a, as', xs, e, hq, hend⟩ := hg
    cases L with
    | nil => cases e
    | cons p L =>
      injection e with e1 e2
      subst e1
      obtain ⟨its, rv, pl, hz⟩ := I.list hq
      have l1 := rv.length
      refine zpy_end (I.ok.hd hc) D h1 h2 h3 (h4 p List.mem_cons_self) pl.isList (by simp; omega) fun h' hk => ⟨rfl, ?_⟩
      refine zip_inv (ch := z :: TO :: (p :: L).map (·.1)) I hf (fun c hc => ?_) hk
      rcases List.mem_cons.mp hc with rfl | hc
      · exact List.mem_cons_self
      · exact List.mem_cons_of_mem _ (List.mem_cons_of_mem _ hc)
  self := fun _ _ _ _ _ st h => wpAny_pyIter_zip st.1 h

/-! ### four lists -/
theorem tyc_zip4 (a b c d : Value) : checkTypeCall "zip" ⟨[a, b, c, d], []⟩ = pure () := by kernel_rfl
theorem nwc_zip4 (a b c d : Value) : checkBuiltinCall "zip.__new__" ⟨[.type "zip", a, b, c, d], []⟩ = pure () := by kernel_rfl
theorem arg_init5 (a b c d e : Value) : argsOk "object.__init__" ⟨[a, b, c, d, e], []⟩ := by
  unfold argsOk; rw [signature?_of (id := "object.__init__") (n := "__tini__".toList) (o := "tcejbo".toList) (by kernel_rfl) F.owner_object]; kernel_rfl
abbrev itO (l : Addr) : Obj := { cls := .type "list_iterator", data := .fields #[.ref l, .int 0 0] }
abbrev z4a (h : Heap) (l1 l2 l3 l4 : Addr) : Heap := (((h.push (itO l1)).push (itO l2)).push (itO l3)).push (itO l4)
abbrev z4b (h : Heap) (l1 l2 l3 l4 : Addr) : Heap := (z4a h l1 l2 l3 l4).push { cls := .type "tuple", data := .seq #[.ref h.objs.size, .ref (h.push (itO l1)).objs.size, .ref ((h.push (itO l1)).push (itO l2)).objs.size, .ref (((h.push (itO l1)).push (itO l2)).push (itO l3)).objs.size] }
abbrev z4c (h : Heap) (l1 l2 l3 l4 : Addr) : Heap := (z4b h l1 l2 l3 l4).push { cls := .type "tuple", data := .seq #[.none, .none, .none, .none] }
abbrev z4d (h : Heap) (l1 l2 l3 l4 : Addr) : Heap := (z4c h l1 l2 l3 l4).push { cls := .type "zip", data := .fields #[.none, .bool false, .bool false, .ref (z4a h l1 l2 l3 l4).objs.size, .ref (z4b h l1 l2 l3 l4).objs.size] }
theorem meets_zip4 (l1 l2 l3 l4 : Addr) (x1 x2 x3 x4 : Array Value) :
    Meets (Builtin.«zip.__new__» ⟨[.type "zip", .ref l1, .ref l2, .ref l3, .ref l4], []⟩) (fun _ R s => s.heap.IsList l1 x1 ∧ s.heap.IsList l2 x2 ∧ s.heap.IsList l3 x3 ∧ s.heap.IsList l4 x4 ∧
      R (.ok (.ret (.ref (z4c s.heap l1 l2 l3 l4).objs.size))) { s with heap := z4d s.heap l1 l2 l3 l4 }) :=
  .of_wp fun prog w A R s h => by
    obtain ⟨hp, g, d, tk, os⟩ := s
    obtain ⟨k1, k2, k3, k4, h⟩ := h
    have hsub := sub_zip
    have i1 : Heap.IsList (Shared.heap ⟨hp, g, d, tk, os⟩) l1 x1 := k1
    have i2 : Heap.IsList (Shared.heap ⟨hp.push (itO l1), g, d, tk, os⟩) l2 x2 := Heap.IsList.push k2 _
    have i3 : Heap.IsList (Shared.heap ⟨(hp.push (itO l1)).push (itO l2), g, d, tk, os⟩) l3 x3 := Heap.IsList.push (Heap.IsList.push k3 _) _
    have i4 : Heap.IsList (Shared.heap ⟨((hp.push (itO l1)).push (itO l2)).push (itO l3), g, d, tk, os⟩) l4 x4 := Heap.IsList.push (Heap.IsList.push (Heap.IsList.push k4 _) _) _
    wp_walk using wpAny_pyIter_list i1, wpAny_pyIter_list i2, wpAny_pyIter_list i3, wpAny_pyIter_list i4
    exact ⟨_, rfl, h⟩
end L2

set_option Elab.async false
set_option linter.all false
set_option maxRecDepth 100000
set_option maxHeartbeats 4000000
namespace L2
open PySem PySem.Spec PyProof.Rows
section
variable {prog : Program} {w : World} {A : Around} {E : Value → Shared → Prop} {s : Shared}
abbrev zL (n l1 l2 l3 l4 : Addr) : List (Addr × Addr) := [(n, l1), (n + 1, l2), (n + 2, l3), (n + 3, l4)]
theorem call_zip4 {l1 l2 l3 l4 : Addr} {x1 x2 x3 x4 : Array Value} {Q : Value → Shared → Prop} (k1 : s.heap.IsList l1 x1) (k2 : s.heap.IsList l2 x2) (k3 : s.heap.IsList l3 x3) (k4 : s.heap.IsList l4 x4)
    (h : ∀ h', znTn (zL s.heap.objs.size l1 l2 l3 l4) (s.heap.objs.size + 6) (s.heap.objs.size + 4) (s.heap.objs.size + 5) 0 h' → (∀ c o, s.heap.get? c = some o → h'.get? c = some o) → Q (.ref (s.heap.objs.size + 6)) { s with heap := h' }) :
    wpAny (model prog w) A (call (.type "zip") [.ref l1, .ref l2, .ref l3, .ref l4]) Q E s := by
  refine callType_new F.called_zip (by decide) (tyc_zip4 _ _ _ _) (nwc_zip4 _ _ _ _) (fun obj => arg_init5 obj _ _ _ _) F.entry_zip_new (meets_zip4 l1 l2 l3 l4 x1 x2 x3 x4) ⟨k1, k2, k3, k4, ?_⟩
  have y1 : (s.heap.push (itO l1)).objs.size = s.heap.objs.size + 1 := Heap.size_push ..
  have y2 : ((s.heap.push (itO l1)).push (itO l2)).objs.size = s.heap.objs.size + 2 := by rw [Heap.size_push, y1]
  have y3 : (((s.heap.push (itO l1)).push (itO l2)).push (itO l3)).objs.size = s.heap.objs.size + 3 := by rw [Heap.size_push, y2]
  have y4 : (z4a s.heap l1 l2 l3 l4).objs.size = s.heap.objs.size + 4 := by rw [Heap.size_push, y3]
  have y5 : (z4b s.heap l1 l2 l3 l4).objs.size = s.heap.objs.size + 5 := by rw [Heap.size_push, y4]
  have y6 : (z4c s.heap l1 l2 l3 l4).objs.size = s.heap.objs.size + 6 := by rw [Heap.size_push, y5]
  have old : ∀ c o, (z4a s.heap l1 l2 l3 l4).get? c = some o → (z4d s.heap l1 l2 l3 l4).get? c = some o := fun c o x => Heap.get?_push_of_some _ (Heap.get?_push_of_some _ (Heap.get?_push_of_some _ x))
  have g7 : (z4d s.heap l1 l2 l3 l4).get? (z4c s.heap l1 l2 l3 l4).objs.size = some _ := Heap.get?_push_size _ rfl
  have g6 : (z4d s.heap l1 l2 l3 l4).get? (z4b s.heap l1 l2 l3 l4).objs.size = some _ := Heap.get?_push_of_some _ (Heap.get?_push_size _ rfl)
  have g5 : (z4d s.heap l1 l2 l3 l4).get? (z4a s.heap l1 l2 l3 l4).objs.size = some _ := Heap.get?_push_of_some _ (Heap.get?_push_of_some _ (Heap.get?_push_size _ rfl))
  have g4 : (z4d s.heap l1 l2 l3 l4).get? (((s.heap.push (itO l1)).push (itO l2)).push (itO l3)).objs.size = some _ := old _ _ (Heap.get?_push_size _ rfl)
  have g3 : (z4d s.heap l1 l2 l3 l4).get? ((s.heap.push (itO l1)).push (itO l2)).objs.size = some _ := old _ _ (Heap.get?_push_of_some _ (Heap.get?_push_size _ rfl))
  have g2 : (z4d s.heap l1 l2 l3 l4).get? (s.heap.push (itO l1)).objs.size = some _ := old _ _ (Heap.get?_push_of_some _ (Heap.get?_push_of_some _ (Heap.get?_push_size _ rfl)))
  have g1 : (z4d s.heap l1 l2 l3 l4).get? s.heap.objs.size = some _ := old _ _ (Heap.get?_push_of_some _ (Heap.get?_push_of_some _ (Heap.get?_push_of_some _ (Heap.get?_push_size _ rfl))))
  show _ ∧ _
  rw [y4, y5, y6] at g7
  rw [y1, y2, y3, y4] at g5
  rw [y5] at g6
  rw [y3] at g4
  rw [y2] at g3
  rw [y1] at g2
  rw [y6]
  refine ⟨⟨_, g7, rfl⟩, h _ ⟨g7, g5, ⟨_, g6, rfl⟩, fun p hp => ?_⟩ fun c o x => old c o (Heap.get?_push_of_some _ (Heap.get?_push_of_some _ (Heap.get?_push_of_some _ (Heap.get?_push_of_some _ x))))⟩
  simp only [List.mem_cons, List.not_mem_nil, or_false] at hp
  rcases hp with rfl | rfl | rfl | rfl
  · exact ⟨_, g1, rfl, rfl⟩
  · exact ⟨_, g2, rfl, rfl⟩
  · exact ⟨_, g3, rfl, rfl⟩
  · exact ⟨_, g4, rfl, rfl⟩
theorem zapart4 {n l1 l2 l3 l4 : Addr} (h1 : l1 < n) (h2 : l2 < n) (h3 : l3 < n) (h4 : l4 < n) : ZApart (n + 6) (n + 4) (n + 5) (zL n l1 l2 l3 l4) := by
  have ad : ∀ a : Nat, (a : Nat) = a := fun _ => rfl
  refine ⟨?_, fun p hp => ?_⟩
  · simp only [zL, List.map_cons, List.map_nil, List.nodup_cons, List.mem_cons, List.not_mem_nil, or_false, not_or, List.nodup_nil, and_true, not_false_eq_true]
    unfold Addr at *
    omega
  · simp only [zL, List.map_cons, List.map_nil, List.mem_cons, List.not_mem_nil, or_false, not_or] at hp ⊢
    unfold Addr at *
    rcases hp with rfl | rfl | rfl | rfl <;> (dsimp only; omega)
end
def iZip4 (K : PySem.W.Frag) (ta : TA) : TI := fun σ H R => ta σ H fun vs H1 => ∃ a b c d, vs = [.ref a, .ref b, .ref c, .ref d] ∧ (∃ xs, SqL K H1 a xs) ∧ (∃ xs, SqL K H1 b xs) ∧ (∃ xs, SqL K H1 c xs) ∧ (∃ xs, SqL K H1 d xs) ∧ R (Itn K [a, b, c, d]) H1
theorem pi_zip4 {X : Cx} {elts : List Expr} {kk : Nat} {tp : Pos} {e1 e2 e3 e4 : Expr} {ta : TA} {p pos : Pos} (hg : Gl X "zip") (hm : X.mg "zip" = none) (ha : PA X [e1, e2, e3, e4] ta)
    (hs : starEach [e1, e2, e3, e4] X.env = (false, eval e1 X.env) :: starEach [e2, e3, e4] X.env := by rfl) (hs2 : (backTo pos (starEach [e2, e3, e4] X.env)).any (·.1) = false := by rfl) :
    PI X (.Tuple elts kk tp) (.Call (.Name "zip" p) [e1, e2, e3, e4] [] pos) (iZip4 X.K ta) := by
  intro pins s σ H R I h
  refine Call_ (ld_blt I hg hm boot_zipT (PyProof.Rows.callWith_type1 (thn (ha pos pins s σ H _ I h) fun us s1 ⟨vs, H1, I1, r1, q1⟩ => ?_) hs hs2))
  obtain ⟨a, b, c, d, e, ⟨w1, q1⟩, ⟨w2, q2⟩, ⟨w3, q3⟩, ⟨w4, q4⟩, q⟩ := q1
  subst e
  cases r1 with
  | cons r1 rr => cases rr with
    | cons r2 rr => cases rr with
      | cons r3 rr => cases rr with
        | cons r4 rr =>
          cases rr
          cases r1
          cases r2
          cases r3
          cases r4
          obtain ⟨_, _, p1, _⟩ := I1.list q1
          obtain ⟨_, _, p2, _⟩ := I1.list q2
          obtain ⟨_, _, p3, _⟩ := I1.list q3
          obtain ⟨_, _, p4, _⟩ := I1.list q4
          have lt : ∀ {a xs}, s1.heap.IsList a xs → a < s1.heap.objs.size := fun p => by obtain ⟨_, e, _⟩ := p; exact Heap.lt_size e
          refine call_zip4 p1.isList p2.isList p3.isList p4.isList fun h' t0 k => wpAny_pyIter_zip t0.1 ?_
          refine ⟨_, _, _, _, H1, rfl, I1.kept (t' := s1.toks) k, turn_zipn (zapart4 (lt p1.isList) (lt p2.isList) (lt p3.isList) (lt p4.isList)) (by show 0 < 4; decide) (by show 4 ≤ 100; decide), t0, fun c hc => ?_, q⟩
          have le : s1.heap.objs.size ≤ c := by
            simp only [zL, List.map_cons, List.map_nil, List.mem_cons, List.not_mem_nil, or_false] at hc
            unfold Addr at *
            omega
          exact I1.fpOk le (I1.hok.fresh le)
end L2

set_option Elab.async false
set_option linter.all false
set_option maxRecDepth 100000
set_option maxHeartbeats 4000000
namespace L2
open PySem PySem.Spec PyProof.Rows
/-- a loop over any iterator, by the turn's number -/
theorem for_it {J : It} {g : TG} {tb : TS} {D : Ends} {σ : St} {H : Hp} (n : Nat) (Pv : Nat → St → Hp → Prop) (h0 : Pv 0 σ H)
    (hs : ∀ i σ H, i < n → Pv i σ H → J.go i H ∧ ∀ x H', J.yld i H x H' → g x σ H' fun σ2 H2 => tb { D with nx := Pv (i + 1), ct := Pv (i + 1), bk := D.nx } σ2 H2) (hd : ∀ σ H, Pv n σ H → J.stop n H ∧ D.nx σ H) :
    ∃ W : Nat → Nat → St → Hp → Prop, (∃ m, W 0 m σ H) ∧ ∀ i m σ H, W i m σ H →
      (J.stop i H ∧ D.nx σ H) ∨ (J.go i H ∧ ∃ N : St → Hp → Prop, (∀ σ' H', N σ' H' → ∃ m', m' < m ∧ W (i + 1) m' σ' H') ∧ ∀ x H', J.yld i H x H' → g x σ H' fun σ2 H2 => tb { D with nx := N, ct := N, bk := D.nx } σ2 H2) := by
  refine ⟨fun i m σ H => m = n - i ∧ i ≤ n ∧ Pv i σ H, ⟨n, rfl, Nat.zero_le _, h0⟩, ?_⟩
  rintro i m σ H ⟨rfl, hi, p⟩
  by_cases hlt : i < n
  · obtain ⟨go, st⟩ := hs i σ H hlt p
    exact .inr ⟨go, Pv (i + 1), fun σ' H' q => ⟨n - (i + 1), by omega, rfl, hlt, q⟩, st⟩
  · have e : i = n := by omega
    subst e
    exact .inl (hd σ H p)
/-- no exception comes -/
theorem passes_no {P : Program} {w : World} {X : Cx} : PassesX (CXo P w) X (fun _ _ _ _ => False) := fun _ _ _ _ _ _ _ ⟨_, _, _, _, _, _, _, _, _, z⟩ => z.elim
theorem same_refl {H : Hp} : Same H H := fun _ _ z => z
theorem same_new {H : Hp} {l : Addr} {o : HO} (h : H l = none) : Same H (upd H l o) := fun b u z => by rw [upd_ne (ne_of_none z h)]; exact z
/-- all but what stands at one place -/
theorem py_min (i j : Int) : (if j < i then j else i) = min i j := by
  by_cases h : j < i
  · rw [if_pos h]; omega
  · rw [if_neg h]; omega
end L2

set_option Elab.async false
set_option linter.all false
set_option maxRecDepth 100000
set_option maxHeartbeats 4000000
namespace L2
open PySem PySem.Spec PyProof.Rows
section
variable {X : Cx}
/-- sum of a list of ints -/
theorem call_sum (hc : X.calm = true) : CallR X (.builtin "sum") (fun xs H Q => ∃ (p : Addr) (ns : List Int), xs = [.ref p] ∧ SqL X.K H p (ns.map V.int) ∧ Q (.int ns.sum) H) := by
  intro pins s σ H xs us Q I r h
  obtain ⟨p, ns, rfl, hq, q⟩ := h
  obtain ⟨u, rfl, rx⟩ := vals1 r
  cases rx
  obtain ⟨its, r', pl, hz⟩ := I.list hq
  have hi : IntsAre its ns := intsAre_of r'
  obtain ⟨xs, hx⟩ := hi.allInts.items
  have hl' : s.heap.IsList p (intItems xs) := hx ▸ pl.isList
  refine sum_intListG (show X.A.handled = none from I.ok.hd hc) hl' fun h' tk t' hk => ?_
  have e1 : ns = xs.toList.map (·.1) := by
    rw [← nums_intItems, ← hx]
    exact (show numsOf its.toArray.toList = ns from hi.numsOf).symm
  have e2 : preSum (numAt xs) xs.size = ns.sum := by
    rw [preSum_eq, List.take_of_length_le (by simp), e1]
  rw [e2]
  exact ⟨.int ns.sum, H, I.kept (t' := tk) hk, ⟨t', rfl⟩, q⟩
theorem boot_sum : bootBuiltins "sum" = some (.builtin "sum") := by decide +kernel
end
/-! ### enumerate of a list -/
def Ite (K : PySem.W.Frag) (a : Addr) : It :=
  ⟨fun i H => ∃ xs x, SqL K H a xs ∧ xs[i]? = some x,
   fun i H v H' => ∃ T x, v = .ref T ∧ H T = none ∧ H' = upd H T (.tup [.int (i : Int), x]) ∧ ∀ xs, SqL K H a xs → xs[i]? = some x,
   fun i H => ∃ xs, SqL K H a xs ∧ xs.length ≤ i⟩
def enumTn (a e it : Addr) (i : Nat) (h : Heap) : Prop := (∃ old, IsEnum h e it (i : Int) old) ∧ h.IsListIter it a i
def iEnum (K : PySem.W.Frag) (ta : TA) : TI := fun σ H R => ta σ H fun vs H1 => ∃ a, vs = [.ref a] ∧ (∃ xs, SqL K H1 a xs) ∧ R (Ite K a) H1
end L2
namespace L2
theorem ne_t {a b : Int} (h : (!decide (V.int a = V.int b)) = true) : a ≠ b := by
  intro z
  rw [z] at h
  simp at h
theorem ne_f {a b : Int} (h : ¬ (!decide (V.int a = V.int b)) = true) : a = b := by
  by_cases z : a = b
  · exact z
  · exact absurd (by have : V.int a ≠ V.int b := fun q => z (by injection q)
                     simp [this]) h
theorem eq_t {a b : Int} (h : decide (V.int a = V.int b) = true) : a = b := by
  have := of_decide_eq_true h
  injection this
theorem eq_f {a b : Int} (h : ¬ decide (V.int a = V.int b) = true) : a ≠ b := fun z => h (by rw [z]; simp)
theorem not_f {b : Bool} (h : ¬ (!b) = true) : b = true := by simpa using h
end L2
namespace L2
end L2
namespace L2
open PySem
def rLen (K : PySem.W.Frag) : List V → Hp → VK → Prop := fun xs H Q => ∃ p ys, xs = [.ref p] ∧ (SqL K H p ys ∨ SqT K H p ys) ∧ Q (.int ys.length) H
def rSum (K : PySem.W.Frag) : List V → Hp → VK → Prop := fun xs H Q => ∃ (p : Addr) (ns : List Int), xs = [.ref p] ∧ SqL K H p (ns.map V.int) ∧ Q (.int ns.sum) H
def rListOf (K : PySem.W.Frag) : List V → Hp → VK → Prop := fun xs H Q => ∃ p ys, xs = [.ref p] ∧ (SqL K H p ys ∨ SqT K H p ys) ∧ ∀ l, H l = none → Q (.ref l) (upd H l (.lst ys))
end L2
namespace L2
open PySem
def rIsi (K : PySem.W.Frag) : List V → Hp → VK → Prop := fun xs H Q => ∃ x c t b, xs = [x, c] ∧ TyOf K H x t ∧ clsV c ≠ Value.none ∧ PySem.W.kitOne K t (clsV c) = some b ∧ Q (.bl b) H
end L2

set_option Elab.async false
set_option linter.all false
set_option maxRecDepth 100000
set_option maxHeartbeats 4000000
namespace L2
open PySem PySem.Spec PyProof.Rows
/-! ### min, max of a list of ints with a default -/
section
variable {prog : Program} {w : World} {A : Around} {R : Result → Shared → Prop} {it : Addr} {fp wr : List Addr} {n : Nat} {Pv : Nat → Value → Prop} {Sv : Nat → Heap → Prop} {dv : Value}
abbrev best2 (v : Value) (c : Nat) : Obj := { cls := .type "list", dict := none, data := .seq #[v, v] c, slots := #[] }
abbrev best0 (c : Nat) : Obj := { cls := .type "list", dict := none, data := .seq #[] c, slots := #[] }
abbrev kwD (dv : Value) : List (Str × Value) := [("default", dv)]
theorem min_turns (Wk : Walks prog w A.in1 it fp wr n Pv Sv) (bt : Nat → Nat → Bool) (cmp : CmpOf prog w A.in1 .Lt Pv bt) (bo : Addr) (nbo : bo ∉ fp) :
    ∀ (todo at' : Nat) (sh : Shared) (bv : Value) (cc : Nat), n - (at' + 1) = todo → at' + 1 ≤ n → Sv (at' + 1) sh.heap → Pv (argBest bt at') bv → sh.heap.get? bo = some (best2 bv cc) →
    (∀ rv hz tz, Pv (argBest bt (n - 1)) rv → (∀ b o, b ∉ wr → b ≠ bo → sh.heap.get? b = some o → hz.get? b = some o) → R (.ok (.ret rv)) { sh with heap := hz, toks := tz }) →
    codeAny (model prog w) A (.builtin "min.loop" ⟨[.ref it, .none, .ref bo], kwD dv⟩) R sh := by
  have nbw : bo ∉ wr := fun z => nbo (Wk.sub _ z)
  have nm : (toString "min" ++ toString ".loop" : String) = "min.loop" := by decide
  intro todo
  induction todo with
  | zero =>
    intro at' sh bv cc e1 e2 sv pb ob fin
    have en : at' + 1 = n := by omega
    refine codeAny_builtin PySem.F.entry_min_loop ?_
    rw [Around.under_plainId PySem.F.plain_min_loop _]
    show wpAny _ A.in1 (seqItems? (.ref bo) >>= _) _ _ sh
    refine wpAny_bind (wpAny_seqItems ob rfl ?_)
    show wpAny _ A.in1 (tryCatch (pyNext (.ref it)) _ >>= _) _ _ sh
    refine wpAny_bind (wpAny_tryCatch (Wk.done sh _ _ (en ▸ sv) fun hz tz kz => ?_))
    have ob2 := kz bo _ nbw ob
    show wpAny _ A.in1 (updateSeq bo (fun _ => #[]) >>= _) _ _ _
    refine wpAny_bind ?_
    refine wpAny_updateSeq ob2 rfl (wpAny_bind (wpAny_letGo (wpAny_pure ?_)))
    exact fin bv _ tz (by rw [← en]; exact pb) fun b o h1 h2 e => (Heap.get?_update_other _ _ (Ne.symm h2)).trans (kz b o h1 e)
  | succ todo more =>
    intro at' sh bv cc e1 e2 sv pb ob fin
    have lt : at' + 1 < n := by omega
    refine codeAny_builtin PySem.F.entry_min_loop ?_
    rw [Around.under_plainId PySem.F.plain_min_loop _]
    show wpAny _ A.in1 (seqItems? (.ref bo) >>= _) _ _ sh
    refine wpAny_bind (wpAny_seqItems ob rfl ?_)
    show wpAny _ A.in1 (tryCatch (pyNext (.ref it)) _ >>= _) _ _ sh
    refine wpAny_bind (wpAny_tryCatch (Wk.item (at' + 1) sh _ _ lt sv fun v hz tz pv' sv' kz => ?_))
    have ob2 := kz bo _ nbw ob
    show wpAny _ A.in1 (tryCatch (holding [v, v] (richCompare .Lt v bv >>= _)) _ >>= _) _ _ _
    refine wpAny_bind (wpAny_tryCatch (wpAny_holding (wpAny_bind (cmp (at' + 1) (argBest bt at') v bv _ _ _ pv' pb ?_))))
    refine wpAny_bind (wpAny_holding (wpAny_truthy_bool ?_))
    refine wpAny_bind (wpAny_letGo (wpAny_pure ?_))
    cases eb : bt (at' + 1) (argBest bt at') with
    | true =>
      simp only [if_true]
      refine wpAny_bind ?_
      refine wpAny_updateSeq ob2 rfl (wpAny_bind (wpAny_letGo ?_))
      rw [nm]
      refine wpAny_pure ⟨plainId_quiet PySem.F.plain_min_loop _, more (at' + 1) _ v _ (by omega) lt (Wk.frame _ _ _ sv' fun b hb o e => ?_) (by simp only [argBest, eb, if_true]; exact pv') (Heap.get?_update_self _ ob2 rfl) fun rv hy ty p3 k3 => ?_⟩
      · exact (Heap.get?_update_other _ _ (fun z : bo = b => nbo (by rw [z]; exact hb))).trans e
      · exact fin rv hy ty p3 fun b o h1 h2 e => k3 b o h1 h2 ((Heap.get?_update_other _ _ (Ne.symm h2)).trans (kz b o h1 e))
    | false =>
      simp only [Bool.false_eq_true, if_false]
      refine wpAny_bind (wpAny_letGo ?_)
      rw [nm]
      refine wpAny_pure ⟨plainId_quiet PySem.F.plain_min_loop _, more (at' + 1) _ bv cc (by omega) lt sv' (by simp only [argBest, eb, Bool.false_eq_true, if_false]; exact pb) ob2 fun rv hy ty p3 k3 => ?_⟩
      exact fin rv hy ty p3 fun b o h1 h2 e => k3 b o h1 h2 (kz b o h1 e)
theorem max_turns (Wk : Walks prog w A.in1 it fp wr n Pv Sv) (bt : Nat → Nat → Bool) (cmp : CmpOf prog w A.in1 .Gt Pv bt) (bo : Addr) (nbo : bo ∉ fp) :
    ∀ (todo at' : Nat) (sh : Shared) (bv : Value) (cc : Nat), n - (at' + 1) = todo → at' + 1 ≤ n → Sv (at' + 1) sh.heap → Pv (argBest bt at') bv → sh.heap.get? bo = some (best2 bv cc) →
    (∀ rv hz tz, Pv (argBest bt (n - 1)) rv → (∀ b o, b ∉ wr → b ≠ bo → sh.heap.get? b = some o → hz.get? b = some o) → R (.ok (.ret rv)) { sh with heap := hz, toks := tz }) →
    codeAny (model prog w) A (.builtin "max.loop" ⟨[.ref it, .none, .ref bo], kwD dv⟩) R sh := by
  have nbw : bo ∉ wr := fun z => nbo (Wk.sub _ z)
  have nm : (toString "max" ++ toString ".loop" : String) = "max.loop" := by decide
  intro todo
  induction todo with
  | zero =>
    intro at' sh bv cc e1 e2 sv pb ob fin
    have en : at' + 1 = n := by omega
    refine codeAny_builtin PySem.F.entry_max_loop ?_
    rw [Around.under_plainId PySem.F.plain_max_loop _]
    show wpAny _ A.in1 (seqItems? (.ref bo) >>= _) _ _ sh
    refine wpAny_bind (wpAny_seqItems ob rfl ?_)
    show wpAny _ A.in1 (tryCatch (pyNext (.ref it)) _ >>= _) _ _ sh
    refine wpAny_bind (wpAny_tryCatch (Wk.done sh _ _ (en ▸ sv) fun hz tz kz => ?_))
    have ob2 := kz bo _ nbw ob
    show wpAny _ A.in1 (updateSeq bo (fun _ => #[]) >>= _) _ _ _
    refine wpAny_bind ?_
    refine wpAny_updateSeq ob2 rfl (wpAny_bind (wpAny_letGo (wpAny_pure ?_)))
    exact fin bv _ tz (by rw [← en]; exact pb) fun b o h1 h2 e => (Heap.get?_update_other _ _ (Ne.symm h2)).trans (kz b o h1 e)
  | succ todo more =>
    intro at' sh bv cc e1 e2 sv pb ob fin
    have lt : at' + 1 < n := by omega
    refine codeAny_builtin PySem.F.entry_max_loop ?_
    rw [Around.under_plainId PySem.F.plain_max_loop _]
    show wpAny _ A.in1 (seqItems? (.ref bo) >>= _) _ _ sh
    refine wpAny_bind (wpAny_seqItems ob rfl ?_)
    show wpAny _ A.in1 (tryCatch (pyNext (.ref it)) _ >>= _) _ _ sh
    refine wpAny_bind (wpAny_tryCatch (Wk.item (at' + 1) sh _ _ lt sv fun v hz tz pv' sv' kz => ?_))
    have ob2 := kz bo _ nbw ob
    show wpAny _ A.in1 (tryCatch (holding [v, v] (richCompare .Gt v bv >>= _)) _ >>= _) _ _ _
    refine wpAny_bind (wpAny_tryCatch (wpAny_holding (wpAny_bind (cmp (at' + 1) (argBest bt at') v bv _ _ _ pv' pb ?_))))
    refine wpAny_bind (wpAny_holding (wpAny_truthy_bool ?_))
    refine wpAny_bind (wpAny_letGo (wpAny_pure ?_))
    cases eb : bt (at' + 1) (argBest bt at') with
    | true =>
      simp only [if_true]
      refine wpAny_bind ?_
      refine wpAny_updateSeq ob2 rfl (wpAny_bind (wpAny_letGo ?_))
      rw [nm]
      refine wpAny_pure ⟨plainId_quiet PySem.F.plain_max_loop _, more (at' + 1) _ v _ (by omega) lt (Wk.frame _ _ _ sv' fun b hb o e => ?_) (by simp only [argBest, eb, if_true]; exact pv') (Heap.get?_update_self _ ob2 rfl) fun rv hy ty p3 k3 => ?_⟩
      · exact (Heap.get?_update_other _ _ (fun z : bo = b => nbo (by rw [z]; exact hb))).trans e
      · exact fin rv hy ty p3 fun b o h1 h2 e => k3 b o h1 h2 ((Heap.get?_update_other _ _ (Ne.symm h2)).trans (kz b o h1 e))
    | false =>
      simp only [Bool.false_eq_true, if_false]
      refine wpAny_bind (wpAny_letGo ?_)
      rw [nm]
      refine wpAny_pure ⟨plainId_quiet PySem.F.plain_max_loop _, more (at' + 1) _ bv cc (by omega) lt sv' (by simp only [argBest, eb, Bool.false_eq_true, if_false]; exact pb) ob2 fun rv hy ty p3 k3 => ?_⟩
      exact fin rv hy ty p3 fun b o h1 h2 e => k3 b o h1 h2 (kz b o h1 e)
/-- the first turn, or none -/
theorem min_start (Wk : Walks prog w A.in1 it fp wr n Pv Sv) (bt : Nat → Nat → Bool) (cmp : CmpOf prog w A.in1 .Lt Pv bt) (bo : Addr) (nbo : bo ∉ fp) {sh : Shared} {cc : Nat} (sv : Sv 0 sh.heap) (ob : sh.heap.get? bo = some (best0 cc))
    (fin : ∀ rv hz tz, (0 < n → Pv (argBest bt (n - 1)) rv) → (n = 0 → rv = dv) → (∀ b o, b ∉ wr → b ≠ bo → sh.heap.get? b = some o → hz.get? b = some o) → R (.ok (.ret rv)) { sh with heap := hz, toks := tz }) :
    codeAny (model prog w) A (.builtin "min.loop" ⟨[.ref it, .none, .ref bo], kwD dv⟩) R sh := by
  have nbw : bo ∉ wr := fun z => nbo (Wk.sub _ z)
  have nm : (toString "min" ++ toString ".loop" : String) = "min.loop" := by decide
  refine codeAny_builtin PySem.F.entry_min_loop ?_
  rw [Around.under_plainId PySem.F.plain_min_loop _]
  show wpAny _ A.in1 (seqItems? (.ref bo) >>= _) _ _ sh
  refine wpAny_bind (wpAny_seqItems ob rfl ?_)
  show wpAny _ A.in1 (tryCatch (pyNext (.ref it)) _ >>= _) _ _ sh
  by_cases h0 : 0 < n
  · refine wpAny_bind (wpAny_tryCatch (Wk.item 0 sh _ _ h0 sv fun v hz tz pv' sv' kz => ?_))
    have ob2 := kz bo _ nbw ob
    show wpAny _ A.in1 (updateSeq bo (fun _ => #[v, v]) >>= _) _ _ _
    refine wpAny_bind ?_
    refine wpAny_updateSeq ob2 rfl ?_
    rw [nm]
    refine wpAny_pure ⟨plainId_quiet PySem.F.plain_min_loop _, min_turns Wk bt cmp bo nbo _ 0 _ v _ rfl h0 (Wk.frame _ _ _ sv' fun b hb o e => ?_) pv' (Heap.get?_update_self _ ob2 rfl) fun rv hy ty p3 k3 => ?_⟩
    · exact (Heap.get?_update_other _ _ (fun z : bo = b => nbo (by rw [z]; exact hb))).trans e
    · exact fin rv hy ty (fun _ => p3) (fun z => absurd z (by omega)) fun b o h1 h2 e => k3 b o h1 h2 ((Heap.get?_update_other _ _ (Ne.symm h2)).trans (kz b o h1 e))
  · have en : n = 0 := by omega
    subst en
    refine wpAny_bind (wpAny_tryCatch (Wk.done sh _ _ sv fun hz tz kz => ?_))
    refine wpAny_bind (wpAny_rule ?_)
    exact wpAny_pure (fin dv hz tz (fun z => absurd z (by omega)) (fun _ => rfl) fun b o h1 _ e => kz b o h1 e)
theorem max_start (Wk : Walks prog w A.in1 it fp wr n Pv Sv) (bt : Nat → Nat → Bool) (cmp : CmpOf prog w A.in1 .Gt Pv bt) (bo : Addr) (nbo : bo ∉ fp) {sh : Shared} {cc : Nat} (sv : Sv 0 sh.heap) (ob : sh.heap.get? bo = some (best0 cc))
    (fin : ∀ rv hz tz, (0 < n → Pv (argBest bt (n - 1)) rv) → (n = 0 → rv = dv) → (∀ b o, b ∉ wr → b ≠ bo → sh.heap.get? b = some o → hz.get? b = some o) → R (.ok (.ret rv)) { sh with heap := hz, toks := tz }) :
    codeAny (model prog w) A (.builtin "max.loop" ⟨[.ref it, .none, .ref bo], kwD dv⟩) R sh := by
  have nbw : bo ∉ wr := fun z => nbo (Wk.sub _ z)
  have nm : (toString "max" ++ toString ".loop" : String) = "max.loop" := by decide
  refine codeAny_builtin PySem.F.entry_max_loop ?_
  rw [Around.under_plainId PySem.F.plain_max_loop _]
  show wpAny _ A.in1 (seqItems? (.ref bo) >>= _) _ _ sh
  refine wpAny_bind (wpAny_seqItems ob rfl ?_)
  show wpAny _ A.in1 (tryCatch (pyNext (.ref it)) _ >>= _) _ _ sh
  by_cases h0 : 0 < n
  · refine wpAny_bind (wpAny_tryCatch (Wk.item 0 sh _ _ h0 sv fun v hz tz pv' sv' kz => ?_))
    have ob2 := kz bo _ nbw ob
    show wpAny _ A.in1 (updateSeq bo (fun _ => #[v, v]) >>= _) _ _ _
    refine wpAny_bind ?_
    refine wpAny_updateSeq ob2 rfl ?_
    rw [nm]
    refine wpAny_pure ⟨plainId_quiet PySem.F.plain_max_loop _, max_turns Wk bt cmp bo nbo _ 0 _ v _ rfl h0 (Wk.frame _ _ _ sv' fun b hb o e => ?_) pv' (Heap.get?_update_self _ ob2 rfl) fun rv hy ty p3 k3 => ?_⟩
    · exact (Heap.get?_update_other _ _ (fun z : bo = b => nbo (by rw [z]; exact hb))).trans e
    · exact fin rv hy ty (fun _ => p3) (fun z => absurd z (by omega)) fun b o h1 h2 e => k3 b o h1 h2 ((Heap.get?_update_other _ _ (Ne.symm h2)).trans (kz b o h1 e))
  · have en : n = 0 := by omega
    subst en
    refine wpAny_bind (wpAny_tryCatch (Wk.done sh _ _ sv fun hz tz kz => ?_))
    refine wpAny_bind (wpAny_rule ?_)
    exact wpAny_pure (fin dv hz tz (fun z => absurd z (by omega)) (fun _ => rfl) fun b o h1 _ e => kz b o h1 e)
end
section
variable {prog : Program} {w : World} {A : Around} {E : Value → Shared → Prop} {s : Shared}
theorem args_minD (a d : Value) : argsOk "min" ⟨[a], kwD d⟩ := by unfold argsOk; kernel_rfl
theorem args_maxD (a d : Value) : argsOk "max" ⟨[a], kwD d⟩ := by unfold argsOk; kernel_rfl
/-- a call that goes on in turns, keywords too -/
theorem call_turns {id : String} {b : Builtin} {args : List Value} {kw : List (Str × Value)} {Q : Value → Shared → Prop} (hk : builtinKind id = none) (hp : plainId id = true) (hb : entryFor table id = some b) (ha : argsOk id ⟨args, kw⟩)
    (hc : wpAny (model prog w) A.in1 (b ⟨args, kw⟩) (fun fin s' => match fin with
      | .done f => (match (Except.ok f : Result) with | .ok (.ret v) => Q v s' | .ok _ => False | .error e => E e s')
      | .again c' => c'.quiet = true ∧ codeAny (model prog w) A c' (fun r s' => match r with | .ok (.ret v) => Q v s' | .ok _ => False | .error e => E e s') s') E s) :
    wpAny (model prog w) A (call (.builtin id) args kw) Q E s := by
  refine wpAny_call (codeAny_call_builtin hp hb ?_)
  simp only [checkBuiltinCall, hk]
  cases es : Manifest.signature? id with
  | none => exact wpAny_pure hc
  | some sig =>
    simp only [argsOk, es] at ha
    have h2 : Bind.checkArgs id sig ⟨args, kw⟩ = pure () := ha
    show wpAny _ A.in1 (Bind.checkArgs id sig ⟨args, kw⟩) _ _ s
    rw [h2]
    exact wpAny_pure hc
theorem call_minD {x : Value} {d : Value} {Q : Value → Shared → Prop}
    (h : wpAny (model prog w) A.in1 (pyIter x) (fun itv s2 => ∃ it fp wr n Pv Sv bt, itv = .ref it ∧ Walks prog w A.in1 it fp wr n Pv Sv ∧ Sv 0 s2.heap ∧ (∀ b ∈ fp, b < s2.heap.objs.size) ∧ CmpOf prog w A.in1 .Lt Pv bt ∧
      ∀ v hz tz, (0 < n → Pv (argBest bt (n - 1)) v) → (n = 0 → v = d) → (∀ b o, b ∉ wr → s2.heap.get? b = some o → hz.get? b = some o) → Q v { s2 with heap := hz, toks := tz }) E s) :
    wpAny (model prog w) A (call (.builtin "min") [x] (kwD d)) Q E s := by
  have nm : (toString "min" ++ toString ".loop" : String) = "min.loop" := by decide
  refine call_turns PySem.F.kind_min PySem.F.plain_min PySem.F.entry_min (args_minD _ _) ?_
  show wpAny _ A.in1 (Builtin.Builtins.bindParams "min" ["key", "default"] 0 ⟨[], kwD d⟩ >>= _) _ _ s
  refine wpAny_bind (wpAny_of_eq (show Builtin.Builtins.bindParams "min" ["key", "default"] 0 ⟨[], kwD d⟩ = pure [none, some d] from rfl) ?_)
  refine wpAny_bind (wpAny_pure ?_)
  refine wpAny_bind (wpAny_mono h (fun itv s2 h2 => ?_) fun _ _ e => e)
  obtain ⟨it, fp, wr, n, Pv, Sv, bt, rfl, Wk, sv, ff, cmp, fin⟩ := h2
  refine wpAny_bind (wpAny_newObj_type ?_)
  have nbo : s2.heap.objs.size ∉ fp := fun z => Nat.lt_irrefl _ (ff _ z)
  rw [nm]
  refine wpAny_pure ⟨plainId_quiet PySem.F.plain_min_loop _, min_start Wk bt cmp s2.heap.objs.size nbo (Wk.frame _ _ _ sv fun b _ o e => Heap.get?_push_of_some _ e) (Heap.get?_push_size _ rfl) fun v hz tz p1 p2 k => ?_⟩
  exact fin v hz tz p1 p2 fun b o h1 e => k b o h1 (Nat.ne_of_lt (Heap.lt_size e)) (Heap.get?_push_of_some _ e)
theorem call_maxD {x : Value} {d : Value} {Q : Value → Shared → Prop}
    (h : wpAny (model prog w) A.in1 (pyIter x) (fun itv s2 => ∃ it fp wr n Pv Sv bt, itv = .ref it ∧ Walks prog w A.in1 it fp wr n Pv Sv ∧ Sv 0 s2.heap ∧ (∀ b ∈ fp, b < s2.heap.objs.size) ∧ CmpOf prog w A.in1 .Gt Pv bt ∧
      ∀ v hz tz, (0 < n → Pv (argBest bt (n - 1)) v) → (n = 0 → v = d) → (∀ b o, b ∉ wr → s2.heap.get? b = some o → hz.get? b = some o) → Q v { s2 with heap := hz, toks := tz }) E s) :
    wpAny (model prog w) A (call (.builtin "max") [x] (kwD d)) Q E s := by
  have nm : (toString "max" ++ toString ".loop" : String) = "max.loop" := by decide
  refine call_turns PySem.F.kind_max PySem.F.plain_max PySem.F.entry_max (args_maxD _ _) ?_
  show wpAny _ A.in1 (Builtin.Builtins.bindParams "max" ["key", "default"] 0 ⟨[], kwD d⟩ >>= _) _ _ s
  refine wpAny_bind (wpAny_of_eq (show Builtin.Builtins.bindParams "max" ["key", "default"] 0 ⟨[], kwD d⟩ = pure [none, some d] from rfl) ?_)
  refine wpAny_bind (wpAny_pure ?_)
  refine wpAny_bind (wpAny_mono h (fun itv s2 h2 => ?_) fun _ _ e => e)
  obtain ⟨it, fp, wr, n, Pv, Sv, bt, rfl, Wk, sv, ff, cmp, fin⟩ := h2
  refine wpAny_bind (wpAny_newObj_type ?_)
  have nbo : s2.heap.objs.size ∉ fp := fun z => Nat.lt_irrefl _ (ff _ z)
  rw [nm]
  refine wpAny_pure ⟨plainId_quiet PySem.F.plain_max_loop _, max_start Wk bt cmp s2.heap.objs.size nbo (Wk.frame _ _ _ sv fun b _ o e => Heap.get?_push_of_some _ e) (Heap.get?_push_size _ rfl) fun v hz tz p1 p2 k => ?_⟩
  exact fin v hz tz p1 p2 fun b o h1 e => k b o h1 (Nat.ne_of_lt (Heap.lt_size e)) (Heap.get?_push_of_some _ e)
end
section
variable {X : Cx}
/-- the word: the least (greatest) of the list, the default where it is empty -/
def rMinD (K : PySem.W.Frag) : List V → List V → Hp → VK → Prop := fun xs ks H Q => ∃ (p : Addr) (ns : List Int) (d : Int), xs = [.ref p] ∧ ks = [.int d] ∧ SqL K H p (ns.map V.int) ∧ ∀ m : Int, (ns = [] → m = d) → (ns ≠ [] → m ∈ ns ∧ ∀ v ∈ ns, m ≤ v) → Q (.int m) H
def rMaxD (K : PySem.W.Frag) : List V → List V → Hp → VK → Prop := fun xs ks H Q => ∃ (p : Addr) (ns : List Int) (d : Int), xs = [.ref p] ∧ ks = [.int d] ∧ SqL K H p (ns.map V.int) ∧ ∀ m : Int, (ns = [] → m = d) → (ns ≠ [] → m ∈ ns ∧ ∀ v ∈ ns, v ≤ m) → Q (.int m) H
def CallKD (X : Cx) (id : String) (r : List V → List V → Hp → VK → Prop) : Prop :=
  ∀ (pins : List (Addr × Obj)) (s : Shared) (σ : St) (H : Hp) (xs ks : List V) (us ws : List Value) (Q : VK), Inv X pins σ H s → Vals xs us → Vals ks ws → r xs ks H Q → ∃ d, ws = [d] ∧ wpAny (model X.prog X.w) X.A (call (.builtin id) us (kwD d)) (EP X pins σ Q) X.xe s
theorem numAt_of {ns : List Int} {its : List Value} {xs : Array (Int × Tok)} (r : Vals (ns.map V.int) its) (hx : its.toArray = intItems xs) : xs.size = ns.length ∧ ∀ i, i < ns.length → numAt xs i = ns.getD i 0 := by
  have hi : IntsAre its ns := intsAre_of r
  have e1 : ns = xs.toList.map (·.1) := by
    rw [← nums_intItems, ← hx]
    exact (show numsOf its.toArray.toList = ns from hi.numsOf).symm
  have e2 : xs.size = ns.length := by rw [e1]; simp
  refine ⟨e2, fun i h => ?_⟩
  have hi' : i < xs.size := by omega
  subst e1
  simp [numAt, hi', List.getD_eq_getElem?_getD]
theorem minD_ok (hc : X.calm = true) : CallKD X "min" (rMinD X.K) := by
  intro pins s σ H xs ks us ws Q I r rk h
  obtain ⟨p, ns, d, rfl, rfl, hq, q⟩ := h
  obtain ⟨u, rfl, ru⟩ := vals1 r
  obtain ⟨dv, rfl, rd⟩ := vals1 rk
  obtain ⟨td, rfl⟩ := rd
  cases ru
  refine ⟨_, rfl, ?_⟩
  obtain ⟨its, r', pl, hz⟩ := I.list hq
  have hi : IntsAre its ns := intsAre_of r'
  obtain ⟨ys, hx⟩ := hi.allInts.items
  have hl' : s.heap.IsList p (intItems ys) := hx ▸ pl.isList
  obtain ⟨e2, en⟩ := numAt_of r' hx
  refine call_minD (iter_intList hl' fun s2 e st hfp hlI => ?_)
  subst e
  refine ⟨_, _, _, _, _, _, _, rfl, Walks.list (A := X.A.in1) (show X.A.in1.handled = none from I.ok.hd hc) _ p hlI (intItems ys), st, hfp, CmpOf.ints_lt (numAt ys) (fun _ _ => intItems_at), fun v h' tk h1 h2 hk => ?_⟩
  have esz : (intItems ys).size = ns.length := by rw [← e2]; simp [intItems]
  have kp := old_kept hk
  rw [esz] at h1 h2
  by_cases h0 : ns = []
  · have := h2 (by rw [h0]; rfl)
    subst this
    exact ⟨.int d, H, I.kept (t' := tk) kp, ⟨td, rfl⟩, q d (fun _ => rfl) fun z => absurd h0 z⟩
  · have hpos : 0 < ns.length := List.length_pos_iff.mpr h0
    obtain ⟨t, rfl⟩ := intItems_at (h1 hpos)
    have hb := argBest_lt (numAt ys) (ns.length - 1)
    have hlt : argBest (fun i j => decide (numAt ys i < numAt ys j)) (ns.length - 1) < ns.length := by omega
    refine ⟨.int _, H, I.kept (t' := tk) kp, ⟨t, rfl⟩, q _ (fun z => absurd z h0) fun _ => ⟨?_, fun v hv => ?_⟩⟩
    · rw [en _ hlt, List.getD_eq_getElem?_getD, List.getElem?_eq_getElem hlt]
      exact List.getElem_mem hlt
    · obtain ⟨j, hj, rfl⟩ := List.getElem_of_mem hv
      have := hb.2 j (by omega)
      rw [en j hj, List.getD_eq_getElem?_getD, List.getElem?_eq_getElem hj] at this
      exact this
theorem maxD_ok (hc : X.calm = true) : CallKD X "max" (rMaxD X.K) := by
  intro pins s σ H xs ks us ws Q I r rk h
  obtain ⟨p, ns, d, rfl, rfl, hq, q⟩ := h
  obtain ⟨u, rfl, ru⟩ := vals1 r
  obtain ⟨dv, rfl, rd⟩ := vals1 rk
  obtain ⟨td, rfl⟩ := rd
  cases ru
  refine ⟨_, rfl, ?_⟩
  obtain ⟨its, r', pl, hz⟩ := I.list hq
  have hi : IntsAre its ns := intsAre_of r'
  obtain ⟨ys, hx⟩ := hi.allInts.items
  have hl' : s.heap.IsList p (intItems ys) := hx ▸ pl.isList
  obtain ⟨e2, en⟩ := numAt_of r' hx
  refine call_maxD (iter_intList hl' fun s2 e st hfp hlI => ?_)
  subst e
  refine ⟨_, _, _, _, _, _, _, rfl, Walks.list (A := X.A.in1) (show X.A.in1.handled = none from I.ok.hd hc) _ p hlI (intItems ys), st, hfp, CmpOf.ints_gt (numAt ys) (fun _ _ => intItems_at), fun v h' tk h1 h2 hk => ?_⟩
  have esz : (intItems ys).size = ns.length := by rw [← e2]; simp [intItems]
  have kp := old_kept hk
  rw [esz] at h1 h2
  by_cases h0 : ns = []
  · have := h2 (by rw [h0]; rfl)
    subst this
    exact ⟨.int d, H, I.kept (t' := tk) kp, ⟨td, rfl⟩, q d (fun _ => rfl) fun z => absurd h0 z⟩
  · have hpos : 0 < ns.length := List.length_pos_iff.mpr h0
    obtain ⟨t, rfl⟩ := intItems_at (h1 hpos)
    have hb := argBest_gt (numAt ys) (ns.length - 1)
    have hlt : argBest (fun i j => decide (numAt ys i > numAt ys j)) (ns.length - 1) < ns.length := by omega
    refine ⟨.int _, H, I.kept (t' := tk) kp, ⟨t, rfl⟩, q _ (fun z => absurd z h0) fun _ => ⟨?_, fun v hv => ?_⟩⟩
    · rw [en _ hlt, List.getD_eq_getElem?_getD, List.getElem?_eq_getElem hlt]
      exact List.getElem_mem hlt
    · obtain ⟨j, hj, rfl⟩ := List.getElem_of_mem hv
      have := hb.2 j (by omega)
      rw [en j hj, List.getD_eq_getElem?_getD, List.getElem?_eq_getElem hj] at this
      exact this
def tKD (r : List V → List V → Hp → VK → Prop) (t tk : TA) : TE := fun σ H Q => t σ H fun vs H1 => tk σ H1 fun zs H2 => r vs zs H2 Q
/-- f(e, default = d), f a built-in one -/
theorem pe_callKD {id : String} {r : List V → List V → Hp → VK → Prop} {x : Str} {p pos kpos : Pos} {e d : Expr} {t : TA} {tk : TE} (hc : CallKD X id r) (hg : Gl X x) (hm : X.mg x = none) (hv : bootBuiltins x = some (.builtin id)) (ha : PA X [e] t) (hd : PE X d tk)
    (hn : x ≠ "__name__" := by decide) (hdb : (x == ("__debug__" : Str)) = false := by decide) (he : backTo pos (starEach [e] X.env) = (false, eval e X.env) :: backTo pos (starEach [] X.env) := by rfl)
    (hpl : (backTo pos (starEach [e] X.env)).any (·.1) = false := by rfl) : PE X (.Call (.Name x p) [e] [⟨some "default", d, kpos⟩] pos) (tKD r t (tCons tk tNil)) := by
  intro pins s σ H Q I h
  refine wpAny_Call_Name_kw (ld_blt I hg hm hv ?_ hn hdb)
  refine PyProof.Rows.callWith_kw (thn (ha pos pins s σ H _ I h) fun us s1 ⟨vs, H1, I1, r1, q1⟩ => ?_) he hpl rfl rfl
  refine thn ((pk_cons hd pk_nil) pos pins s1 σ H1 _ I1 q1) fun ws s2 ⟨zs, H2, I2, rz, q2⟩ => ?_
  obtain ⟨dv, rfl, w2⟩ := hc pins s2 σ H2 vs zs us ws Q I2 r1 rz q2
  exact w2
end
end L2
namespace L2
open PySem PySem.Spec PyProof.Rows
/-- != of two lists of unlike length -/
def rNeLen (K : PySem.W.Frag) (A : Around) : R2 := fun x y H Q => ∃ a b xs ys, x = .ref a ∧ y = .ref b ∧ SqL K H a xs ∧ SqL K H b ys ∧ xs.length ≠ ys.length ∧ A.units < cLine ∧ Q (.bl true) H
theorem op_neLen {X : Cx} : OpR X (compareOp .NotEq) (rNeLen X.K X.A) := by
  intro pins s σ H x y v u Q I rx ry h
  obtain ⟨a, b, xs, ys, rfl, rfl, h1, h2, hne, hu, q⟩ := h
  cases rx
  cases ry
  obtain ⟨its, r, pl, hz⟩ := I.list h1
  obtain ⟨its', r', pl', hz'⟩ := I.list h2
  have e1 := r.length
  have e2 := r'.length
  exact SeqAt.RcNeAt.lists_lengths (A := X.A) pl.isList pl'.isList (by simp; omega) hu _ _ _ _ ⟨.bl true, H, I, rfl, q⟩
end L2

set_option Elab.async false
set_option linter.all false
set_option maxRecDepth 100000
set_option maxHeartbeats 4000000
namespace Z
open PySem L2
def top (i : Nat) : Stmt := PySem.Challenge.pw_cisternyard_k04_water_above_lines.main.body.getD i (.Pass ⟨0, 0, 0, 0⟩)
abbrev sIsWhole : Stmt := top 8
abbrev sAreWhole : Stmt := top 9
abbrev sCheckDay : Stmt := top 10
abbrev sCheckDays : Stmt := top 11
abbrev sCheckLine : Stmt := top 13
abbrev sCheckDL : Stmt := top 14
abbrev sWater : Stmt := top 15
abbrev sWishes : Stmt := top 16
abbrev sCheck : Stmt := top 20
abbrev sInit : Stmt := inClass (top 21) 0
abbrev sRooms : Stmt := inClass (top 21) 1
abbrev sWaters : Stmt := inClass (top 21) 2
abbrev sDay : Stmt := inClass (top 21) 3
abbrev sDrawn : Stmt := top 23
abbrev sWhole : Stmt := top 24
abbrev sRow : Stmt := top 25
abbrev sYardBy : Stmt := top 27
abbrev sDaysBy : Stmt := top 28
abbrev sCopied : Stmt := top 29
abbrev sRun : Stmt := top 30
abbrev sLived : Stmt := top 31
abbrev sLWater : Stmt := top 32
abbrev sLWishes : Stmt := top 33
abbrev sTold : Stmt := top 35
abbrev sSpoilt : Stmt := top 36
abbrev sLineSpoilt : Stmt := top 37
abbrev sLaw : Stmt := top 38
theorem boot_max : bootBuiltins "max" = some (.builtin "max") := by decide +kernel
theorem boot_min : bootBuiltins "min" = some (.builtin "min") := by decide +kernel
theorem boot_tup : bootBuiltins "tuple" = some (.type "tuple") := by decide +kernel
theorem boot_isi : bootBuiltins "isinstance" = some (.builtin "isinstance") := by decide +kernel
theorem boot_int : bootBuiltins "int" = some (.type "int") := by decide +kernel
theorem boot_bool : bootBuiltins "bool" = some (.type "bool") := by decide +kernel
theorem boot_lst : bootBuiltins "list" = some (.type "list") := by decide +kernel
theorem boot_ve : bootBuiltins "ValueError" = some (.type "ValueError") := by decide +kernel
theorem boot_alls : bootBuiltins "all" = some (.builtin "all") := by decide +kernel
theorem boot_anys : bootBuiltins "any" = some (.builtin "any") := by decide +kernel

/-! ### the data -/
abbrev iL (ns : List Int) : List V := ns.map V.int
structure Good (rs ws : List Int) : Prop where
  n1 : 1 ≤ rs.length
  n4 : rs.length ≤ 4
  eq : ws.length = rs.length
  all : ∀ (i : Nat) (r w : Int), rs[i]? = some r → ws[i]? = some w → 0 ≤ r ∧ r ≤ 50 ∧ 0 ≤ w ∧ w ≤ r
theorem sl : ¬ (("sizes" : Str) = "levels") := by decide +kernel
def fl (sz lv : Addr) : List (Str × V) := putF "levels" (.ref lv) (putF "sizes" (.ref sz) [])
theorem fl_sizes (sz lv : Addr) : (fl sz lv).lookup ("sizes" : Str) = some (.ref sz) := by
  unfold fl
  rw [lookup_putF, if_neg sl, lookup_putF, if_pos rfl]
theorem fl_levels (sz lv : Addr) : (fl sz lv).lookup ("levels" : Str) = some (.ref lv) := by
  unfold fl
  rw [lookup_putF, if_pos rfl]
theorem fl_no (sz lv : Addr) {m : Str} (h1 : ¬ m = "levels") (h2 : ¬ m = "sizes") : (fl sz lv).lookup m = none := by
  unfold fl
  rw [lookup_putF, if_neg h1, lookup_putF, if_neg h2]
  all_goals rfl
/-- a Yard stands at y, its lists at sz and lv -/
structure YardAt (C : Addr) (H : Hp) (y sz lv : Addr) (rs ws : List Int) : Prop where
  ob : ∃ dx, H y = some (.ins C dx (fl sz lv))
  sz : H sz = some (.lst (iL rs))
  lv : H lv = some (.lst (iL ws))
/-! ### the promises -/
def spIW : Sp := fun vs H Q _ => ∃ v m : Int, vs = [.int v, .int m] ∧ Q (.bl (decide (0 ≤ v ∧ v ≤ m))) H
def spAW : Sp := fun vs H Q _ => ∃ (p : Addr) (ns : List Int) (m : Int), vs = [.ref p, .int m] ∧ H p = some (.lst (iL ns)) ∧ ns.length ≤ 100 ∧ ∀ H', Same H H' → Q (.bl (ns.all fun v => decide (0 ≤ v ∧ v ≤ m))) H'
def spCheck (cB : Addr) : Sp := fun vs H Q E => ∃ (p q : Addr) (rs ws : List Int), vs = [.ref p, .ref q] ∧ H p = some (.lst (iL rs)) ∧ H q = some (.lst (iL ws)) ∧ rs.length ≤ 100 ∧ ws.length ≤ 100 ∧
  (Good rs ws → ∀ H', Same H H' → Q .non H') ∧ (¬ Good rs ws → ∀ H', Same H H' → E (.ref cB) none H')
def spInit (C cB : Addr) : Sp := fun vs H Q E => ∃ (x dx p q : Addr) (rs ws : List Int), vs = [.ref x, .ref p, .ref q] ∧ H x = some (.ins C dx []) ∧ H p = some (.lst (iL rs)) ∧ H q = some (.lst (iL ws)) ∧ rs.length ≤ 100 ∧ ws.length ≤ 100 ∧
  (Good rs ws → ∀ (sz lv : Addr) (H' : Hp), H sz = none → H lv = none → sz ≠ lv → YardAt C H' x sz lv rs ws → (∀ b o, H b = some o → b ≠ x → H' b = some o) → Q .non H') ∧ (¬ Good rs ws → ∀ H', Same H H' → E (.ref cB) none H')
def spRooms (C : Addr) : Sp := fun vs H Q _ => ∃ (y sz lv : Addr) (rs ws : List Int), vs = [.ref y] ∧ YardAt C H y sz lv rs ws ∧ ∀ l, H l = none → Q (.ref l) (upd H l (.lst (iL rs)))
def spWaters (C : Addr) : Sp := fun vs H Q _ => ∃ (y sz lv : Addr) (rs ws : List Int), vs = [.ref y] ∧ YardAt C H y sz lv rs ws ∧ ∀ l, H l = none → Q (.ref l) (upd H l (.lst (iL ws)))
structure Txt (K : PySem.W.Frag) (mg : Str → Option Value) (C cY cB cD cL cT : Addr) : Prop where
  cl : Cls K C
  nS : NoAttr K C "sizes"
  nL : NoAttr K C "levels"
  mgC : mg "Yard" = some (.ref C)
  mgY : mg "YardError" = some (.ref cY)
  exB : ExcC K mg "BadYard" cB
  exD : ExcC K mg "BadDays" cD
  exL : ExcC K mg "BadLine" cL
  kD : ExcK K cD
  exmD : PySem.W.exmOne K (.ref cD) (.ref cY) = some true
  iDB : PySem.W.kitOne K (.ref cD) (.ref cB) = some false
  iDD : PySem.W.kitOne K (.ref cD) (.ref cD) = some true
  iDL : PySem.W.kitOne K (.ref cD) (.ref cL) = some false
  iDV : PySem.W.kitOne K (.ref cD) (.type "ValueError") = some true
  kL : ExcK K cL
  exmL : PySem.W.exmOne K (.ref cL) (.ref cY) = some true
  iLB : PySem.W.kitOne K (.ref cL) (.ref cB) = some false
  iLD : PySem.W.kitOne K (.ref cL) (.ref cD) = some false
  iLL : PySem.W.kitOne K (.ref cL) (.ref cL) = some true
  iLV : PySem.W.kitOne K (.ref cL) (.type "ValueError") = some true
  len : mg "len" = none
  range : mg "range" = none
  isi : mg "isinstance" = none
  list : mg "list" = none
  all : mg "all" = none
  any : mg "any" = none
  zip : mg "zip" = none
  int : mg "int" = none
  bool : mg "bool" = none
  ve : mg "ValueError" = none
  min : mg "min" = none
  tup : mg "tuple" = none
  max : mg "max" = none
  sum : mg "sum" = none
  enu : mg "enumerate" = none
  str : mg "str" = none
  m50 : ∃ t, mg "MOST_ROOM" = some (.int 50 t)
  m4 : ∃ t, mg "MOST_TANKS" = some (.int 4 t)
  m30 : ∃ t, mg "MOST_IN_A_DAY" = some (.int 30 t)
  m8 : ∃ t, mg "MOST_DAYS" = some (.int 8 t)
  ki : PySem.W.kitOne K (.type "int") (.type "int") = some true
  kib : PySem.W.kitOne K (.type "int") (.type "bool") = some false
  kll : PySem.W.kitOne K (.type "list") (.type "list") = some true
  ktt : PySem.W.kitOne K (.type "tuple") (.type "tuple") = some true
  kbb : PySem.W.kitOne K (.type "bool") (.type "bool") = some true
  kss : PySem.W.kitOne K (.type "str") (.type "str") = some true
section
variable {P : Program} {w : World} {K : PySem.W.Frag} {mg : Str → Option Value} {base : Heap} {C cY cB cD cL cT : Addr}
theorem scIW : FnScope ["value", "most"] ["value", "most"] (defScope sIsWhole) := ⟨rfl, rfl, rfl, by decide +kernel, rfl, by decide +kernel, by decide +kernel⟩
theorem ok_iw {f : Addr} {fd : FuncData} (F : Fun K "is_whole" "is_whole" sIsWhole f fd) (T : Txt K mg C cY cB cD cL cT) : FnOk P w K mg base CX0 1 f fd ["value", "most"] spIW := by
  refine F.ok scIW (fun vs H Q E h => ?_) (fun cdv A outer s H vs Q E hr h => ?_)
  · obtain ⟨v, m, rfl, _⟩ := h
    rfl
  · obtain ⟨v, m, rfl, k⟩ := h
    refine ⟨_, pss_cons (ps_if (pw_or (pt_not (pt_val (pe_callB call_isi (by rfl) T.isi boot_isi (pa_cons (pv 0) (pa_cons (pe_bltn (v := .ty "int") (by rfl) T.int boot_int rfl) pa_nil)))))
        (pw_or1 (pt_val (pe_callB call_isi (by rfl) T.isi boot_isi (pa_cons (pv 0) (pa_cons (pe_bltn (v := .ty "bool") (by rfl) T.bool boot_bool rfl) pa_nil)))))).pt (pss_one (ps_ret pe_bl)) pss_nil)
      (pss_one (ps_ret (pe_chain op_le op_le pe_int (pv 0) (pv 1)))), ?_⟩
    refine ⟨_, rfl, _, _, _, _, rfl, .int v, (by nofun), T.ki, _, rfl, ?_⟩
    refine iteF ?_
    refine ⟨_, rfl, _, _, _, _, rfl, .int v, (by nofun), T.kib, _, rfl, ?_⟩
    refine iteF ?_
    refine ⟨_, rfl, _, _, rfl, rfl, _, rfl, ?_⟩
    refine ite2 (fun h0 => ?_) (fun h0 => ?_)
    · refine ⟨_, rfl, _, _, rfl, rfl, ?_⟩
      have h0' : (0 : Int) ≤ v := of_decide_eq_true h0
      have e : decide (v ≤ m) = decide (0 ≤ v ∧ v ≤ m) := by
        rw [decide_eq_decide]
        exact ⟨fun z => ⟨h0', z⟩, fun z => z.2⟩
      show Q (V.bl (decide (v ≤ m))) H
      rw [e]
      exact k
    · have e : false = decide (0 ≤ v ∧ v ≤ m) := by
        symm
        exact decide_eq_false fun z => h0 (decide_eq_true z.1)
      show Q (V.bl false) H
      rw [e]
      exact k
end
end Z

set_option Elab.async false
set_option linter.all false
set_option maxRecDepth 100000
set_option maxHeartbeats 4000000
namespace Z
open PySem L2
section
variable {P : Program} {w : World} {K : PySem.W.Frag} {mg : Str → Option Value} {base : Heap} {C cY cB cD cL cT : Addr}
theorem sz100 {n : Nat} (h : n ≤ 100) : n ≤ sizeLine := Nat.le_trans h (by decide)
theorem iL_get {ns : List Int} {i : Nat} {x : V} (h : (iL ns)[i]? = some x) : ∃ v, ns[i]? = some v ∧ x = .int v := by
  rw [List.getElem?_map] at h
  cases e : ns[i]? with
  | none => rw [e] at h; cases h
  | some v => rw [e] at h; exact ⟨v, rfl, (Option.some.inj h).symm⟩
theorem take_snoc {α : Type} {l : List α} {i : Nat} {v : α} (h : l[i]? = some v) : l.take (i + 1) = l.take i ++ [v] := by
  rw [List.take_add_one, h]
  rfl
theorem scAW : FnScope ["values", "most"] ["values", "most"] (defScope sAreWhole) := ⟨rfl, rfl, rfl, by decide +kernel, rfl, by decide +kernel, by decide +kernel⟩
theorem ndAW : (["value", "most"] : List Str).Nodup := by decide +kernel
theorem ok_aw {f fI : Addr} {fd fdI : FuncData} (F : Fun K "are_whole" "are_whole" sAreWhole f fd) (T : Txt K mg C cY cB cD cL cT) (FI : Fun K "is_whole" "is_whole" sIsWhole fI fdI) (bI : Binds K fdI ["value", "most"] []) (mI : mg "is_whole" = some (.ref fI)) :
    FnOk P w K mg base CX0 2 f fd ["values", "most"] spAW := by
  have GI : FnOk P w K mg base CX0 1 fI fdI ["value", "most"] spIW := ok_iw FI T
  refine F.ok scAW (fun vs H Q E h => ?_) (fun cdv A outer s H vs Q E hr h => ?_)
  · obtain ⟨p, ns, m, rfl, _⟩ := h
    rfl
  · obtain ⟨p, ns, m, rfl, hp, hl, k⟩ := h
    refine ⟨_, pss_one (ps_ret (pe_and (pe_callB call_isi (by rfl) T.isi boot_isi (pa_cons (pv 0) (pa_cons (pe_bltn (v := .ty "list") (by rfl) T.list boot_lst rfl) pa_nil)))
      (pe_one (pe_callB (call_all rfl) (by rfl) T.all boot_alls (pa_cons (pe_comp (N := ["value", "most"]) (cap := [none, some 1]) rfl (.of (by rfl)) (pi_list (pv 0)) (fun _ _ _ _ => pg_name (i := 0) ndAW rfl (Or.inl rfl)) (fun _ _ _ _ => pts_nil)
        (fun _ _ _ _ => pe_call GI hr (by rfl) mI FI.kp bI .nil pass0 (pa_cons (pv 0) (pa_cons (pv 1) pa_nil)))) pa_nil))))), ?_⟩
    refine ⟨_, rfl, _, _, _, _, rfl, .lst hp, (by nofun), T.kll, _, rfl, ?_⟩
    refine iteT ?_
    refine ⟨_, rfl, p, rfl, ⟨_, SqL.of hp⟩, fun D hD => ?_⟩
    have npD : p ≠ D := ne_of_none hp hD
    refine comp_by ns.length (sz100 hl) (fun i ys τ H' => i ≤ ns.length ∧ ys = (ns.take i).map (fun v => V.bl (decide (0 ≤ v ∧ v ≤ m))) ∧ H' = upd H D (.lst ys) ∧ ∃ o, τ = [o, some (.int m)]) ?_ ?_ ?_ ?_
    · exact ⟨Nat.zero_le _, rfl, rfl, none, rfl⟩
    · rintro i ys τ H' ⟨hi, rfl, rfl, _⟩
      exact ⟨upd_same, by rw [List.length_map, List.length_take]; exact Nat.min_le_left _ _⟩
    · rintro i ys τ H' hi ⟨_, rfl, rfl, o, rfl⟩
      have hp' : (upd H D (.lst ((ns.take i).map (fun v => V.bl (decide (0 ≤ v ∧ v ≤ m)))))) p = some (.lst (iL ns)) := by rw [upd_ne npD]; exact hp
      refine ⟨⟨iL ns, .int ns[i], SqL.of hp', by simp [hi]⟩, ?_⟩
      rintro x H3 ⟨rfl, hx⟩
      obtain ⟨v, hv, rfl⟩ := iL_get (hx _ (SqL.of hp'))
      refine name_yes_if ?_
      refine ⟨_, rfl, _, rfl, v, m, rfl, upd_same, hi, ?_, ?_, some (.int v), rfl⟩
      · rw [take_snoc hv, List.map_append]
        rfl
      · rw [upd_upd]
    · rintro ys τ H' ⟨_, rfl, rfl, o, rfl⟩
      have hp' : (upd H D (.lst ((ns.take ns.length).map (fun v => V.bl (decide (0 ≤ v ∧ v ≤ m)))))) p = some (.lst (iL ns)) := by rw [upd_ne npD]; exact hp
      refine ⟨⟨iL ns, SqL.of hp', by simp⟩, D, ns.map (fun v => decide (0 ≤ v ∧ v ≤ m)), rfl, SqL.of ?_, ?_⟩
      · rw [upd_same, List.take_length, List.map_map]
        rfl
      · have e : (ns.map (fun v => decide (0 ≤ v ∧ v ≤ m))).all id = ns.all fun v => decide (0 ≤ v ∧ v ≤ m) := by
          rw [List.all_map]
          rfl
        rw [e]
        exact k _ fun b o z => by rw [upd_ne (ne_of_none z hD)]; exact z

theorem scCk : FnScope ["rooms", "waters"] ["rooms", "waters"] (defScope sCheck) := ⟨rfl, rfl, rfl, by decide +kernel, rfl, by decide +kernel, by decide +kernel⟩
theorem ndCk : (["room", "water"] : List Str).Nodup := by decide +kernel
theorem all_iff {ns : List Int} {m : Int} : (ns.all fun v => decide (0 ≤ v ∧ v ≤ m)) = true ↔ ∀ v ∈ ns, 0 ≤ v ∧ v ≤ m := by
  rw [List.all_eq_true]
  exact ⟨fun h v hv => of_decide_eq_true (h v hv), fun h v hv => decide_eq_true (h v hv)⟩
theorem Good.rs {rs ws : List Int} (g : Good rs ws) : ∀ v ∈ rs, 0 ≤ v ∧ v ≤ 50 := fun v hv => by
  obtain ⟨i, hi, e⟩ := List.mem_iff_getElem.mp hv
  have hw : i < ws.length := by rw [g.eq]; exact hi
  have := g.all i v ws[i] (by rw [← e]; exact List.getElem?_eq_getElem hi) (List.getElem?_eq_getElem hw)
  exact ⟨this.1, this.2.1⟩
theorem Good.ws {rs ws : List Int} (g : Good rs ws) : ∀ v ∈ ws, 0 ≤ v ∧ v ≤ 50 := fun v hv => by
  obtain ⟨i, hi, e⟩ := List.mem_iff_getElem.mp hv
  have hr : i < rs.length := by rw [← g.eq]; exact hi
  have := g.all i rs[i] v (List.getElem?_eq_getElem hr) (by rw [← e]; exact List.getElem?_eq_getElem hi)
  omega
theorem ok_ck {f fA fI : Addr} {fd fdA fdI : FuncData} (F : Fun K "check_yard" "check_yard" sCheck f fd) (T : Txt K mg C cY cB cD cL cT) (FA : Fun K "are_whole" "are_whole" sAreWhole fA fdA) (bA : Binds K fdA ["values", "most"] []) (mA : mg "are_whole" = some (.ref fA))
    (FI : Fun K "is_whole" "is_whole" sIsWhole fI fdI) (bI : Binds K fdI ["value", "most"] []) (mI : mg "is_whole" = some (.ref fI)) :
    FnOk P w K mg base (CXo P w) 3 f fd ["rooms", "waters"] (spCheck cB) := by
  have GA : FnOk P w K mg base CX0 2 fA fdA ["values", "most"] spAW := ok_aw FA T FI bI mI
  obtain ⟨t50, h50⟩ := T.m50
  obtain ⟨t4, h4⟩ := T.m4
  refine F.okX scCk (fun vs H Q E h => ?_) (fun cdv A outer s H vs Q E hr h => ?_)
  · obtain ⟨p, q, rs, ws, rfl, _⟩ := h
    rfl
  · obtain ⟨p, q, rs, ws, rfl, hp, hq, hl1, hl2, kG, kB⟩ := h
    refine ⟨_, pss_cons (ps_if (pw_or (pt_not (pt_val (pe_call GA hr (by rfl) mA FA.kp bA .nil pass0 (pa_cons (pv 0) (pa_cons (pe_glob (v := .int 50) (by rfl) h50 ⟨_, rfl⟩) pa_nil)))))
        (pw_or1 (pt_not (pt_val (pe_call GA hr (by rfl) mA FA.kp bA .nil pass0 (pa_cons (pv 1) (pa_cons (pe_glob (v := .int 50) (by rfl) h50 ⟨_, rfl⟩) pa_nil))))))).pt (pss_one (ps_raise rfl T.exB leaves_cx (by rfl) (pa_cons pe_str pa_nil))) pss_nil)
      (pss_cons (ps_if (pt_not (pt_chain op_le op_le pe_int (pe_callB call_len_seq (by rfl) T.len PySem.boot_len (pa_cons (pv 0) pa_nil)) (pe_glob (v := .int 4) (by rfl) h4 ⟨_, rfl⟩))) (pss_one (ps_raise rfl T.exB leaves_cx (by rfl) (pa_cons pe_str pa_nil))) pss_nil)
      (pss_cons (ps_if (pt_cmpR op_ne (pe_callB call_len_seq (by rfl) T.len PySem.boot_len (pa_cons (pv 1) pa_nil)) (pe_callB call_len_seq (by rfl) T.len PySem.boot_len (pa_cons (pv 0) pa_nil)) (nomark _)) (pss_one (ps_raise rfl T.exB leaves_cx (by rfl) (pa_cons pe_str pa_nil))) pss_nil)
      (pss_one (ps_if (pt_val (pe_callB (call_any rfl) (by rfl) T.any boot_anys (pa_cons (pe_comp (g := gTup K 2 (gCons (gName 0) (gCons (gName 1) gNil))) (N := ["room", "water"]) (cap := [none, none]) rfl (.of (by rfl)) (pi_zip (by rfl) T.zip (pa_cons (pv 0) (pa_cons (pv 1) pa_nil)))
        (fun _ _ _ _ => pg_tup (by rfl) (pgs_cons (pg_name (i := 0) ndCk (by rfl) (Or.inl (by rfl)) (Or.inr (by rfl))) (pgs_cons (pg_name (i := 1) ndCk (by rfl) (Or.inl (by rfl)) (Or.inr (by rfl))) pgs_nil))) (fun _ _ _ _ => pts_nil) (fun _ _ _ _ => pe_cmpR op_gt (pv 1) (pv 0) (nomark _))) pa_nil))) (pss_one (ps_raise rfl T.exB leaves_cx (by rfl) (pa_cons pe_str pa_nil))) pss_nil)))), ?_⟩
    -- rooms and waters are whole
    refine ⟨_, rfl, p, rs, 50, rfl, hp, hl1, fun H1 s1 => ⟨_, rfl, ?_⟩⟩
    refine ite2 (fun h1 => ?_) (fun h1 => ?_)
    · refine iteT ⟨by decide, kB (fun g => ?_) H1 s1⟩
      rw [(all_iff (m := 50)).mpr g.rs] at h1
      cases h1
    have a1 : ∀ v ∈ rs, 0 ≤ v ∧ v ≤ 50 := all_iff.mp (by simpa using h1)
    refine ⟨_, rfl, q, ws, 50, rfl, s1 _ _ hq, hl2, fun H2 s2 => ⟨_, rfl, ?_⟩⟩
    have s12 := s1.trans s2
    refine ite2 (fun h2 => ?_) (fun h2 => ?_)
    · refine ⟨by decide, kB (fun g => ?_) H2 s12⟩
      rw [(all_iff (m := 50)).mpr g.ws] at h2
      cases h2
    have a2 : ∀ v ∈ ws, 0 ≤ v ∧ v ≤ 50 := all_iff.mp (by simpa using h2)
    -- 1 to 4 tanks
    refine ⟨_, rfl, p, _, rfl, .inl (SqL.of (s12 _ _ hp)), _, _, rfl, rfl, _, rfl, ?_⟩
    have el : ((iL rs).length : Int) = (rs.length : Int) := by rw [List.length_map]
    have el2 : ((iL ws).length : Int) = (ws.length : Int) := by rw [List.length_map]
    refine ite2 (fun h3 => ?_) (fun h3 => ?_)
    rotate_left
    · refine ⟨_, rfl, ?_⟩
      refine iteT ⟨by decide, kB (fun g => h3 (decide_eq_true (by rw [el]; have := g.n1; omega))) H2 s12⟩
    have h3' : 1 ≤ rs.length := by have := of_decide_eq_true h3; rw [el] at this; omega
    refine ⟨_, _, rfl, rfl, _, rfl, ?_⟩
    refine ite2 (fun h4 => ?_) (fun h4 => ?_)
    · refine ⟨by decide, kB (fun g => ?_) H2 s12⟩
      have : decide (((iL rs).length : Int) ≤ 4) = true := decide_eq_true (by rw [el]; have := g.n4; omega)
      rw [this] at h4
      cases h4
    have h4' : rs.length ≤ 4 := by
      by_cases z : ((iL rs).length : Int) ≤ 4
      · rw [el] at z; omega
      · exact absurd (by rw [decide_eq_false z]; rfl) h4
    -- as many waters
    refine ⟨_, rfl, q, _, rfl, .inl (SqL.of (s12 _ _ hq)), _, rfl, p, _, rfl, .inl (SqL.of (s12 _ _ hp)), rfl, _, rfl, ?_⟩
    refine ite2 (fun h5 => ?_) (fun h5 => ?_)
    · refine ⟨by decide, kB (fun g => ?_) H2 s12⟩
      have : decide (V.int ((iL ws).length : Int) = V.int ((iL rs).length : Int)) = true := decide_eq_true (by rw [el, el2, g.eq])
      rw [this] at h5
      cases h5
    have h5' : ws.length = rs.length := by
      by_cases z : V.int ((iL ws).length : Int) = V.int ((iL rs).length : Int)
      · rw [el, el2] at z
        injection z with z
        omega
      · exact absurd (by rw [decide_eq_false z]; rfl) h5
    -- no tank above its room
    refine ⟨_, rfl, _, rfl, p, q, rfl, ⟨_, SqL.of (s12 _ _ hp)⟩, ⟨_, SqL.of (s12 _ _ hq)⟩, fun D hD => ?_⟩
    refine comp_by rs.length (sz100 hl1) (fun i ys τ H' => i ≤ rs.length ∧ ys = ((rs.zip ws).take i).map (fun v => V.bl (decide (v.1 < v.2))) ∧ Same H2 H' ∧ H' D = some (.lst ys) ∧ τ.length = 2) ?_ ?_ ?_ ?_
    · refine ⟨Nat.zero_le _, rfl, fun b o z => ?_, upd_same, rfl⟩
      rw [upd_ne (ne_of_none z hD)]
      exact z
    · rintro i ys τ H' ⟨hi, rfl, _, hd, _⟩
      exact ⟨hd, by rw [List.length_map, List.length_take]; exact Nat.min_le_left _ _⟩
    · rintro i ys τ H' hi ⟨_, rfl, s3, hd, ht⟩
      have hp3 := s3 _ _ (s12 _ _ hp)
      have hq3 := s3 _ _ (s12 _ _ hq)
      have hiw : i < ws.length := by omega
      refine ⟨⟨iL rs, iL ws, .int rs[i], .int ws[i], SqL.of hp3, SqL.of hq3, by simp [hi], by simp [hiw]⟩, ?_⟩
      rintro x H3 ⟨t, x1, x2, rfl, hnt, rfl, g1, g2⟩
      obtain ⟨v1, hv1, rfl⟩ := iL_get (g1 _ (SqL.of hp3))
      obtain ⟨v2, hv2, rfl⟩ := iL_get (g2 _ (SqL.of hq3))
      have ntD : D ≠ t := ne_of_none hd hnt
      obtain ⟨τ0, τ1, rfl⟩ : ∃ a b, τ = [a, b] := by
        match τ, ht with
        | [a, b], _ => exact ⟨a, b, rfl⟩
      refine ⟨t, _, rfl, SqT.of upd_same, rfl, _, _, rfl, _, _, rfl, rfl, ?_⟩
      refine yes_if ?_
      refine ⟨_, rfl, _, rfl, _, _, rfl, rfl, ?_, hi, ?_, fun b o z => ?_, upd_same, rfl⟩
      · rw [upd_ne ntD]
        exact hd
      · have hz : (rs.zip ws)[i]? = some (v1, v2) := by rw [List.getElem?_zip_eq_some]; exact ⟨hv1, hv2⟩
        rw [take_snoc hz, List.map_append]
        rfl
      · rw [upd_ne (ne_of_none z hD), upd_ne (ne_of_none (s3 _ _ z) hnt)]
        exact s3 _ _ z
    · rintro ys τ H' ⟨_, rfl, s3, hd, _⟩
      have hp3 := s3 _ _ (s12 _ _ hp)
      have hq3 := s3 _ _ (s12 _ _ hq)
      refine ⟨⟨iL rs, iL ws, SqL.of hp3, SqL.of hq3, .inl (by simp)⟩, D, (rs.zip ws).map (fun v => decide (v.1 < v.2)), rfl, SqL.of ?_, _, rfl, ?_⟩
      · rw [hd, List.map_map]
        have e : (rs.zip ws).take rs.length = rs.zip ws := List.take_of_length_le (by rw [List.length_zip]; exact Nat.min_le_left _ _)
        rw [e]
        rfl
      · have s4 := s12.trans s3
        refine ite2 (fun h6 => ?_) (fun h6 => ?_)
        · refine ⟨by decide, kB (fun g => ?_) H' s4⟩
          obtain ⟨b, hb, e⟩ := List.any_eq_true.mp h6
          obtain ⟨⟨v1, v2⟩, hm, e2⟩ := List.mem_map.mp hb
          subst e2
          have lt : v1 < v2 := of_decide_eq_true e
          obtain ⟨i, hi, e3⟩ := List.mem_iff_getElem.mp hm
          have hz : (rs.zip ws)[i]? = some (v1, v2) := by rw [← e3]; exact List.getElem?_eq_getElem hi
          rw [List.getElem?_zip_eq_some] at hz
          have := g.all i v1 v2 hz.1 hz.2
          omega
        · refine kG ⟨h3', h4', h5', fun i r w' e1 e2 => ?_⟩ H' s4
          have b1 := a1 r (List.mem_of_getElem? e1)
          have b2 := a2 w' (List.mem_of_getElem? e2)
          refine ⟨b1.1, b1.2, b2.1, ?_⟩
          have hz : (rs.zip ws)[i]? = some (r, w') := by rw [List.getElem?_zip_eq_some]; exact ⟨e1, e2⟩
          have hb : decide (r < w') ∈ (rs.zip ws).map (fun v => decide (v.1 < v.2)) := List.mem_map.mpr ⟨(r, w'), List.mem_of_getElem? hz, rfl⟩
          have : ¬ r < w' := fun lt => h6 (List.any_eq_true.mpr ⟨_, hb, decide_eq_true lt⟩)
          omega
end
end Z

set_option Elab.async false
set_option linter.all false
set_option maxRecDepth 100000
set_option maxHeartbeats 4000000
namespace Z
open PySem L2
section
variable {P : Program} {w : World} {K : PySem.W.Frag} {mg : Str → Option Value} {base : Heap} {C cY cB cD cL cT : Addr}
theorem scIn : FnScope ["self", "rooms", "waters"] ["self", "rooms", "waters"] (defScope sInit) := ⟨rfl, rfl, rfl, by decide +kernel, rfl, by decide +kernel, by decide +kernel⟩
theorem ok_in {f fC : Addr} {fd fdC : FuncData} (F : Fun K "__init__" "Yard.__init__" sInit f fd) (T : Txt K mg C cY cB cD cL cT) (FC : Fun K "check_yard" "check_yard" sCheck fC fdC) (bC : Binds K fdC ["rooms", "waters"] []) (mC : mg "check_yard" = some (.ref fC))
    (GC : FnOk P w K mg base (CXo P w) 3 fC fdC ["rooms", "waters"] (spCheck cB)) : FnOk P w K mg base (CXo P w) 4 f fd ["self", "rooms", "waters"] (spInit C cB) := by
  refine F.okX scIn (fun vs H Q E h => ?_) (fun cdv A outer s H vs Q E hr h => ?_)
  · obtain ⟨x, dx, p, q, rs, ws, rfl, _⟩ := h
    rfl
  · obtain ⟨x, dx, p, q, rs, ws, rfl, hx, hp, hq, hl1, hl2, kG, kB⟩ := h
    refine ⟨_, pss_cons (ps_expr (pe_callX GC hr (by rfl) mC FC.kp bC .nil passes_cx (pa_cons (pv 1) (pa_cons (pv 2) pa_nil))))
      (pss_cons (ps_fld (pv 0) (pe_callTy call_list_of (by rfl) T.list boot_lst (pa_cons (pv 1) pa_nil)) rfl)
      (pss_one (ps_fld (pv 0) (pe_callTy call_list_of (by rfl) T.list boot_lst (pa_cons (pv 2) pa_nil)) rfl))), ?_⟩
    refine ⟨_, rfl, _, rfl, p, q, rs, ws, rfl, hp, hq, hl1, hl2, fun g H1 s1 => ?_, fun g H1 s1 => kB g H1 s1⟩
    refine ⟨_, rfl, p, _, rfl, .inl (SqL.of (s1 _ _ hp)), fun sz hsz => ?_⟩
    have nx : x ≠ sz := ne_of_none (s1 _ _ hx) hsz
    refine ⟨_, rfl, x, C, dx, [], rfl, (by rw [upd_ne nx]; exact s1 _ _ hx), T.cl, T.nS, (by show 0 < 1000; decide), ?_⟩
    have nq : q ≠ sz := ne_of_none (s1 _ _ hq) hsz
    have nqx : q ≠ x := ne_of hq hx (by intro z; cases z)
    refine ⟨_, rfl, q, _, rfl, .inl (SqL.of (by rw [upd_ne nqx, upd_ne nq]; exact s1 _ _ hq)), fun lv hlv => ?_⟩
    have nxl : x ≠ lv := fun z => by
      rw [← z, upd_same] at hlv
      cases hlv
    have nsl : sz ≠ lv := fun z => by
      rw [← z, upd_ne nx.symm, upd_same] at hlv
      cases hlv
    have hlv1 : H1 lv = none := by
      rw [upd_ne nxl.symm, upd_ne nsl.symm] at hlv
      exact hlv
    refine ⟨_, rfl, x, C, dx, _, rfl, (by rw [upd_ne nxl, upd_same]), T.cl, T.nL, (by show 1 < 1000; decide), ?_⟩
    refine kG g sz lv _ (s1.free hsz) (s1.free hlv1) nsl ⟨⟨dx, upd_same⟩, ?_, ?_⟩ fun b o z hb => ?_
    · rw [upd_ne nx.symm, upd_ne nsl, upd_ne nx.symm, upd_same]
    · rw [upd_ne nxl.symm, upd_same]
    · have z1 := s1 _ _ z
      rw [upd_ne hb, upd_ne (ne_of_none z1 hlv1), upd_ne hb, upd_ne (ne_of_none z1 hsz)]
      exact z1
theorem scRo : FnScope ["self"] ["self"] (defScope sRooms) := ⟨rfl, rfl, rfl, by decide +kernel, rfl, by decide +kernel, by decide +kernel⟩
theorem ok_ro {f : Addr} {fd : FuncData} (F : Fun K "rooms" "Yard.rooms" sRooms f fd) (T : Txt K mg C cY cB cD cL cT) : FnOk P w K mg base CX0 1 f fd ["self"] (spRooms C) := by
  refine F.ok scRo (fun vs H Q E h => ?_) (fun cdv A outer s H vs Q E hr h => ?_)
  · obtain ⟨y, sz, lv, rs, ws, rfl, _⟩ := h
    rfl
  · obtain ⟨y, sz, lv, rs, ws, rfl, ⟨⟨dx, hy⟩, hs, hv⟩, k⟩ := h
    refine ⟨_, pss_one (ps_ret (pe_callTy call_list_of (by rfl) T.list boot_lst (pa_cons (pe_fld (pv 0) rfl) pa_nil))), ?_⟩
    exact ⟨_, rfl, y, C, dx, _, _, rfl, hy, T.cl, T.nS, fl_sizes _ _, sz, _, rfl, .inl (SqL.of hs), fun l hl => k l hl⟩
theorem scWa : FnScope ["self"] ["self"] (defScope sWaters) := ⟨rfl, rfl, rfl, by decide +kernel, rfl, by decide +kernel, by decide +kernel⟩
theorem ok_wa {f : Addr} {fd : FuncData} (F : Fun K "waters" "Yard.waters" sWaters f fd) (T : Txt K mg C cY cB cD cL cT) : FnOk P w K mg base CX0 1 f fd ["self"] (spWaters C) := by
  refine F.ok scWa (fun vs H Q E h => ?_) (fun cdv A outer s H vs Q E hr h => ?_)
  · obtain ⟨y, sz, lv, rs, ws, rfl, _⟩ := h
    rfl
  · obtain ⟨y, sz, lv, rs, ws, rfl, ⟨⟨dx, hy⟩, hs, hv⟩, k⟩ := h
    refine ⟨_, pss_one (ps_ret (pe_callTy call_list_of (by rfl) T.list boot_lst (pa_cons (pe_fld (pv 0) rfl) pa_nil))), ?_⟩
    exact ⟨_, rfl, y, C, dx, _, _, rfl, hy, T.cl, T.nL, fl_levels _ _, lv, _, rfl, .inl (SqL.of hv), fun l hl => k l hl⟩

/-! ### the law's own helpers -/
def spDrawn (K : PySem.W.Frag) : Sp := fun vs H Q _ => ∃ (a : Addr) (ns : List Int) (k m : Int), vs = [.ref a, .int k, .int m] ∧ SqL K H a (iL ns) ∧ ns.length ≤ 63 ∧ 0 ≤ k ∧ k ≤ 1000000 ∧ 0 < m ∧ ∀ r, 0 ≤ r → r < m → Q (.int r) H
theorem scDr : FnScope ["script", "k", "many", "cell", "stir"] ["script", "k", "many"] (defScope sDrawn) := ⟨rfl, rfl, rfl, by decide +kernel, rfl, by decide +kernel, by decide +kernel⟩
theorem emod_lt64 (x : Int) : -(2 ^ 64) < x % 2147483647 ∧ x % 2147483647 < 2 ^ 64 := by
  have h1 := Int.emod_nonneg x (show (2147483647 : Int) ≠ 0 by decide)
  have h2 := Int.emod_lt_of_pos x (show (0 : Int) < 2147483647 by decide)
  omega
theorem ok_dr {f : Addr} {fd : FuncData} (F : Fun K "_law_drawn" "_law_drawn" sDrawn f fd) (T : Txt K mg C cY cB cD cL cT) : FnOk P w K mg base CX0 1 f fd ["script", "k", "many"] (spDrawn K) := by
  refine F.ok scDr (fun vs H Q E h => ?_) (fun cdv A outer s H vs Q E hr h => ?_)
  · obtain ⟨a, ns, k, m, rfl, _⟩ := h
    rfl
  · obtain ⟨a, ns, k, m, rfl, hs, hl, hk0, hk1, hm, q⟩ := h
    refine ⟨_, pss_cons (ps_set (i := 3) scDr.nd rfl (Or.inl rfl) pe_int)
      (pss_cons (ps_if (pt_cmpR op_gt (pe_callB call_len_seq (by rfl) T.len PySem.boot_len (pa_cons (pv 0) pa_nil)) pe_int (nomark _))
        (pss_one (ps_set (i := 3) scDr.nd rfl (Or.inl rfl) (pe_ix ix_list (pv 0) (pe_op op_mod (pv 1) (pe_callB call_len_seq (by rfl) T.len PySem.boot_len (pa_cons (pv 0) pa_nil))) (fun _ _ => rfl)))) pss_nil)
      (pss_cons (ps_set (i := 4) scDr.nd rfl (Or.inl rfl) (pe_op op_mod (pe_op op_add (pe_op op_add (pe_op op_mul (pv 3) pe_int) (pe_op op_mul (pe_op op_add (pv 1) pe_int) pe_int)) (pe_callB call_len_seq (by rfl) T.len PySem.boot_len (pa_cons (pv 0) pa_nil))) pe_int))
      (pss_cons (ps_set (i := 4) scDr.nd rfl (Or.inl rfl) (pe_op op_mod (pe_op op_add (pe_op op_add (pe_op op_mul (pv 4) (pv 4)) (pe_op op_mul (pv 1) pe_int)) pe_int) pe_int))
      (pss_one (ps_ret (pe_op op_mod (pe_op op_fdiv (pe_op op_mod (pe_op op_mul (pv 4) pe_int) pe_int) pe_int) (pv 2))))))), ?_⟩
    have el : ((iL ns).length : Int) = (ns.length : Int) := by rw [List.length_map]
    refine ⟨_, rfl, a, _, rfl, .inl hs, _, _, rfl, rfl, _, rfl, ?_⟩
    refine ite2 (fun h1 => ?_) (fun h1 => ?_)
    · have h1' : (0 : Int) < ((iL ns).length : Int) := of_decide_eq_true h1
      have b1 := Int.emod_nonneg k (show ((iL ns).length : Int) ≠ 0 by omega)
      have b2 := Int.emod_lt_of_pos k h1'
      obtain ⟨j, hj⟩ : ∃ j : Nat, (j : Int) = k % ((iL ns).length : Int) := ⟨(k % ((iL ns).length : Int)).toNat, by omega⟩
      have hjl : j < ns.length := by rw [el] at hj b2; omega
      refine ⟨_, rfl, _, rfl, _, rfl, a, _, rfl, .inl hs, _, _, rfl, rfl, h1', a, _, _, .int ns[j], rfl, rfl, hs, ?_, ?_⟩
      · rw [← hj]
        exact atI_nat (by simp [hjl])
      refine ⟨_, rfl, _, _, rfl, rfl, .inr ⟨by decide, by decide⟩, _, rfl, _, _, rfl, rfl, _, _, rfl, rfl, .inr ⟨by decide, by decide⟩, _, _, rfl, rfl, _, rfl, a, _, rfl, .inl hs, _, _, rfl, rfl, _, _, rfl, rfl, (by show (0 : Int) < 2147483647; decide), ?_⟩
      refine ⟨_, rfl, _, rfl, _, _, rfl, rfl, .inl (emod_lt64 _), _, rfl, _, _, rfl, rfl, .inr ⟨by decide, by decide⟩, _, _, rfl, rfl, _, _, rfl, rfl, _, _, rfl, rfl, (by show (0 : Int) < 2147483647; decide), ?_⟩
      refine ⟨_, rfl, _, _, rfl, rfl, .inr ⟨by decide, by decide⟩, _, _, rfl, rfl, (by show (0 : Int) < 2147483647; decide), _, _, rfl, rfl, ⟨by decide, by decide⟩, _, rfl, _, _, rfl, rfl, hm, ?_⟩
      exact q _ (Int.emod_nonneg _ (by omega)) (Int.emod_lt_of_pos _ hm)
    · refine ⟨_, rfl, _, _, rfl, rfl, .inr ⟨by decide, by decide⟩, _, rfl, _, _, rfl, rfl, _, _, rfl, rfl, .inr ⟨by decide, by decide⟩, _, _, rfl, rfl, _, rfl, a, _, rfl, .inl hs, _, _, rfl, rfl, _, _, rfl, rfl, (by show (0 : Int) < 2147483647; decide), ?_⟩
      refine ⟨_, rfl, _, rfl, _, _, rfl, rfl, .inl (emod_lt64 _), _, rfl, _, _, rfl, rfl, .inr ⟨by decide, by decide⟩, _, _, rfl, rfl, _, _, rfl, rfl, _, _, rfl, rfl, (by show (0 : Int) < 2147483647; decide), ?_⟩
      refine ⟨_, rfl, _, _, rfl, rfl, .inr ⟨by decide, by decide⟩, _, _, rfl, rfl, (by show (0 : Int) < 2147483647; decide), _, _, rfl, rfl, ⟨by decide, by decide⟩, _, rfl, _, _, rfl, rfl, hm, ?_⟩
      exact q _ (Int.emod_nonneg _ (by omega)) (Int.emod_lt_of_pos _ hm)
end
end Z

set_option Elab.async false
set_option linter.all false
set_option maxRecDepth 100000
set_option maxHeartbeats 4000000
namespace Z
open PySem L2
section
variable {P : Program} {w : World} {K : PySem.W.Frag} {mg : Str → Option Value} {base : Heap} {C cY cB cD cL cT : Addr}
def spWhole : Sp := fun vs H Q _ => ∃ i : Int, vs = [.int i] ∧ Q (.bl true) H
theorem scWh : FnScope ["found"] ["found"] (defScope sWhole) := ⟨rfl, rfl, rfl, by decide +kernel, rfl, by decide +kernel, by decide +kernel⟩
theorem ok_wh {f : Addr} {fd : FuncData} (F : Fun K "_law_whole" "_law_whole" sWhole f fd) (T : Txt K mg C cY cB cD cL cT) : FnOk P w K mg base CX0 1 f fd ["found"] spWhole := by
  refine F.ok scWh (fun vs H Q E h => ?_) (fun cdv A outer s H vs Q E hr h => ?_)
  · obtain ⟨i, rfl, _⟩ := h
    rfl
  · obtain ⟨i, rfl, k⟩ := h
    refine ⟨_, pss_one (ps_ret (pe_and (pe_callB call_isi (by rfl) T.isi boot_isi (pa_cons (pv 0) (pa_cons (pe_bltn (v := .ty "int") (by rfl) T.int boot_int rfl) pa_nil)))
      (pe_one (pe_not (pe_callB call_isi (by rfl) T.isi boot_isi (pa_cons (pv 0) (pa_cons (pe_bltn (v := .ty "bool") (by rfl) T.bool boot_bool rfl) pa_nil))))))), ?_⟩
    refine ⟨_, rfl, _, _, _, _, rfl, .int i, (by nofun), T.ki, _, rfl, iteT ?_⟩
    exact ⟨_, rfl, _, _, _, _, rfl, .int i, (by nofun), T.kib, _, rfl, k⟩
def spRow : Sp := fun vs H Q _ => ∃ (p q : Addr) (ns : List Int), vs = [.ref p, .ref q] ∧ H p = some (.lst (iL ns)) ∧ H q = some (.lst (iL ns)) ∧ ns.length ≤ 100 ∧ Q (.bl true) H
theorem scRw : FnScope ["found", "due", "k"] ["found", "due"] (defScope sRow) := ⟨rfl, rfl, rfl, by decide +kernel, rfl, by decide +kernel, by decide +kernel⟩
theorem ok_rw {f fW : Addr} {fd fdW : FuncData} (F : Fun K "_law_row" "_law_row" sRow f fd) (T : Txt K mg C cY cB cD cL cT) (FW : Fun K "_law_whole" "_law_whole" sWhole fW fdW) (bW : Binds K fdW ["found"] []) (mW : mg "_law_whole" = some (.ref fW)) :
    FnOk P w K mg base CX0 2 f fd ["found", "due"] spRow := by
  have GW : FnOk P w K mg base CX0 1 fW fdW ["found"] spWhole := ok_wh FW T
  refine F.ok scRw (fun vs H Q E h => ?_) (fun cdv A outer s H vs Q E hr h => ?_)
  · obtain ⟨p, q, ns, rfl, _⟩ := h
    rfl
  · obtain ⟨p, q, ns, rfl, hp, hq, hl, k⟩ := h
    refine ⟨_, pss_cons (ps_if (pw_or (pt_not (pt_val (pe_callB call_isi (by rfl) T.isi boot_isi (pa_cons (pv 0) (pa_cons (pe_bltn (v := .ty "list") (by rfl) T.list boot_lst rfl) pa_nil)))))
        (pw_or1 (pt_cmpR op_ne (pe_callB call_len_seq (by rfl) T.len PySem.boot_len (pa_cons (pv 0) pa_nil)) (pe_callB call_len_seq (by rfl) T.len PySem.boot_len (pa_cons (pv 1) pa_nil)) (nomark _)))).pt (pss_one (ps_ret pe_bl)) pss_nil)
      (pss_cons (ps_for PassesOwn.never rfl (pi_range1 (by rfl) T.range (pa_cons (pe_callB call_len_seq (by rfl) T.len PySem.boot_len (pa_cons (pv 1) pa_nil)) pa_nil)) (pg_name (i := 2) scRw.nd rfl (Or.inl rfl))
        (pss_one (ps_if (pw_or (pt_not (pt_val (pe_call GW hr (by rfl) mW FW.kp bW .nil pass0 (pa_cons (pe_ix ix_list (pv 0) (pv 2) (fun _ _ => rfl)) pa_nil))))
          (pw_or1 (pt_cmpR op_ne (pe_ix ix_list (pv 0) (pv 2) (fun _ _ => rfl)) (pe_ix ix_list (pv 1) (pv 2) (fun _ _ => rfl)) (nomark _)))).pt (pss_one (ps_ret pe_bl)) pss_nil)))
      (pss_one (ps_ret pe_bl))), ?_⟩
    refine ⟨_, rfl, _, _, _, _, rfl, .lst hp, (by nofun), T.kll, _, rfl, iteF ?_⟩
    refine ⟨_, rfl, p, _, rfl, .inl (SqL.of hp), _, rfl, q, _, rfl, .inl (SqL.of hq), rfl, _, rfl, iteNS rfl ?_⟩
    have el : ((iL ns).length : Int) = (ns.length : Int) := by rw [List.length_map]
    refine ⟨_, rfl, q, _, rfl, .inl (SqL.of hq), _, rfl, by omega, by rw [el]; omega, ?_⟩
    have en : ((iL ns).length : Int).toNat = ns.length := by rw [el]; omega
    rw [en]
    refine for_range (n := ns.length) (fun i σ H2 => H2 = H ∧ ∃ o, σ = [some (.ref p), some (.ref q), o]) ⟨rfl, none, rfl⟩ ?_ ?_
    · rintro i σ H2 hi ⟨rfl, o, rfl⟩
      have e0 : (0 : Int) + (i : Int) = (i : Int) := by omega
      have ev : (iL ns)[i]? = some (.int ns[i]) := by simp [hi]
      refine ⟨_, rfl, _, rfl, p, _, _, .int ns[i], rfl, rfl, SqL.of hp, (by rw [e0]; exact atI_nat ev), ns[i], rfl, _, rfl, iteF ?_⟩
      refine ⟨_, rfl, _, rfl, p, _, _, .int ns[i], rfl, rfl, SqL.of hp, (by rw [e0]; exact atI_nat ev), _, rfl, _, rfl, q, _, _, .int ns[i], rfl, rfl, SqL.of hq, (by rw [e0]; exact atI_nat ev), rfl, _, rfl, iteNS rfl ?_⟩
      exact ⟨rfl, _, rfl⟩
    · rintro σ H2 ⟨rfl, o, rfl⟩
      exact k
end
end Z

set_option Elab.async false
set_option linter.all false
set_option maxRecDepth 100000
set_option maxHeartbeats 8000000
namespace Z
open PySem L2
section
variable {P : Program} {w : World} {K : PySem.W.Frag} {mg : Str → Option Value} {base : Heap} {C cY cB cD cL cT : Addr}
/-- a list of a day: a number for each tank -/
def RowOk (n : Nat) (vs : List Int) : Prop := vs.length = n ∧ ∀ v ∈ vs, 0 ≤ v ∧ v ≤ 30
def DayOk (n : Nat) (ra wi : List Int) : Prop := RowOk n ra ∧ RowOk n wi
def spCkDay (cD : Addr) : Sp := fun vs H Q E => ∃ (n : Nat) (p q : Addr) (ra wi : List Int), vs = [.int n, .ref p, .ref q] ∧ H p = some (.lst (iL ra)) ∧ H q = some (.lst (iL wi)) ∧ ra.length ≤ 100 ∧ wi.length ≤ 100 ∧
  (DayOk n ra wi → ∀ H', Same H H' → Q .non H') ∧ (¬ DayOk n ra wi → ∀ H', Same H H' → E (.ref cD) none H')
theorem scCd : FnScope ["tanks", "rain", "wishes", "numbers"] ["tanks", "rain", "wishes"] (defScope sCheckDay) := ⟨rfl, rfl, rfl, by decide +kernel, rfl, by decide +kernel, by decide +kernel⟩
theorem ok_cd {f fA fI : Addr} {fd fdA fdI : FuncData} (F : Fun K "check_day" "check_day" sCheckDay f fd) (T : Txt K mg C cY cB cD cL cT) (FA : Fun K "are_whole" "are_whole" sAreWhole fA fdA) (bA : Binds K fdA ["values", "most"] []) (mA : mg "are_whole" = some (.ref fA))
    (FI : Fun K "is_whole" "is_whole" sIsWhole fI fdI) (bI : Binds K fdI ["value", "most"] []) (mI : mg "is_whole" = some (.ref fI)) :
    FnOk P w K mg base (CXo P w) 3 f fd ["tanks", "rain", "wishes"] (spCkDay cD) := by
  have GA : FnOk P w K mg base CX0 2 fA fdA ["values", "most"] spAW := ok_aw FA T FI bI mI
  obtain ⟨t30, h30⟩ := T.m30
  refine F.okX scCd (fun vs H Q E h => ?_) (fun cdv A outer s H vs Q E hr h => ?_)
  · obtain ⟨n, p, q, ra, wi, rfl, _⟩ := h
    rfl
  · obtain ⟨n, p, q, ra, wi, rfl, hp, hq, hl1, hl2, kG, kB⟩ := h
    refine ⟨_, pss_one (ps_for PassesOwn.leaving rfl (pi_tup (pe_tup (pa_cons (pv 1) (pa_cons (pv 2) pa_nil)))) (pg_name (i := 3) scCd.nd rfl (Or.inl rfl))
      (pss_cons (ps_if (pt_not (pt_val (pe_call GA hr (by rfl) mA FA.kp bA .nil pass0 (pa_cons (pv 3) (pa_cons (pe_glob (v := .int 30) (by rfl) h30 ⟨_, rfl⟩) pa_nil))))) (pss_one (ps_raise rfl T.exD leaves_cx (by rfl) (pa_cons pe_str pa_nil))) pss_nil)
      (pss_one (ps_if (pt_cmpR op_ne (pe_callB call_len_seq (by rfl) T.len PySem.boot_len (pa_cons (pv 3) pa_nil)) (pv 0) (nomark _)) (pss_one (ps_raise rfl T.exD leaves_cx (by rfl) (pa_cons pe_str pa_nil))) pss_nil)))), ?_⟩
    refine ⟨_, rfl, _, rfl, (by show 2 ≤ sizeLine; decide), fun t ht => ⟨t, rfl, ⟨_, SqT.of upd_same⟩, ?_⟩⟩
    refine for_tup (xs := [.ref p, .ref q]) (fun i σ H' => Same H H' ∧ H' t = some (.tup [.ref p, .ref q]) ∧ (∃ o, σ = [some (.int n), some (.ref p), some (.ref q), o]) ∧ (1 ≤ i → RowOk n ra) ∧ (2 ≤ i → RowOk n wi)) ?_ ?_ ?_ ?_
    · exact ⟨same_new ht, upd_same, ⟨none, rfl⟩, by omega, by omega⟩
    · rintro i σ H' _ ⟨_, h, _⟩
      exact SqT.of h
    · rintro i x σ H' hx ⟨s1, h1, ⟨o, rfl⟩, o1, o2⟩
      match i, hx with
      | 0, hx =>
        cases hx
        refine ⟨_, rfl, p, ra, 30, rfl, s1 _ _ hp, hl1, fun H2 s2 => ⟨_, rfl, ?_⟩⟩
        have s12 := s1.trans s2
        refine ite2 (fun h2 => ⟨by decide, kB (fun g => ?_) H2 s12⟩) (fun h2 => ?_)
        · rw [(all_iff (m := 30)).mpr g.1.2] at h2
          cases h2
        have a1 : ∀ v ∈ ra, 0 ≤ v ∧ v ≤ 30 := all_iff.mp (by simpa using h2)
        refine ⟨_, rfl, p, _, rfl, .inl (SqL.of (s12 _ _ hp)), _, rfl, rfl, _, rfl, ?_⟩
        refine ite2 (fun h3 => ⟨by decide, kB (fun g => ?_) H2 s12⟩) (fun h3 => ?_)
        · have : decide (V.int ((iL ra).length : Int) = V.int (n : Int)) = true := decide_eq_true (by rw [List.length_map, g.1.1])
          rw [this] at h3
          cases h3
        have h3' : ra.length = n := by
          by_cases z : V.int ((iL ra).length : Int) = V.int (n : Int)
          · injection z with z
            rw [List.length_map] at z
            omega
          · exact absurd (by rw [decide_eq_false z]; rfl) h3
        exact ⟨s12, s2 _ _ h1, ⟨_, rfl⟩, fun _ => ⟨h3', a1⟩, by omega⟩
      | 1, hx =>
        cases hx
        have g0 := o1 (by omega)
        refine ⟨_, rfl, q, wi, 30, rfl, s1 _ _ hq, hl2, fun H2 s2 => ⟨_, rfl, ?_⟩⟩
        have s12 := s1.trans s2
        refine ite2 (fun h2 => ⟨by decide, kB (fun g => ?_) H2 s12⟩) (fun h2 => ?_)
        · rw [(all_iff (m := 30)).mpr g.2.2] at h2
          cases h2
        have a1 : ∀ v ∈ wi, 0 ≤ v ∧ v ≤ 30 := all_iff.mp (by simpa using h2)
        refine ⟨_, rfl, q, _, rfl, .inl (SqL.of (s12 _ _ hq)), _, rfl, rfl, _, rfl, ?_⟩
        refine ite2 (fun h3 => ⟨by decide, kB (fun g => ?_) H2 s12⟩) (fun h3 => ?_)
        · have : decide (V.int ((iL wi).length : Int) = V.int (n : Int)) = true := decide_eq_true (by rw [List.length_map, g.2.1])
          rw [this] at h3
          cases h3
        have h3' : wi.length = n := by
          by_cases z : V.int ((iL wi).length : Int) = V.int (n : Int)
          · injection z with z
            rw [List.length_map] at z
            omega
          · exact absurd (by rw [decide_eq_false z]; rfl) h3
        exact ⟨s12, s2 _ _ h1, ⟨_, rfl⟩, fun _ => g0, fun _ => ⟨h3', a1⟩⟩
      | i + 2, hx => simp at hx
    · rintro σ H' ⟨s1, h1, ⟨o, rfl⟩, o1, o2⟩
      exact kG ⟨o1 (by show 1 ≤ 2; decide), o2 (by show 2 ≤ 2; decide)⟩ H' s1
end
end Z

set_option Elab.async false
set_option linter.all false
set_option maxRecDepth 100000
set_option maxHeartbeats 8000000
namespace Z
open PySem L2
/-! ### a day, tank by tank -/
def gI (l : List Int) (i : Nat) : Int := l.getD i 0
theorem gI_at {l : List Int} {i : Nat} {v : Int} (h : l[i]? = some v) : gI l i = v := by
  unfold gI
  rw [List.getD_eq_getElem?_getD, h]
  rfl
def fallAt (rs ws ra wi : List Int) : Nat → Int
  | 0 => 0
  | i + 1 => gI ws i + gI ra i + fallAt rs ws ra wi i - min (gI wi i) (gI ws i + gI ra i + fallAt rs ws ra wi i) - min (gI rs i) (gI ws i + gI ra i + fallAt rs ws ra wi i - min (gI wi i) (gI ws i + gI ra i + fallAt rs ws ra wi i))
def thAt (rs ws ra wi : List Int) (i : Nat) : Int := gI ws i + gI ra i + fallAt rs ws ra wi i
def drAt (rs ws ra wi : List Int) (i : Nat) : Int := min (gI wi i) (thAt rs ws ra wi i)
def kpAt (rs ws ra wi : List Int) (i : Nat) : Int := min (gI rs i) (thAt rs ws ra wi i - drAt rs ws ra wi i)
theorem fall_succ (rs ws ra wi : List Int) (i : Nat) : fallAt rs ws ra wi (i + 1) = thAt rs ws ra wi i - drAt rs ws ra wi i - kpAt rs ws ra wi i := rfl
def drL (rs ws ra wi : List Int) (n : Nat) : List Int := (List.range n).map (drAt rs ws ra wi)
def kpL (rs ws ra wi : List Int) (n : Nat) : List Int := (List.range n).map (kpAt rs ws ra wi)
theorem drL_len (rs ws ra wi : List Int) (n : Nat) : (drL rs ws ra wi n).length = n := by unfold drL; rw [List.length_map, List.length_range]
theorem kpL_len (rs ws ra wi : List Int) (n : Nat) : (kpL rs ws ra wi n).length = n := by unfold kpL; rw [List.length_map, List.length_range]
theorem drL_succ (rs ws ra wi : List Int) (n : Nat) : drL rs ws ra wi (n + 1) = drL rs ws ra wi n ++ [drAt rs ws ra wi n] := by unfold drL; rw [List.range_succ, List.map_append]; rfl
theorem kpL_succ (rs ws ra wi : List Int) (n : Nat) : kpL rs ws ra wi (n + 1) = kpL rs ws ra wi n ++ [kpAt rs ws ra wi n] := by unfold kpL; rw [List.range_succ, List.map_append]; rfl
theorem iL_snoc (l : List Int) (v : Int) : iL l ++ [V.int v] = iL (l ++ [v]) := by rw [iL, iL, List.map_append]; rfl
theorem iL_at {l : List Int} {i : Nat} (h : i < l.length) : (iL l)[i]? = some (.int (gI l i)) := by
  rw [List.getElem?_map, List.getElem?_eq_getElem h, gI_at (List.getElem?_eq_getElem h)]
  rfl
section
variable {P : Program} {w : World} {K : PySem.W.Frag} {mg : Str → Option Value} {base : Heap} {C cY cB cD cL cT : Addr}
theorem same_upd {H : Hp} {l : Addr} {o : HO} (h : H l = none) : Same H (upd H l o) := same_new h
theorem YardAt.same {H H' : Hp} {y sz lv : Addr} {rs ws : List Int} (Y : YardAt C H y sz lv rs ws) (e : Same H H') : YardAt C H' y sz lv rs ws := by
  obtain ⟨⟨dx, h⟩, h1, h2⟩ := Y
  exact ⟨⟨dx, e _ _ h⟩, e _ _ h1, e _ _ h2⟩
def spDay (C cD : Addr) : Sp := fun vs H Q E => ∃ (y sz lv p q : Addr) (rs ws ra wi : List Int), vs = [.ref y, .ref p, .ref q] ∧ YardAt C H y sz lv rs ws ∧ H p = some (.lst (iL ra)) ∧ H q = some (.lst (iL wi)) ∧
  ws.length = rs.length ∧ rs.length ≤ 4 ∧ ra.length ≤ 100 ∧ wi.length ≤ 100 ∧
  (DayOk rs.length ra wi → ∀ (d k t : Addr) (H' : Hp), H d = none → H k = none → H t = none → d ≠ k → H' t = some (.tup [.ref d, .int (fallAt rs ws ra wi rs.length)]) → H' d = some (.lst (iL (drL rs ws ra wi rs.length))) →
    YardAt C H' y sz k rs (kpL rs ws ra wi rs.length) → (∀ b o, H b = some o → b ≠ y → H' b = some o) → Q (.ref t) H') ∧
  (¬ DayOk rs.length ra wi → ∀ H', Same H H' → E (.ref cD) none H')
theorem scDy : FnScope ["self", "rain", "wishes", "drawn", "kept", "falling", "room", "water", "rained", "wish", "there", "draw", "stay"] ["self", "rain", "wishes"] (defScope sDay) := ⟨rfl, rfl, rfl, by decide +kernel, rfl, by decide +kernel, by decide +kernel⟩
theorem ok_dy {f fC : Addr} {fd fdC : FuncData} (F : Fun K "day" "Yard.day" sDay f fd) (T : Txt K mg C cY cB cD cL cT) (FC : Fun K "check_day" "check_day" sCheckDay fC fdC) (bC : Binds K fdC ["tanks", "rain", "wishes"] []) (mC : mg "check_day" = some (.ref fC))
    (GC : FnOk P w K mg base (CXo P w) 3 fC fdC ["tanks", "rain", "wishes"] (spCkDay cD)) : FnOk P w K mg base (CXo P w) 4 f fd ["self", "rain", "wishes"] (spDay C cD) := by
  refine F.okX scDy (fun vs H Q E h => ?_) (fun cdv A outer s H vs Q E hr h => ?_)
  · obtain ⟨y, sz, lv, p, q, rs, ws, ra, wi, rfl, _⟩ := h
    rfl
  · obtain ⟨y, sz, lv, p, q, rs, ws, ra, wi, rfl, Y, hp, hq, hlw, h4, hl1, hl2, kG, kB⟩ := h
    refine ⟨_, pss_cons (ps_expr (pe_callX GC hr (by rfl) mC FC.kp bC .nil passes_cx (pa_cons (pe_callB call_len_seq (by rfl) T.len PySem.boot_len (pa_cons (pe_fld (pv 0) rfl) pa_nil)) (pa_cons (pv 1) (pa_cons (pv 2) pa_nil)))))
      (pss_cons (ps_set (i := 3) scDy.nd rfl (Or.inl rfl) (pe_lst pa_nil))
      (pss_cons (ps_set (i := 4) scDy.nd rfl (Or.inl rfl) (pe_lst pa_nil))
      (pss_cons (ps_set (i := 5) scDy.nd rfl (Or.inl rfl) pe_int)
      (pss_cons (ps_for PassesOwn.leaving rfl (pi_zip4 (by rfl) T.zip (pa_cons (pe_fld (pv 0) rfl) (pa_cons (pe_fld (pv 0) rfl) (pa_cons (pv 1) (pa_cons (pv 2) pa_nil)))))
          (pg_tup rfl (pgs_cons (pg_name (i := 6) scDy.nd rfl (Or.inl rfl)) (pgs_cons (pg_name (i := 7) scDy.nd rfl (Or.inl rfl)) (pgs_cons (pg_name (i := 8) scDy.nd rfl (Or.inl rfl)) (pgs_cons (pg_name (i := 9) scDy.nd rfl (Or.inl rfl)) pgs_nil)))))
          (pss_cons (ps_set (i := 10) scDy.nd rfl (Or.inl rfl) (pe_op op_add (pe_op op_add (pv 7) (pv 8)) (pv 5)))
          (pss_cons (ps_set (i := 11) scDy.nd rfl (Or.inl rfl) (pe_callB (call_min2 rfl) (by rfl) T.min boot_min (pa_cons (pv 9) (pa_cons (pv 10) pa_nil))))
          (pss_cons (ps_set (i := 12) scDy.nd rfl (Or.inl rfl) (pe_callB (call_min2 rfl) (by rfl) T.min boot_min (pa_cons (pv 6) (pa_cons (pe_op op_sub (pv 10) (pv 11)) pa_nil))))
          (pss_cons (ps_set (i := 5) scDy.nd rfl (Or.inl rfl) (pe_op op_sub (pe_op op_sub (pv 10) (pv 11)) (pv 12)))
          (pss_cons (ps_expr (pe_bm PySem.F.plainAttrs_list PySem.F.slot_list_append PySem.F.type_list_append mt_append (pv 3) (pa_cons (pv 11) pa_nil)))
          (pss_one (ps_expr (pe_bm PySem.F.plainAttrs_list PySem.F.slot_list_append PySem.F.type_list_append mt_append (pv 4) (pa_cons (pv 12) pa_nil))))))))))
      (pss_cons (ps_fld (pv 0) (pv 4) rfl)
      (pss_one (ps_ret (pe_tup (pa_cons (pv 3) (pa_cons (pv 5) pa_nil)))))))))), ?_⟩
    obtain ⟨dx, hy⟩ := Y.ob
    -- check_day(len(self.sizes), rain, wishes)
    refine ⟨_, rfl, y, C, dx, _, _, rfl, hy, T.cl, T.nS, fl_sizes _ _, sz, _, rfl, .inl (SqL.of Y.sz), _, rfl, _, rfl, rs.length, p, q, ra, wi, (by rw [List.length_map]; rfl), hp, hq, hl1, hl2, fun g H1 s1 => ?_, fun g H1 s1 => kB g H1 s1⟩
    -- drawn = [], kept = [], falling = 0
    refine ⟨Nat.zero_le _, fun d hd => ⟨Nat.zero_le _, fun k hk => ?_⟩⟩
    have ndk : d ≠ k := fun z => by
      rw [← z, upd_same] at hk
      cases hk
    have hk1 : H1 k = none := by rw [upd_ne ndk.symm] at hk; exact hk
    have s2 : Same H1 (upd (upd H1 d (.lst [])) k (.lst [])) := (same_upd hd).trans (same_upd hk)
    have hd2 : (upd (upd H1 d (.lst [])) k (.lst [])) d = some (.lst []) := by rw [upd_ne ndk, upd_same]
    have hk2 : (upd (upd H1 d (.lst [])) k (.lst [])) k = some (.lst []) := upd_same
    generalize upd (upd H1 d (.lst [])) k (.lst []) = H2 at s2 hd2 hk2 ⊢
    have s12 := s1.trans s2
    have Y2 := Y.same s12
    have hy2 := s12 _ _ hy
    -- the tanks
    refine ⟨_, rfl, y, C, dx, _, _, rfl, hy2, T.cl, T.nS, fl_sizes _ _, _, rfl, y, C, dx, _, _, rfl, hy2, T.cl, T.nL, fl_levels _ _, _, rfl, _, rfl, sz, lv, p, q, rfl, ⟨_, SqL.of Y2.sz⟩, ⟨_, SqL.of Y2.lv⟩, ⟨_, SqL.of (s12 _ _ hp)⟩, ⟨_, SqL.of (s12 _ _ hq)⟩, ?_⟩
    refine for_it rs.length (fun i σ H' => i ≤ rs.length ∧ Same H1 H' ∧ H' d = some (.lst (iL (drL rs ws ra wi i))) ∧ H' k = some (.lst (iL (kpL rs ws ra wi i))) ∧
      ∃ o6 o7 o8 o9 o10 o11 o12, σ = [some (.ref y), some (.ref p), some (.ref q), some (.ref d), some (.ref k), some (.int (fallAt rs ws ra wi i)), o6, o7, o8, o9, o10, o11, o12]) ?_ ?_ ?_
    · exact ⟨Nat.zero_le _, s2, hd2, hk2, none, none, none, none, none, none, none, rfl⟩
    · rintro i σ H' hi ⟨_, s3, hd3, hk3, o6, o7, o8, o9, o10, o11, o12, rfl⟩
      have s13 := s1.trans s3
      have Y3 := Y.same s13
      have hp3 := s13 _ _ hp
      have hq3 := s13 _ _ hq
      have g1 := iL_at (l := rs) hi
      have g2 := iL_at (l := ws) (i := i) (by omega)
      have g3 := iL_at (l := ra) (i := i) (by rw [g.1.1]; exact hi)
      have g4 := iL_at (l := wi) (i := i) (by rw [g.2.1]; exact hi)
      refine ⟨⟨[.int (gI rs i), .int (gI ws i), .int (gI ra i), .int (gI wi i)], rfl, fun j a v e1 e2 => ?_⟩, ?_⟩
      · match j, e1, e2 with
        | 0, e1, e2 => cases e1; cases e2; exact ⟨_, SqL.of Y3.sz, g1⟩
        | 1, e1, e2 => cases e1; cases e2; exact ⟨_, SqL.of Y3.lv, g2⟩
        | 2, e1, e2 => cases e1; cases e2; exact ⟨_, SqL.of hp3, g3⟩
        | 3, e1, e2 => cases e1; cases e2; exact ⟨_, SqL.of hq3, g4⟩
        | j + 4, e1, e2 => simp at e1
      rintro x H4 ⟨t, vs, rfl, hnt, rfl, hvl, hvs⟩
      obtain ⟨v0, v1, v2, v3, rfl⟩ : ∃ a b c e, vs = [a, b, c, e] := by
        match vs, hvl with
        | [a, b, c, e], _ => exact ⟨a, b, c, e, rfl⟩
      have e0 := Option.some.inj ((hvs 0 _ _ rfl rfl _ (SqL.of Y3.sz)).symm.trans g1)
      have e1 := Option.some.inj ((hvs 1 _ _ rfl rfl _ (SqL.of Y3.lv)).symm.trans g2)
      have e2 := Option.some.inj ((hvs 2 _ _ rfl rfl _ (SqL.of hp3)).symm.trans g3)
      have e3 := Option.some.inj ((hvs 3 _ _ rfl rfl _ (SqL.of hq3)).symm.trans g4)
      subst e0 e1 e2 e3
      have nd : d ≠ t := ne_of_none hd3 hnt
      have nk : k ≠ t := ne_of_none hk3 hnt
      refine ⟨t, _, rfl, SqT.of upd_same, rfl, _, _, rfl, _, _, rfl, _, _, rfl, _, _, rfl, rfl, ?_⟩
      refine ⟨_, rfl, _, rfl, _, _, rfl, rfl, _, rfl, _, _, rfl, rfl, ?_⟩
      refine ⟨_, rfl, _, rfl, _, _, rfl, ?_⟩
      rw [py_min]
      refine ⟨_, rfl, _, rfl, _, rfl, _, _, rfl, rfl, _, _, rfl, ?_⟩
      rw [py_min]
      refine ⟨_, rfl, _, rfl, _, _, rfl, rfl, _, rfl, _, _, rfl, rfl, ?_⟩
      refine ⟨_, rfl, .inl ⟨rfl, _, SqL.of (by rw [upd_ne nd]; exact hd3)⟩, _, rfl, d, _, _, rfl, rfl, (by rw [upd_ne nd]; exact hd3), small1000 (by rw [List.length_map, drL_len]; omega), ?_⟩
      refine ⟨_, rfl, .inl ⟨rfl, _, SqL.of (by rw [upd_ne ndk.symm, upd_ne nk]; exact hk3)⟩, _, rfl, k, _, _, rfl, rfl, (by rw [upd_ne ndk.symm, upd_ne nk]; exact hk3), small1000 (by rw [List.length_map, kpL_len]; omega), ?_⟩
      rw [iL_snoc, iL_snoc]
      refine ⟨hi, fun b o z => ?_, ?_, ?_, _, _, _, _, _, _, _, rfl⟩
      · rw [upd_ne (ne_of_none z hk1), upd_ne (ne_of_none z hd), upd_ne (ne_of_none (s3 _ _ z) hnt)]
        exact s3 _ _ z
      · rw [upd_ne ndk, upd_same, drL_succ]
        rfl
      · rw [upd_same, kpL_succ]
        rfl
    · rintro σ H' ⟨_, s3, hd3, hk3, o6, o7, o8, o9, o10, o11, o12, rfl⟩
      have s13 := s1.trans s3
      have Y3 := Y.same s13
      refine ⟨⟨sz, _, _, rfl, SqL.of Y3.sz, by rw [List.length_map]; exact Nat.le_refl _⟩, ?_⟩
      have hy3 := s13 _ _ hy
      -- self.levels = kept
      refine ⟨_, rfl, _, rfl, y, C, dx, _, rfl, hy3, T.cl, T.nL, (by show 2 < 1000; decide), ?_⟩
      refine ⟨_, rfl, _, rfl, (by show 2 ≤ sizeLine; decide), fun t ht => ?_⟩
      have ndy : d ≠ y := ne_of hd3 hy3 (by nofun)
      have nky : k ≠ y := ne_of hk3 hy3 (by nofun)
      have nszy : sz ≠ y := ne_of Y3.sz hy3 (by nofun)
      have nty : t ≠ y := fun z => by
        rw [z, upd_same] at ht
        cases ht
      have ht3 : H' t = none := by rw [upd_ne nty] at ht; exact ht
      refine kG g d k t _ (s1.free hd) (s1.free hk1) (s13.free ht3) ndk upd_same ?_ ⟨⟨dx, ?_⟩, ?_, ?_⟩ fun b o z hb => ?_
      · rw [upd_ne (ne_of_none hd3 ht3), upd_ne ndy]
        exact hd3
      · rw [upd_ne nty.symm, upd_same]
        rfl
      · rw [upd_ne (ne_of_none Y3.sz ht3), upd_ne nszy]
        exact Y3.sz
      · rw [upd_ne (ne_of_none hk3 ht3), upd_ne nky]
        exact hk3
      · have z3 := s13 _ _ z
        rw [upd_ne (ne_of_none z3 ht3), upd_ne hb]
        exact z3
end
end Z

set_option Elab.async false
set_option linter.all false
set_option maxRecDepth 100000
set_option maxHeartbeats 8000000
namespace Z
open PySem L2
section
variable {P : Program} {w : World} {K : PySem.W.Frag} {mg : Str → Option Value} {base : Heap} {C cY cB cD cL cT : Addr}
def spYardBy (K : PySem.W.Frag) : Sp := fun vs H Q _ => ∃ (a : Addr) (ns : List Int) (b : Int), vs = [.ref a, .int b] ∧ SqL K H a (iL ns) ∧ ns.length ≤ 63 ∧ 0 ≤ b ∧ b ≤ 1000 ∧
  ∀ (t r u : Addr) (rs ws : List Int) (H' : Hp), H t = none → H r = none → H u = none → r ≠ u → H' t = some (.tup [.ref r, .ref u]) → H' r = some (.lst (iL rs)) → H' u = some (.lst (iL ws)) → Good rs ws → Same H H' → Q (.ref t) H'
theorem scYb : FnScope ["script", "base", "many", "top", "rooms", "waters"] ["script", "base"] (defScope sYardBy) := ⟨rfl, rfl, rfl, by decide +kernel, rfl, by decide +kernel, by decide +kernel⟩
theorem ndY1 : (["k", "script", "base", "top"] : List Str).Nodup := by decide +kernel
theorem ndY2 : (["k", "script", "base", "rooms"] : List Str).Nodup := by decide +kernel
theorem ok_yb {f fD : Addr} {fd fdD : FuncData} (F : Fun K "_law_yard_by" "_law_yard_by" sYardBy f fd) (T : Txt K mg C cY cB cD cL cT) (FD : Fun K "_law_drawn" "_law_drawn" sDrawn fD fdD) (bD : Binds K fdD ["script", "k", "many"] []) (mD : mg "_law_drawn" = some (.ref fD)) :
    FnOk P w K mg base CX0 2 f fd ["script", "base"] (spYardBy K) := by
  have GD : FnOk P w K mg base CX0 1 fD fdD ["script", "k", "many"] (spDrawn K) := ok_dr FD T
  refine F.ok scYb (fun vs H Q E h => ?_) (fun cdv A outer s H vs Q E hr h => ?_)
  · obtain ⟨a, ns, b, rfl, _⟩ := h
    rfl
  · obtain ⟨a, ns, b, rfl, hs, hl, hb0, hb1, k⟩ := h
    refine ⟨_, pss_cons (ps_set (i := 2) scYb.nd rfl (Or.inl rfl) (pe_op op_add pe_int (pe_call GD hr (by rfl) mD FD.kp bD .nil pass0 (pa_cons (pv 0) (pa_cons (pv 1) (pa_cons pe_int pa_nil))))))
      (pss_cons (ps_set (i := 3) scYb.nd rfl (Or.inr rfl) (pe_ix ix_list (pe_lst (pa_cons pe_int (pa_cons pe_int (pa_cons pe_int pa_nil)))) (pe_call GD hr (by rfl) mD FD.kp bD .nil pass0 (pa_cons (pv 0) (pa_cons (pe_op op_add (pv 1) pe_int) (pa_cons pe_int pa_nil)))) (fun _ _ => rfl)))
      (pss_cons (ps_set (i := 4) scYb.nd rfl (Or.inr rfl) (pe_comp (N := ["k", "script", "base", "top"]) (cap := [none, some 0, some 1, some 3]) rfl (.of (by rfl)) (pi_range1 (by rfl) T.range (pa_cons (pv 2) pa_nil))
          (fun _ _ _ _ => pg_name (i := 0) ndY1 rfl (Or.inl rfl)) (fun _ _ _ _ => pts_nil)
          (fun _ _ _ _ => pe_call GD hr (by rfl) mD FD.kp bD .nil pass0 (pa_cons (pv 1) (pa_cons (pe_op op_add (pe_op op_add (pv 2) pe_int) (pv 0)) (pa_cons (pv 3) pa_nil))))))
      (pss_cons (ps_setC (i := 5) scYb.nd rfl (Or.inl rfl) (N := ["k", "script", "base", "rooms"]) (cap := [none, some 0, some 1, some 4]) rfl (.of (by rfl)) (pi_range1 (by rfl) T.range (pa_cons (pv 2) pa_nil))
          (fun _ _ _ _ => pg_name (i := 0) ndY2 rfl (Or.inl rfl)) (fun _ _ _ _ => pts_nil)
          (fun _ _ _ _ => pe_call GD hr (by rfl) mD FD.kp bD .nil pass0 (pa_cons (pv 1) (pa_cons (pe_op op_add (pe_op op_add (pv 2) pe_int) (pv 0)) (pa_cons (pe_op op_add (pe_ix (show IxR _ (rIxL K) from ix_list) (pv 3) (pv 0) (fun _ _ => rfl)) pe_int) pa_nil)))))
      (pss_one (ps_ret (pe_tup (pa_cons (pv 4) (pa_cons (pv 5) pa_nil)))))))), ?_⟩
    refine ⟨_, rfl, _, rfl, a, ns, _, _, rfl, hs, hl, hb0, by omega, by decide, fun m0 m1 m2 => ⟨_, _, rfl, rfl, ?_⟩⟩
    obtain ⟨n, en⟩ : ∃ n : Nat, (1 + m0).toNat = n := ⟨_, rfl⟩
    have hn1 : 1 ≤ n := by omega
    have hn4 : n ≤ 4 := by omega
    -- top
    refine ⟨(by show 3 ≤ sizeLine; decide), fun l hl0 => ?_⟩
    have s1 := same_upd (o := .lst [.int 4, .int 12, .int 51]) hl0
    refine ⟨_, rfl, _, rfl, _, _, rfl, rfl, a, ns, _, _, rfl, s1.seq hs, hl, by omega, by omega, by decide, fun c c0 c1 => ?_⟩
    obtain ⟨top, htop, t0, t1⟩ : ∃ top : Int, atI [V.int 4, .int 12, .int 51] c = some (.int top) ∧ 0 < top ∧ top ≤ 51 := by
      have hc : c = 0 ∨ c = 1 ∨ c = 2 := by omega
      rcases hc with rfl | rfl | rfl
      · exact ⟨4, rfl, by decide, by decide⟩
      · exact ⟨12, rfl, by decide, by decide⟩
      · exact ⟨51, rfl, by decide, by decide⟩
    refine ⟨l, _, _, _, rfl, rfl, SqL.of upd_same, htop, ?_⟩
    have hs1 := s1.seq hs
    generalize upd H l (.lst [.int 4, .int 12, .int 51]) = H1 at s1 hs1 ⊢
    -- rooms
    refine ⟨_, rfl, _, rfl, by omega, by omega, fun D hD => ?_⟩
    rw [en]
    refine comp_by n (sz100 (by omega)) (fun i ys τ H' => i ≤ n ∧ (∃ rs : List Int, ys = iL rs ∧ rs.length = i ∧ ∀ v ∈ rs, 0 ≤ v ∧ v ≤ 50) ∧ H' = upd H1 D (.lst ys) ∧ ∃ o, τ = [o, some (.ref a), some (.int b), some (.int top)]) ?_ ?_ ?_ ?_
    · exact ⟨Nat.zero_le _, ⟨[], rfl, rfl, by simp⟩, rfl, none, rfl⟩
    · rintro i ys τ H' ⟨hi, ⟨rs, rfl, hrl, _⟩, rfl, _⟩
      exact ⟨upd_same, by rw [List.length_map, hrl]; exact Nat.le_refl _⟩
    · rintro i ys τ H' hi ⟨_, ⟨rs, rfl, hrl, hnn⟩, rfl, o, rfl⟩
      refine ⟨hi, ?_⟩
      rintro x H3 ⟨rfl, rfl⟩
      refine name_yes_if ?_
      refine ⟨_, rfl, _, rfl, _, _, rfl, rfl, _, rfl, _, _, rfl, rfl, _, rfl, a, ns, _, _, rfl, (same_upd hD).seq hs1, hl, by omega, by omega, t0, fun r r0 r1 => ⟨upd_same, hi, ⟨rs ++ [r], ?_, ?_, ?_⟩, ?_, _, rfl⟩⟩
      · exact iL_snoc rs r
      · rw [List.length_append, hrl]
        rfl
      · intro v hv
        rcases List.mem_append.mp hv with z | z
        · exact hnn v z
        · rw [List.mem_singleton.mp z]
          omega
      · rw [upd_upd]
    rintro ys τ H' ⟨_, ⟨rs, rfl, hrl, hnn⟩, rfl, o, rfl⟩
    refine ⟨Nat.le_refl _, ?_⟩
    have s2 := same_upd (o := .lst (iL rs)) hD
    have hs2 := s2.seq hs1
    have hd2 : (upd H1 D (.lst (iL rs))) D = some (.lst (iL rs)) := upd_same
    have s12 := s1.trans s2
    generalize upd H1 D (.lst (iL rs)) = H2 at s2 hs2 hd2 s12 ⊢
    -- waters
    refine ⟨_, rfl, _, rfl, by omega, by omega, fun W hW => ?_⟩
    rw [en]
    refine comp_by n (sz100 (by omega)) (fun i ys τ H' => i ≤ n ∧ (∃ ws : List Int, ys = iL ws ∧ ws.length = i ∧ ∀ (j : Nat) (r v : Int), rs[j]? = some r → ws[j]? = some v → 0 ≤ v ∧ v ≤ r) ∧ H' = upd H2 W (.lst ys) ∧ ∃ o, τ = [o, some (.ref a), some (.int b), some (.ref D)]) ?_ ?_ ?_ ?_
    · exact ⟨Nat.zero_le _, ⟨[], rfl, rfl, fun j r v _ h => by simp at h⟩, rfl, none, rfl⟩
    · rintro i ys τ H' ⟨hi, ⟨ws, rfl, hwl, _⟩, rfl, _⟩
      exact ⟨upd_same, by rw [List.length_map, hwl]; exact Nat.le_refl _⟩
    · rintro i ys τ H' hi ⟨_, ⟨ws, rfl, hwl, hww⟩, rfl, o, rfl⟩
      have sw := same_upd (o := .lst (iL ws)) hW
      have hir : i < rs.length := by omega
      have ev : (iL rs)[i]? = some (.int rs[i]) := by simp [hir]
      have e0 : (0 : Int) + (i : Int) = (i : Int) := by omega
      have hge := hnn _ (List.getElem_mem hir)
      refine ⟨hi, ?_⟩
      rintro x H3 ⟨rfl, rfl⟩
      refine name_yes_if ?_
      refine ⟨_, rfl, _, rfl, _, _, rfl, rfl, _, rfl, _, _, rfl, rfl, _, rfl, _, rfl, D, _, _, .int rs[i], rfl, rfl, SqL.of (sw _ _ hd2), (by rw [e0]; exact atI_nat ev), _, _, rfl, rfl, a, ns, _, _, rfl, sw.seq hs2, hl, by omega, by omega, by omega, fun r r0 r1 => ⟨upd_same, hi, ⟨ws ++ [r], ?_, ?_, ?_⟩, ?_, _, rfl⟩⟩
      · exact iL_snoc ws r
      · rw [List.length_append, hwl]
        rfl
      · intro j r' v h1 h2
        by_cases hj : j < ws.length
        · rw [List.getElem?_append_left hj] at h2
          exact hww j r' v h1 h2
        · have hji : j = i := by
            have := (List.getElem?_eq_some_iff.mp h2).1
            rw [List.length_append] at this
            have : j < ws.length + 1 := this
            omega
          subst hji
          rw [List.getElem?_append_right (by omega), show j - ws.length = 0 by omega] at h2
          cases h2
          rw [List.getElem?_eq_getElem hir] at h1
          cases h1
          omega
      · rw [upd_upd]
    rintro ys τ H' ⟨_, ⟨ws, rfl, hwl, hww⟩, rfl, o, rfl⟩
    refine ⟨Nat.le_refl _, ?_⟩
    have s3 := same_upd (o := .lst (iL ws)) hW
    refine ⟨_, rfl, _, rfl, (by show 2 ≤ sizeLine; decide), fun t ht => ?_⟩
    have s4 := same_upd (o := .tup [.ref D, .ref W]) ht
    refine k t D W rs ws _ ((s12.trans s3).free ht) (s1.free hD) (s12.free hW) (ne_of_none hd2 hW) upd_same (s4 _ _ (s3 _ _ hd2)) (s4 _ _ upd_same) ⟨by omega, by omega, by omega, fun i r v e1 e2 => ?_⟩ (s12.trans (s3.trans s4))
    have h1 := hnn _ (List.mem_of_getElem? e1)
    have h2 := hww i r v e1 e2
    omega
end
end Z

set_option Elab.async false
set_option linter.all false
set_option maxRecDepth 100000
set_option maxHeartbeats 8000000
namespace Z
open PySem L2
section
variable {P : Program} {w : World} {K : PySem.W.Frag} {mg : Str → Option Value} {base : Heap} {C cY cB cD cL cT : Addr}
abbrev A3 := Addr × Addr × Addr
def rowsOf (as : List A3) : List Addr := as.flatMap fun a => [a.2.1, a.2.2]
/-- a list of days: each a pair of two lists, no two lists one -/
structure DaysAt (H : Hp) (l : Addr) (as : List A3) (ds : List (List Int × List Int)) : Prop where
  len : as.length = ds.length
  lst : H l = some (.lst (as.map fun a => .ref a.1))
  tup : ∀ a ∈ as, H a.1 = some (.tup [.ref a.2.1, .ref a.2.2])
  row : ∀ (i : Nat) (a : A3) (d : List Int × List Int), as[i]? = some a → ds[i]? = some d → H a.2.1 = some (.lst (iL d.1)) ∧ H a.2.2 = some (.lst (iL d.2))
  nd : (rowsOf as).Nodup
theorem mem_rows {as : List A3} {b : Addr} : b ∈ rowsOf as ↔ ∃ a ∈ as, b = a.2.1 ∨ b = a.2.2 := by
  unfold rowsOf
  rw [List.mem_flatMap]
  constructor
  · rintro ⟨a, ha, h⟩
    simp only [List.mem_cons, List.not_mem_nil, or_false] at h
    exact ⟨a, ha, h⟩
  · rintro ⟨a, ha, h⟩
    exact ⟨a, ha, by simpa using h⟩
theorem DaysAt.rowIn {H : Hp} {l : Addr} {as : List A3} {ds : List (List Int × List Int)} (D : DaysAt H l as ds) {b : Addr} (h : b ∈ rowsOf as) : ∃ vs, H b = some (.lst (iL vs)) := by
  obtain ⟨a, ha, hb⟩ := mem_rows.mp h
  obtain ⟨i, hi, e⟩ := List.mem_iff_getElem.mp ha
  have hd : i < ds.length := by rw [← D.len]; exact hi
  have := D.row i a ds[i] (by rw [← e]; exact List.getElem?_eq_getElem hi) (List.getElem?_eq_getElem hd)
  rcases hb with rfl | rfl
  · exact ⟨_, this.1⟩
  · exact ⟨_, this.2⟩
/-- a day more -/
theorem DaysAt.more {H H' : Hp} {l t p q : Addr} {as : List A3} {ds : List (List Int × List Int)} {ra wi : List Int} (D : DaysAt H l as ds) (hp : H p = none) (hq : H q = none) (hpq : p ≠ q)
    (hl : H' l = some (.lst ((as.map fun a => V.ref a.1) ++ [.ref t]))) (ht : H' t = some (.tup [.ref p, .ref q])) (hp' : H' p = some (.lst (iL ra))) (hq' : H' q = some (.lst (iL wi)))
    (hk : ∀ b o, H b = some o → b ≠ l → H' b = some o) (hln : ∀ a ∈ as, l ≠ a.2.1 ∧ l ≠ a.2.2) : DaysAt H' l (as ++ [(t, p, q)]) (ds ++ [(ra, wi)]) := by
  refine ⟨by rw [List.length_append, List.length_append, D.len]; rfl, by rw [hl, List.map_append]; rfl, fun a ha => ?_, fun i a d e1 e2 => ?_, ?_⟩
  · rcases List.mem_append.mp ha with z | z
    · exact hk _ _ (D.tup a z) (ne_of (D.tup a z) D.lst (by nofun))
    · rw [List.mem_singleton.mp z]
      exact ht
  · by_cases hi : i < as.length
    · rw [List.getElem?_append_left hi] at e1
      rw [List.getElem?_append_left (by rw [← D.len]; exact hi)] at e2
      have := D.row i a d e1 e2
      have hn := hln a (List.mem_of_getElem? e1)
      exact ⟨hk _ _ this.1 hn.1.symm, hk _ _ this.2 hn.2.symm⟩
    · have hi2 : i = as.length := by
        have := (List.getElem?_eq_some_iff.mp e1).1
        rw [List.length_append] at this
        have : i < as.length + 1 := this
        omega
      subst hi2
      rw [List.getElem?_append_right (Nat.le_refl _), Nat.sub_self] at e1
      rw [List.getElem?_append_right (by rw [D.len]; exact Nat.le_refl _), D.len, Nat.sub_self] at e2
      cases e1
      cases e2
      exact ⟨hp', hq'⟩
  · have e : rowsOf (as ++ [(t, p, q)]) = rowsOf as ++ [p, q] := by unfold rowsOf; rw [List.flatMap_append]; rfl
    rw [e, List.nodup_append]
    refine ⟨D.nd, by simp [hpq], fun b hb c hc => ?_⟩
    obtain ⟨vs, hv⟩ := D.rowIn hb
    simp only [List.mem_cons, List.not_mem_nil, or_false] at hc
    rcases hc with rfl | rfl
    · exact ne_of_none hv hp
    · exact ne_of_none hv hq
def spDaysBy (K : PySem.W.Frag) : Sp := fun vs H Q _ => ∃ (a : Addr) (ns : List Int) (b : Int) (n m : Nat), vs = [.ref a, .int b, .int n, .int m] ∧ SqL K H a (iL ns) ∧ ns.length ≤ 63 ∧ 0 ≤ b ∧ b ≤ 1000 ∧ n ≤ 4 ∧ m ≤ 8 ∧
  ∀ (l : Addr) (as : List A3) (ds : List (List Int × List Int)) (H' : Hp), H l = none → (∀ x ∈ as, H x.1 = none ∧ H x.2.1 = none ∧ H x.2.2 = none) → (∀ x ∈ as, l ≠ x.2.1 ∧ l ≠ x.2.2) → DaysAt H' l as ds → ds.length ≤ m → (∀ d ∈ ds, DayOk n d.1 d.2) → Same H H' → Q (.ref l) H'
theorem scDb : FnScope ["script", "base", "many", "bound", "top", "days", "number", "rain", "wishes"] ["script", "base", "many", "bound"] (defScope sDaysBy) := ⟨rfl, rfl, rfl, by decide +kernel, rfl, by decide +kernel, by decide +kernel⟩
theorem ndD1 : (["k", "script", "base", "number", "top"] : List Str).Nodup := by decide +kernel
theorem ndD2 : (["one"] : List Str).Nodup := by decide +kernel
theorem ok_db {f fD : Addr} {fd fdD : FuncData} (F : Fun K "_law_days_by" "_law_days_by" sDaysBy f fd) (T : Txt K mg C cY cB cD cL cT) (FD : Fun K "_law_drawn" "_law_drawn" sDrawn fD fdD) (bD : Binds K fdD ["script", "k", "many"] []) (mD : mg "_law_drawn" = some (.ref fD)) :
    FnOk P w K mg base CX0 2 f fd ["script", "base", "many", "bound"] (spDaysBy K) := by
  have GD : FnOk P w K mg base CX0 1 fD fdD ["script", "k", "many"] (spDrawn K) := ok_dr FD T
  refine F.ok scDb (fun vs H Q E h => ?_) (fun cdv A outer s H vs Q E hr h => ?_)
  · obtain ⟨a, ns, b, n, m, rfl, _⟩ := h
    rfl
  · obtain ⟨a, ns, b, n, m, rfl, hs, hl, hb0, hb1, hn4, hm8, k⟩ := h
    refine ⟨_, pss_cons (ps_set (i := 4) scDb.nd rfl (Or.inr rfl) (pe_ix ix_list (pe_lst (pa_cons pe_int (pa_cons pe_int (pa_cons pe_int pa_nil)))) (pe_call GD hr (by rfl) mD FD.kp bD .nil pass0 (pa_cons (pv 0) (pa_cons (pv 1) (pa_cons pe_int pa_nil)))) (fun _ _ => rfl)))
      (pss_cons (ps_set (i := 5) scDb.nd rfl (Or.inl rfl) (pe_lst pa_nil))
      (pss_cons (ps_for PassesOwn.never rfl (pi_range1 (by rfl) T.range (pa_cons (pe_call GD hr (by rfl) mD FD.kp bD .nil pass0 (pa_cons (pv 0) (pa_cons (pe_op op_add (pv 1) pe_int) (pa_cons (pe_op op_add (pv 3) pe_int) pa_nil)))) pa_nil)) (pg_name (i := 6) scDb.nd rfl (Or.inr rfl))
        (pss_cons (ps_setC (i := 7) scDb.nd rfl (Or.inl rfl) (N := ["k", "script", "base", "number", "top"]) (cap := [none, some 0, some 1, some 6, some 4]) rfl (.of (by rfl)) (pi_range1 (by rfl) T.range (pa_cons (pv 2) pa_nil))
            (fun _ _ _ _ => pg_name (i := 0) ndD1 rfl (Or.inl rfl)) (fun _ _ _ _ => pts_nil)
            (fun _ _ _ _ => pe_call GD hr (by rfl) mD FD.kp bD .nil pass0 (pa_cons (pv 1) (pa_cons (pe_op op_add (pe_op op_add (pe_op op_add (pv 2) pe_int) (pe_op op_mul pe_int (pv 3))) (pv 0)) (pa_cons (pv 4) pa_nil)))))
        (pss_cons (ps_setC (i := 8) scDb.nd rfl (Or.inl rfl) (N := ["k", "script", "base", "number", "top"]) (cap := [none, some 0, some 1, some 6, some 4]) rfl (.of (by rfl)) (pi_range1 (by rfl) T.range (pa_cons (pv 2) pa_nil))
            (fun _ _ _ _ => pg_name (i := 0) ndD1 rfl (Or.inl rfl)) (fun _ _ _ _ => pts_nil)
            (fun _ _ _ _ => pe_call GD hr (by rfl) mD FD.kp bD .nil pass0 (pa_cons (pv 1) (pa_cons (pe_op op_add (pe_op op_add (pe_op op_add (pv 2) pe_int) (pe_op op_mul pe_int (pv 3))) (pv 0)) (pa_cons (pv 4) pa_nil)))))
        (pss_cons (ps_if (pt_cmpR op_eq (pe_call GD hr (by rfl) mD FD.kp bD .nil pass0 (pa_cons (pv 0) (pa_cons (pe_op op_add (pv 1) pe_int) (pa_cons pe_int pa_nil)))) pe_int (nomark _))
            (pss_one (ps_setC (i := 8) scDb.nd rfl (Or.inl rfl) (N := ["one"]) (cap := [none]) rfl (.of (by rfl)) (pi_list (pv 8)) (fun _ _ _ _ => pg_name (i := 0) ndD2 rfl (Or.inl rfl)) (fun _ _ _ _ => pts_nil)
              (fun _ _ _ _ => pe_callB (call_min2 rfl) (by rfl) T.min boot_min (pa_cons pe_int (pa_cons (pe_op op_mul pe_int (pv 0)) pa_nil))))) pss_nil)
        (pss_one (ps_expr (pe_bm PySem.F.plainAttrs_list PySem.F.slot_list_append PySem.F.type_list_append mt_append (pv 5) (pa_cons (pe_tup (pa_cons (pv 7) (pa_cons (pv 8) pa_nil))) pa_nil))))))))
      (pss_one (ps_ret (pv 5))))), ?_⟩
    -- top
    refine ⟨(by show 3 ≤ sizeLine; decide), fun l hl0 => ?_⟩
    have s1 := same_upd (o := .lst [.int 4, .int 10, .int 31]) hl0
    refine ⟨_, rfl, _, rfl, a, ns, _, _, rfl, s1.seq hs, hl, by omega, by omega, by decide, fun c c0 c1 => ?_⟩
    obtain ⟨top, htop, t0, t1⟩ : ∃ top : Int, atI [V.int 4, .int 10, .int 31] c = some (.int top) ∧ 0 < top ∧ top ≤ 31 := by
      have hc : c = 0 ∨ c = 1 ∨ c = 2 := by omega
      rcases hc with rfl | rfl | rfl
      · exact ⟨4, rfl, by decide, by decide⟩
      · exact ⟨10, rfl, by decide, by decide⟩
      · exact ⟨31, rfl, by decide, by decide⟩
    refine ⟨l, _, _, _, rfl, rfl, SqL.of upd_same, htop, ?_⟩
    have hs1 := s1.seq hs
    generalize upd H l (.lst [.int 4, .int 10, .int 31]) = H1 at s1 hs1 ⊢
    -- days = []
    refine ⟨Nat.zero_le _, fun d hd => ?_⟩
    have s2 := same_upd (o := .lst []) hd
    refine ⟨_, rfl, _, rfl, _, _, rfl, rfl, _, rfl, _, _, rfl, rfl, a, ns, _, _, rfl, s2.seq hs1, hl, by omega, by omega, by omega, fun cnt n0 n1 => ⟨_, rfl, by omega, by omega, ?_⟩⟩
    obtain ⟨cn, ecn⟩ : ∃ cn : Nat, cnt.toNat = cn := ⟨_, rfl⟩
    rw [ecn]
    have hcm : cn ≤ m := by omega
    refine for_range (n := cn) (fun i σ H' => i ≤ cn ∧ Same H1 H' ∧ (∃ (as : List A3) (ds : List (List Int × List Int)), ds.length = i ∧ DaysAt H' d as ds ∧ (∀ x ∈ as, H1 x.1 = none ∧ H1 x.2.1 = none ∧ H1 x.2.2 = none) ∧ (∀ x ∈ as, d ≠ x.2.1 ∧ d ≠ x.2.2) ∧ ∀ x ∈ ds, DayOk n x.1 x.2) ∧
      ∃ o6 o7 o8, σ = [some (.ref a), some (.int b), some (.int n), some (.int m), some (.int top), some (.ref d), o6, o7, o8]) ?_ ?_ ?_
    · exact ⟨Nat.zero_le _, s2, ⟨[], [], rfl, ⟨rfl, upd_same, by simp, fun i a d h => by simp at h, List.nodup_nil⟩, by simp, by simp, by simp⟩, none, none, none, rfl⟩
    · rintro i σ H' hi ⟨_, s3, ⟨as, ds, hdl, DA, fr, dn, dok⟩, o6, o7, o8, rfl⟩
      have hs3 := s3.seq hs1
      have en : (n : Int).toNat = n := by omega
      -- rain
      refine ⟨_, rfl, _, rfl, by omega, by omega, fun p hp => ?_⟩
      rw [en]
      refine comp_by n (sz100 (by omega)) (fun j ys τ H4 => j ≤ n ∧ (∃ ra : List Int, ys = iL ra ∧ ra.length = j ∧ ∀ v ∈ ra, 0 ≤ v ∧ v ≤ 30) ∧ H4 = upd H' p (.lst ys) ∧ ∃ o, τ = [o, some (.ref a), some (.int b), some (.int (0 + (i : Int))), some (.int top)]) ?_ ?_ ?_ ?_
      · exact ⟨Nat.zero_le _, ⟨[], rfl, rfl, by simp⟩, rfl, none, rfl⟩
      · rintro j ys τ H4 ⟨hj, ⟨ra, rfl, hrl, _⟩, rfl, _⟩
        exact ⟨upd_same, by rw [List.length_map, hrl]; exact Nat.le_refl _⟩
      · rintro j ys τ H4 hj ⟨_, ⟨ra, rfl, hrl, hnn⟩, rfl, o, rfl⟩
        refine ⟨hj, ?_⟩
        rintro x H3 ⟨rfl, rfl⟩
        refine name_yes_if ?_
        refine ⟨_, rfl, _, rfl, _, _, rfl, rfl, _, rfl, _, _, rfl, rfl, .inl ⟨by decide, by decide⟩, _, _, rfl, rfl, _, rfl, _, _, rfl, rfl, _, rfl, a, ns, _, _, rfl, (same_upd hp).seq hs3, hl, by omega, by omega, t0, fun r r0 r1 => ⟨upd_same, hj, ⟨ra ++ [r], iL_snoc ra r, ?_, ?_⟩, ?_, _, rfl⟩⟩
        · rw [List.length_append, hrl]
          rfl
        · intro v hv
          rcases List.mem_append.mp hv with z | z
          · exact hnn v z
          · rw [List.mem_singleton.mp z]
            omega
        · rw [upd_upd]
      rintro ys τ H4 ⟨_, ⟨ra, rfl, hrl, hra⟩, rfl, o, rfl⟩
      refine ⟨Nat.le_refl _, ?_⟩
      have s4 := same_upd (o := .lst (iL ra)) hp
      have s34 := s3.trans s4
      have hs4 := s4.seq hs3
      have hp4 : (upd H' p (.lst (iL ra))) p = some (.lst (iL ra)) := upd_same
      generalize upd H' p (.lst (iL ra)) = H5 at s4 s34 hs4 hp4 ⊢
      -- wishes
      refine ⟨_, rfl, _, rfl, by omega, by omega, fun q hq => ?_⟩
      rw [en]
      refine comp_by n (sz100 (by omega)) (fun j ys τ H4 => j ≤ n ∧ (∃ wi : List Int, ys = iL wi ∧ wi.length = j ∧ ∀ v ∈ wi, 0 ≤ v ∧ v ≤ 30) ∧ H4 = upd H5 q (.lst ys) ∧ ∃ o, τ = [o, some (.ref a), some (.int b), some (.int (0 + (i : Int))), some (.int top)]) ?_ ?_ ?_ ?_
      · exact ⟨Nat.zero_le _, ⟨[], rfl, rfl, by simp⟩, rfl, none, rfl⟩
      · rintro j ys τ H4 ⟨hj, ⟨wi, rfl, hrl, _⟩, rfl, _⟩
        exact ⟨upd_same, by rw [List.length_map, hrl]; exact Nat.le_refl _⟩
      · rintro j ys τ H4 hj ⟨_, ⟨wi, rfl, hwl, hnn⟩, rfl, o, rfl⟩
        refine ⟨hj, ?_⟩
        rintro x H3 ⟨rfl, rfl⟩
        refine name_yes_if ?_
        refine ⟨_, rfl, _, rfl, _, _, rfl, rfl, _, rfl, _, _, rfl, rfl, .inl ⟨by decide, by decide⟩, _, _, rfl, rfl, _, rfl, _, _, rfl, rfl, _, rfl, a, ns, _, _, rfl, (same_upd hq).seq hs4, hl, by omega, by omega, t0, fun r r0 r1 => ⟨upd_same, hj, ⟨wi ++ [r], iL_snoc wi r, ?_, ?_⟩, ?_, _, rfl⟩⟩
        · rw [List.length_append, hwl]
          rfl
        · intro v hv
          rcases List.mem_append.mp hv with z | z
          · exact hnn v z
          · rw [List.mem_singleton.mp z]
            omega
        · rw [upd_upd]
      rintro ys τ H4 ⟨_, ⟨wi, rfl, hwl, hwi⟩, rfl, o, rfl⟩
      refine ⟨Nat.le_refl _, ?_⟩
      have s5 := same_upd (o := .lst (iL wi)) hq
      have hs5 := s5.seq hs4
      have hq5 : (upd H5 q (.lst (iL wi))) q = some (.lst (iL wi)) := upd_same
      have hp5 := s5 _ _ hp4
      have s45 := s4.trans s5
      have hq' : H' q = none := s4.free hq
      have npq : p ≠ q := ne_of_none hp4 hq
      generalize upd H5 q (.lst (iL wi)) = H6 at s5 hs5 hq5 hp5 s45 ⊢
      refine ⟨_, rfl, _, rfl, _, _, rfl, rfl, a, ns, _, _, rfl, hs5, hl, by omega, by omega, by decide, fun e e0 e1 => ⟨rfl, _, rfl, ?_⟩⟩
      -- the day is put in
      have fin : ∀ (q2 : Addr) (wi2 : List Int) (H7 : Hp) (t : Addr), Same H' H7 → H' q2 = none → p ≠ q2 → H7 p = some (.lst (iL ra)) → H7 q2 = some (.lst (iL wi2)) → RowOk n wi2 → H7 t = none →
          (Same H1 (upd (upd H7 t (.tup [.ref p, .ref q2])) d (.lst ((as.map fun a => V.ref a.1) ++ [.ref t]))) ∧ ∃ (as' : List A3) (ds' : List (List Int × List Int)), ds'.length = i + 1 ∧ DaysAt (upd (upd H7 t (.tup [.ref p, .ref q2])) d (.lst ((as.map fun a => V.ref a.1) ++ [.ref t]))) d as' ds' ∧
            (∀ x ∈ as', H1 x.1 = none ∧ H1 x.2.1 = none ∧ H1 x.2.2 = none) ∧ (∀ x ∈ as', d ≠ x.2.1 ∧ d ≠ x.2.2) ∧ ∀ x ∈ ds', DayOk n x.1 x.2) := by
        intro q2 wi2 H7 t sH hq2 hpq2 hp7 hq7 hro ht7
        have dt : d ≠ t := ne_of_none (sH _ _ DA.lst) ht7
        have dp : d ≠ p := ne_of_none DA.lst hp
        have dq : d ≠ q2 := ne_of_none DA.lst hq2
        refine ⟨fun b o z => ?_, as ++ [(t, p, q2)], ds ++ [(ra, wi2)], by rw [List.length_append, hdl]; rfl, ?_, fun x hx => ?_, fun x hx => ?_, fun x hx => ?_⟩
        · have z7 := sH _ _ (s3 _ _ z)
          rw [upd_ne (ne_of_none z hd), upd_ne (ne_of_none z7 ht7)]
          exact z7
        · refine DA.more hp hq2 hpq2 upd_same (by rw [upd_ne dt.symm, upd_same]) (by rw [upd_ne dp.symm, upd_ne (ne_of_none hp7 ht7)]; exact hp7) (by rw [upd_ne dq.symm, upd_ne (ne_of_none hq7 ht7)]; exact hq7) (fun b o z hb => ?_) dn
          rw [upd_ne hb, upd_ne (ne_of_none (sH _ _ z) ht7)]
          exact sH _ _ z
        · rcases List.mem_append.mp hx with z | z
          · exact fr x z
          · rw [List.mem_singleton.mp z]
            exact ⟨(s3.trans sH).free ht7, s3.free hp, s3.free hq2⟩
        · rcases List.mem_append.mp hx with z | z
          · exact dn x z
          · rw [List.mem_singleton.mp z]
            exact ⟨dp, dq⟩
        · rcases List.mem_append.mp hx with z | z
          · exact dok x z
          · rw [List.mem_singleton.mp z]
            exact ⟨⟨hrl, hra⟩, hro⟩
      have hal : (as.map fun a => V.ref a.1).length < 1000 := by rw [List.length_map, DA.len]; omega
      refine ite2 (fun h1 => ?_) (fun h1 => ?_)
      · -- wishes doubled
        refine ⟨_, rfl, q, rfl, ⟨_, SqL.of hq5⟩, fun q2 hq2 => ?_⟩
        have nqq : q ≠ q2 := ne_of_none hq5 hq2
        refine comp_by wi.length (sz100 (by omega)) (fun j ys τ H4 => j ≤ wi.length ∧ (∃ w2 : List Int, ys = iL w2 ∧ w2.length = j ∧ ∀ v ∈ w2, 0 ≤ v ∧ v ≤ 30) ∧ H4 = upd H6 q2 (.lst ys) ∧ ∃ o, τ = [o]) ?_ ?_ ?_ ?_
        · exact ⟨Nat.zero_le _, ⟨[], rfl, rfl, by simp⟩, rfl, none, rfl⟩
        · rintro j ys τ H4 ⟨hj, ⟨w2, rfl, hrl, _⟩, rfl, _⟩
          exact ⟨upd_same, by rw [List.length_map, hrl]; exact Nat.le_refl _⟩
        · rintro j ys τ H4 hj ⟨_, ⟨w2, rfl, hw2, hnn⟩, rfl, o, rfl⟩
          have hq8 : (upd H6 q2 (.lst (iL w2))) q = some (.lst (iL wi)) := by rw [upd_ne nqq]; exact hq5
          refine ⟨⟨iL wi, _, SqL.of hq8, iL_at hj⟩, ?_⟩
          rintro x H3 ⟨rfl, hx⟩
          have ex := Option.some.inj ((hx _ (SqL.of hq8)).symm.trans (iL_at hj))
          subst ex
          refine name_yes_if ?_
          refine ⟨_, rfl, _, _, rfl, rfl, .inl ⟨by decide, by decide⟩, _, _, rfl, ?_⟩
          rw [py_min]
          have hv := hwi _ (List.getElem_mem hj)
          have hgi : gI wi j = wi[j] := gI_at (List.getElem?_eq_getElem hj)
          refine ⟨upd_same, hj, ⟨w2 ++ [_], iL_snoc w2 _, ?_, ?_⟩, ?_, _, rfl⟩
          · rw [List.length_append, hw2]
            rfl
          · intro v hv2
            rcases List.mem_append.mp hv2 with z | z
            · exact hnn v z
            · rw [List.mem_singleton.mp z]
              omega
          · rw [upd_upd]
        rintro ys τ H4 ⟨_, ⟨w2, rfl, hw2, hnn⟩, rfl, o, rfl⟩
        have hq8 : (upd H6 q2 (.lst (iL w2))) q = some (.lst (iL wi)) := by rw [upd_ne nqq]; exact hq5
        refine ⟨⟨iL wi, SqL.of hq8, by rw [List.length_map]; exact Nat.le_refl _⟩, ?_⟩
        have s6 := same_upd (o := .lst (iL w2)) hq2
        have dl6 := s45 _ _ DA.lst
        refine ⟨_, rfl, .inl ⟨rfl, _, SqL.of (s6 _ _ dl6)⟩, _, rfl, _, rfl, (by show 2 ≤ sizeLine; decide), fun t ht => ?_⟩
        have := fin q2 w2 _ t (s45.trans s6) (s45.free hq2) (ne_of_none hp5 hq2) (s6 _ _ hp5) upd_same ⟨by omega, hnn⟩ ht
        exact ⟨d, _, _, rfl, rfl, (same_upd ht) _ _ (s6 _ _ dl6), small1000 (by omega), hi, this.1, this.2, _, _, _, rfl⟩
      · have dl6 := s45 _ _ DA.lst
        refine ⟨_, rfl, .inl ⟨rfl, _, SqL.of dl6⟩, _, rfl, _, rfl, (by show 2 ≤ sizeLine; decide), fun t ht => ?_⟩
        have := fin q wi _ t s45 hq' npq hp5 hq5 ⟨hwl, hwi⟩ ht
        exact ⟨d, _, _, rfl, rfl, (same_upd ht) _ _ dl6, small1000 (by omega), hi, this.1, this.2, _, _, _, rfl⟩
    · rintro σ H' ⟨_, s3, ⟨as, ds, hdl, DA, fr, dn, dok⟩, o6, o7, o8, rfl⟩
      refine ⟨_, rfl, k d as ds H' (s1.free hd) (fun x hx => ?_) dn DA (by omega) dok (s1.trans s3)⟩
      have := fr x hx
      exact ⟨s1.free this.1, s1.free this.2.1, s1.free this.2.2⟩
end
end Z

set_option Elab.async false
set_option linter.all false
set_option maxRecDepth 100000
set_option maxHeartbeats 8000000
namespace Z
open PySem L2
/-! ### days by themselves -/
abbrev Day := List Int × List Int
def oneDay (rs h : List Int) (d : Day) : List Int × List Int × Int := (drL rs h d.1 d.2 rs.length, kpL rs h d.1 d.2 rs.length, fallAt rs h d.1 d.2 rs.length)
def endOf (rs : List Int) : List Int → List Day → List Int
  | ws, [] => ws
  | ws, d :: ds => endOf rs (kpL rs ws d.1 d.2 rs.length) ds
def planOf (rs : List Int) : List Int → List Day → List (List Int × List Int × Int)
  | _, [] => []
  | ws, d :: ds => oneDay rs ws d :: planOf rs (kpL rs ws d.1 d.2 rs.length) ds
theorem endOf_snoc (rs : List Int) (d : Day) : ∀ (ds : List Day) (ws : List Int), endOf rs ws (ds ++ [d]) = kpL rs (endOf rs ws ds) d.1 d.2 rs.length
  | [], _ => rfl
  | e :: ds, ws => endOf_snoc rs d ds _
theorem planOf_snoc (rs : List Int) (d : Day) : ∀ (ds : List Day) (ws : List Int), planOf rs ws (ds ++ [d]) = planOf rs ws ds ++ [oneDay rs (endOf rs ws ds) d]
  | [], _ => rfl
  | e :: ds, ws => by
    show oneDay rs ws e :: planOf rs _ (ds ++ [d]) = oneDay rs ws e :: (planOf rs _ ds ++ [oneDay rs (endOf rs _ ds) d])
    rw [planOf_snoc rs d ds]
theorem planOf_len (rs : List Int) : ∀ (ds : List Day) (ws : List Int), (planOf rs ws ds).length = ds.length
  | [], _ => rfl
  | e :: ds, ws => by
    show (planOf rs _ ds).length + 1 = ds.length + 1
    rw [planOf_len rs ds]
theorem endOf_len (rs : List Int) : ∀ (ds : List Day) (ws : List Int), ws.length = rs.length → (endOf rs ws ds).length = rs.length
  | [], _, h => h
  | e :: ds, ws, h => endOf_len rs ds _ (kpL_len ..)
/-- held in the midst of a day -/
def mid (rs h ra wi : List Int) (i : Nat) : List Int := kpL rs h ra wi i ++ h.drop i
theorem mid_len {rs h ra wi : List Int} {i : Nat} (hi : i ≤ h.length) : (mid rs h ra wi i).length = h.length := by
  unfold mid
  rw [List.length_append, kpL_len, List.length_drop]
  omega
theorem mid_at {rs h ra wi : List Int} {i : Nat} (hi : i < h.length) : (mid rs h ra wi i)[i]? = some (gI h i) := by
  unfold mid
  rw [List.getElem?_append_right (by rw [kpL_len]; exact Nat.le_refl _), kpL_len, Nat.sub_self, List.getElem?_drop, Nat.add_zero, List.getElem?_eq_getElem hi, gI_at (List.getElem?_eq_getElem hi)]
theorem mid_set {rs h ra wi : List Int} {i : Nat} (hi : i < h.length) : (mid rs h ra wi i).set i (kpAt rs h ra wi i) = mid rs h ra wi (i + 1) := by
  unfold mid
  rw [kpL_succ, List.set_append_right _ _ (by rw [kpL_len]; exact Nat.le_refl _), kpL_len, Nat.sub_self, List.drop_eq_getElem_cons hi, List.append_assoc]
  rfl
theorem mid_now {rs h ra wi : List Int} {i : Nat} : (mid rs h ra wi (i + 1))[i]? = some (kpAt rs h ra wi i) := by
  unfold mid
  rw [kpL_succ, List.getElem?_append_left (by rw [List.length_append, kpL_len]; exact Nat.lt_succ_self _), List.getElem?_append_right (by rw [kpL_len]; exact Nat.le_refl _), kpL_len, Nat.sub_self]
  rfl
theorem drL_now {rs h ra wi : List Int} {i : Nat} : (drL rs h ra wi (i + 1))[i]? = some (drAt rs h ra wi i) := by
  rw [drL_succ, List.getElem?_append_right (by rw [drL_len]; exact Nat.le_refl _), drL_len, Nat.sub_self]
  rfl
theorem mid_zero (rs h ra wi : List Int) : mid rs h ra wi 0 = h := rfl
theorem mid_end {rs h ra wi : List Int} (e : h.length = rs.length) : mid rs h ra wi rs.length = kpL rs h ra wi rs.length := by
  unfold mid
  rw [← e, List.drop_length, List.append_nil]
theorem iL_get2 {l : List Int} {i : Nat} {v : Int} (h : l[i]? = some v) : (iL l)[i]? = some (.int v) := by
  rw [List.getElem?_map, h]
  rfl
section
variable {P : Program} {w : World} {K : PySem.W.Frag} {mg : Str → Option Value} {base : Heap} {C cY cB cD cL cT : Addr}
/-- days that can be read -/
structure DaysR (H : Hp) (l : Addr) (as : List A3) (ds : List Day) : Prop where
  len : as.length = ds.length
  lst : H l = some (.lst (as.map fun a => .ref a.1))
  tup : ∀ a ∈ as, H a.1 = some (.tup [.ref a.2.1, .ref a.2.2])
  row : ∀ (i : Nat) (a : A3) (d : Day), as[i]? = some a → ds[i]? = some d → H a.2.1 = some (.lst (iL d.1)) ∧ H a.2.2 = some (.lst (iL d.2))
theorem DaysR.same {H H' : Hp} {l : Addr} {as : List A3} {ds : List Day} (D : DaysR H l as ds) (e : Same H H') : DaysR H' l as ds :=
  ⟨D.len, e _ _ D.lst, fun a ha => e _ _ (D.tup a ha), fun i a d h1 h2 => ⟨e _ _ (D.row i a d h1 h2).1, e _ _ (D.row i a d h1 h2).2⟩⟩
theorem DaysAt.r {H : Hp} {l : Addr} {as : List A3} {ds : List Day} (D : DaysAt H l as ds) : DaysR H l as ds := ⟨D.len, D.lst, D.tup, D.row⟩
theorem DaysAt.same {H H' : Hp} {l : Addr} {as : List A3} {ds : List Day} (D : DaysAt H l as ds) (e : Same H H') : DaysAt H' l as ds :=
  have R := D.r.same e
  ⟨R.len, R.lst, R.tup, R.row, D.nd⟩
/-- one of the days -/
theorem DaysR.at {H : Hp} {l : Addr} {as : List A3} {ds : List Day} (D : DaysR H l as ds) {i : Nat} (hi : i < ds.length) : ∃ (t p q : Addr) (d : Day), as[i]? = some (t, p, q) ∧ (as.map fun a => V.ref a.1)[i]? = some (.ref t) ∧ ds[i]? = some d ∧ H t = some (.tup [.ref p, .ref q]) ∧ H p = some (.lst (iL d.1)) ∧ H q = some (.lst (iL d.2)) := by
  have hia : i < as.length := by rw [D.len]; exact hi
  have ea := List.getElem?_eq_getElem hia
  have ed := List.getElem?_eq_getElem hi
  have := D.row i _ _ ea ed
  refine ⟨as[i].1, as[i].2.1, as[i].2.2, ds[i], ea, ?_, ed, D.tup _ (List.getElem_mem hia), this.1, this.2⟩
  rw [List.getElem?_map, ea]
  rfl
end
end Z

set_option Elab.async false
set_option linter.all false
set_option maxRecDepth 100000
set_option maxHeartbeats 8000000
namespace Z
open PySem L2
/-! ### plans that hold -/
def flAt (ls ra dr kp : List Int) : Nat → Int
  | 0 => 0
  | i + 1 => flAt ls ra dr kp i + gI ls i + gI ra i - gI dr i - gI kp i
def TankOk (rs ls ra wi dr kp : List Int) (i : Nat) : Prop := ((0 ≤ gI dr i ∧ gI dr i ≤ gI wi i) ∧ (0 ≤ gI kp i ∧ gI kp i ≤ gI rs i)) ∧ 0 ≤ flAt ls ra dr kp (i + 1)
def HoldsDay (rs ls ra wi dr kp : List Int) : Prop := ∀ i, i < rs.length → TankOk rs ls ra wi dr kp i
def PHolds (rs : List Int) : List Int → List Day → List Day → Prop
  | _, [], [] => True
  | ls, d :: ds, p :: ps => p.1.length = rs.length ∧ p.2.length = rs.length ∧ HoldsDay rs ls d.1 d.2 p.1 p.2 ∧ PHolds rs p.2 ds ps
  | _, _, _ => False
theorem drop_at {α : Type} {l : List α} {i : Nat} {d : α} (h : l[i]? = some d) : l.drop i = d :: l.drop (i + 1) := by
  have hi := (List.getElem?_eq_some_iff.mp h)
  obtain ⟨hlt, e⟩ := hi
  rw [List.drop_eq_getElem_cons hlt, e]
/-! ### sums and signs of a day -/
def sumTo (f : Nat → Int) : Nat → Int
  | 0 => 0
  | i + 1 => sumTo f i + f i
theorem sum_snoc (l : List Int) (v : Int) : (l ++ [v]).sum = l.sum + v := by
  induction l with
  | nil => simp
  | cons a l ih => simp only [List.cons_append, List.sum_cons, ih]; omega
theorem sum_take (l : List Int) : ∀ i, i ≤ l.length → (l.take i).sum = sumTo (gI l) i
  | 0, _ => rfl
  | i + 1, h => by
    rw [take_snoc (List.getElem?_eq_getElem (show i < l.length by omega)), sum_snoc, sum_take l i (by omega), ← gI_at (List.getElem?_eq_getElem (show i < l.length by omega))]
    rfl
theorem sum_drL (rs ws ra wi : List Int) : ∀ n, (drL rs ws ra wi n).sum = sumTo (drAt rs ws ra wi) n
  | 0 => rfl
  | n + 1 => by
    rw [drL_succ, sum_snoc, sum_drL rs ws ra wi n]
    rfl
def NN (l : List Int) : Prop := ∀ i, 0 ≤ gI l i
theorem NN.of {l : List Int} (h : ∀ v ∈ l, 0 ≤ v) : NN l := fun i => by
  unfold gI
  rw [List.getD_eq_getElem?_getD]
  cases e : l[i]? with
  | none => exact Int.le_refl 0
  | some v => exact h v (List.mem_of_getElem? e)
theorem fall_nn {rs ws ra wi : List Int} (h1 : NN rs) (h2 : NN ws) (h3 : NN ra) (h4 : NN wi) : ∀ i, 0 ≤ fallAt rs ws ra wi i
  | 0 => Int.le_refl 0
  | i + 1 => by
    have := fall_nn h1 h2 h3 h4 i
    rw [fall_succ]
    have a1 := h1 i
    have a2 := h2 i
    have a3 := h3 i
    have a4 := h4 i
    unfold kpAt drAt thAt
    omega
theorem th_nn {rs ws ra wi : List Int} (h1 : NN rs) (h2 : NN ws) (h3 : NN ra) (h4 : NN wi) (i : Nat) : 0 ≤ thAt rs ws ra wi i := by
  have := fall_nn h1 h2 h3 h4 i
  have a2 := h2 i
  have a3 := h3 i
  unfold thAt
  omega
theorem gI_kpL {rs ws ra wi : List Int} {n i : Nat} (h : i < n) : gI (kpL rs ws ra wi n) i = kpAt rs ws ra wi i := gI_at (by unfold kpL; rw [List.getElem?_map, List.getElem?_range h]; rfl)
theorem kp_nn {rs ws ra wi : List Int} (h1 : NN rs) (h2 : NN ws) (h3 : NN ra) (h4 : NN wi) (i : Nat) : 0 ≤ kpAt rs ws ra wi i := by
  have := th_nn h1 h2 h3 h4 i
  have a1 := h1 i
  unfold kpAt drAt
  omega
def pairsOf (rs : List Int) : List Int → List Day → List Day
  | _, [] => []
  | ws, d :: ds => (drL rs ws d.1 d.2 rs.length, kpL rs ws d.1 d.2 rs.length) :: pairsOf rs (kpL rs ws d.1 d.2 rs.length) ds
theorem DayOk.nn {n : Nat} {ra wi : List Int} (h : DayOk n ra wi) : NN ra ∧ NN wi := ⟨NN.of fun v hv => (h.1.2 v hv).1, NN.of fun v hv => (h.2.2 v hv).1⟩
theorem Good.nn {rs ws : List Int} (g : Good rs ws) : NN rs ∧ NN ws := ⟨NN.of fun v hv => (g.rs v hv).1, NN.of fun v hv => (g.ws v hv).1⟩
end Z

set_option Elab.async false
set_option linter.all false
set_option maxRecDepth 100000
set_option maxHeartbeats 8000000
namespace Z
open PySem L2
section
variable {P : Program} {w : World} {K : PySem.W.Frag} {mg : Str → Option Value} {base : Heap} {C cY cB cD cL cT : Addr}
/-- days of n tanks -/
def DaysOk (n : Nat) (ds : List Day) : Prop := ds.length ≤ 8 ∧ ∀ d ∈ ds, DayOk n d.1 d.2
def spCkDays (cD : Addr) : Sp := fun vs H Q E => ∃ (n : Nat) (l : Addr) (as : List A3) (ds : List Day), vs = [.int n, .ref l] ∧ DaysR H l as ds ∧ ds.length ≤ 100 ∧ (∀ d ∈ ds, d.1.length ≤ 100 ∧ d.2.length ≤ 100) ∧
  (DaysOk n ds → ∀ H', Same H H' → Q .non H') ∧ (¬ DaysOk n ds → ∀ H', Same H H' → E (.ref cD) none H')
theorem scCs : FnScope ["tanks", "days", "day"] ["tanks", "days"] (defScope sCheckDays) := ⟨rfl, rfl, rfl, by decide +kernel, rfl, by decide +kernel, by decide +kernel⟩
theorem ok_cs {f fC : Addr} {fd fdC : FuncData} (F : Fun K "check_days" "check_days" sCheckDays f fd) (T : Txt K mg C cY cB cD cL cT) (FC : Fun K "check_day" "check_day" sCheckDay fC fdC) (bC : Binds K fdC ["tanks", "rain", "wishes"] []) (mC : mg "check_day" = some (.ref fC))
    (GC : FnOk P w K mg base (CXo P w) 3 fC fdC ["tanks", "rain", "wishes"] (spCkDay cD)) : FnOk P w K mg base (CXo P w) 4 f fd ["tanks", "days"] (spCkDays cD) := by
  obtain ⟨t8, h8⟩ := T.m8
  refine F.okX scCs (fun vs H Q E h => ?_) (fun cdv A outer s H vs Q E hr h => ?_)
  · obtain ⟨n, l, as, ds, rfl, _⟩ := h
    rfl
  · obtain ⟨n, l, as, ds, rfl, DR, hl1, hl2, kG, kB⟩ := h
    refine ⟨_, pss_cons (ps_if (pw_or (pt_not (pt_val (pe_callB call_isi (by rfl) T.isi boot_isi (pa_cons (pv 1) (pa_cons (pe_bltn (v := .ty "list") (by rfl) T.list boot_lst rfl) pa_nil)))))
        (pw_or1 (pt_cmpR op_gt (pe_callB call_len_seq (by rfl) T.len PySem.boot_len (pa_cons (pv 1) pa_nil)) (pe_glob (v := .int 8) (by rfl) h8 ⟨_, rfl⟩) (nomark _)))).pt (pss_one (ps_raise rfl T.exD leaves_cx (by rfl) (pa_cons pe_str pa_nil))) pss_nil)
      (pss_one (ps_for PassesOwn.leaving rfl (pi_list (pv 1)) (pg_name (i := 2) scCs.nd rfl (Or.inl rfl))
        (pss_cons (ps_if (pw_or (pt_not (pt_val (pe_callB call_isi (by rfl) T.isi boot_isi (pa_cons (pv 2) (pa_cons (pe_bltn (v := .ty "tuple") (by rfl) T.tup boot_tup rfl) pa_nil)))))
          (pw_or1 (pt_cmpR op_ne (pe_callB call_len_seq (by rfl) T.len PySem.boot_len (pa_cons (pv 2) pa_nil)) pe_int (nomark _)))).pt (pss_one (ps_raise rfl T.exD leaves_cx (by rfl) (pa_cons pe_str pa_nil))) pss_nil)
        (pss_one (ps_expr (pe_callX GC hr (by rfl) mC FC.kp bC .nil passes_cx (pa_cons (pv 0) (pa_cons (pe_ix ix_tup (pv 2) pe_int (fun _ _ => rfl)) (pa_cons (pe_ix ix_tup (pv 2) pe_int (fun _ _ => rfl)) pa_nil)))))))))
      , ?_⟩
    have el : ((as.map fun a => V.ref a.1).length : Int) = (ds.length : Int) := by rw [List.length_map, DR.len]
    refine ⟨_, rfl, _, _, _, _, rfl, .lst DR.lst, (by nofun), T.kll, _, rfl, iteF ?_⟩
    refine ⟨_, rfl, l, _, rfl, .inl (SqL.of DR.lst), _, _, rfl, rfl, _, rfl, ?_⟩
    refine ite2 (fun h1 => ⟨by decide, kB (fun g => ?_) H same_refl⟩) (fun h1 => ?_)
    · have h1 := of_decide_eq_true h1
      have := g.1
      omega
    have h8' : ds.length ≤ 8 := by
      by_cases z : (8 : Int) < ((as.map fun a => V.ref a.1).length : Int)
      · exact absurd (decide_eq_true z) h1
      · omega
    refine ⟨_, rfl, l, rfl, ⟨_, SqL.of DR.lst⟩, ?_⟩
    refine for_list (xs := as.map fun a => V.ref a.1) (fun i σ H' => Same H H' ∧ (∃ o, σ = [some (.int n), some (.ref l), o]) ∧ ∀ d ∈ ds.take i, DayOk n d.1 d.2) ?_ ?_ ?_ ?_
    · exact ⟨same_refl, ⟨none, rfl⟩, by simp⟩
    · rintro i σ H' _ ⟨s1, _⟩
      exact SqL.of (s1 _ _ DR.lst)
    · rintro i x σ H' hx ⟨s1, ⟨o, rfl⟩, hok⟩
      have hid : i < ds.length := by
        have := (List.getElem?_eq_some_iff.mp hx).1
        rw [List.length_map, DR.len] at this
        exact this
      obtain ⟨t, p, q, d, ha, hv, hd, ht, hp, hq⟩ := DR.at hid
      rw [hv] at hx
      cases hx
      have hm := List.mem_of_getElem? hd
      have ht1 := s1 _ _ ht
      refine ⟨_, rfl, _, _, _, _, rfl, .tup ht1, (by nofun), T.ktt, _, rfl, iteF ?_⟩
      refine ⟨_, rfl, t, _, rfl, .inr (SqT.of ht1), rfl, _, rfl, iteF ?_⟩
      refine ⟨_, rfl, _, rfl, t, _, _, _, rfl, rfl, SqT.of ht1, atI_nat (j := 0) rfl, _, rfl, t, _, _, _, rfl, rfl, SqT.of ht1, atI_nat (j := 1) rfl, n, p, q, d.1, d.2, rfl, s1 _ _ hp, s1 _ _ hq, (hl2 d hm).1, (hl2 d hm).2, fun g H1 s2 => ?_, fun g H1 s2 => kB (fun z => g (z.2 d hm)) H1 (s1.trans s2)⟩
      refine ⟨s1.trans s2, ⟨_, rfl⟩, fun e he => ?_⟩
      rw [take_snoc hd] at he
      rcases List.mem_append.mp he with z | z
      · exact hok e z
      · rw [List.mem_singleton.mp z]
        exact g
    · rintro σ H' ⟨s1, ⟨o, rfl⟩, hok⟩
      refine kG ⟨h8', fun d hd => hok d ?_⟩ H' s1
      rw [List.length_map, DR.len, List.take_length]
      exact hd
end
end Z

set_option Elab.async false
set_option linter.all false
set_option maxRecDepth 100000
set_option maxHeartbeats 8000000
namespace Z
open PySem L2
section
variable {P : Program} {w : World} {K : PySem.W.Frag} {mg : Str → Option Value} {base : Heap} {C cY cB cD cL cT : Addr}
/-- a plan that was told: fresh ahead of H0 -/
structure PlanAt (H0 H : Hp) (l : Addr) (ts : List A3) (ps : List (List Int × List Int × Int)) : Prop where
  len : ts.length = ps.length
  lst : H l = some (.lst (ts.map fun a => .ref a.1))
  row : ∀ (i : Nat) (a : A3) (p : List Int × List Int × Int), ts[i]? = some a → ps[i]? = some p → H a.1 = some (.tup [.ref a.2.1, .ref a.2.2, .int p.2.2]) ∧ H a.2.1 = some (.lst (iL p.1)) ∧ H a.2.2 = some (.lst (iL p.2.1))
  fr : ∀ a ∈ ts, H0 a.1 = none ∧ H0 a.2.1 = none ∧ H0 a.2.2 = none
  apart : ∀ a ∈ ts, l ≠ a.2.1 ∧ l ≠ a.2.2
  nl : H0 l = none
theorem PlanAt.but {H0 H H' : Hp} {l : Addr} {ts : List A3} {ps : List (List Int × List Int × Int)} (D : PlanAt H0 H l ts ps) (e : ∀ b o, H b = some o → b ≠ l → H' b = some o) {zs : List V} (hl : H' l = some (.lst zs)) (hz : zs = ts.map fun a => .ref a.1) : PlanAt H0 H' l ts ps := by
  refine ⟨D.len, by rw [hl, hz], fun i a p h1 h2 => ?_, D.fr, D.apart, D.nl⟩
  have := D.row i a p h1 h2
  have n := D.apart a (List.mem_of_getElem? h1)
  exact ⟨e _ _ this.1 (ne_of this.1 D.lst (by nofun)), e _ _ this.2.1 n.1.symm, e _ _ this.2.2 n.2.symm⟩
theorem PlanAt.more {H0 H H' : Hp} {l t d h : Addr} {ts : List A3} {ps : List (List Int × List Int × Int)} {p : List Int × List Int × Int} (D : PlanAt H0 H l ts ps) (e : ∀ b o, H b = some o → b ≠ l → H' b = some o)
    (hl : H' l = some (.lst ((ts.map fun a => V.ref a.1) ++ [.ref t]))) (ht : H' t = some (.tup [.ref d, .ref h, .int p.2.2])) (hd : H' d = some (.lst (iL p.1))) (hh : H' h = some (.lst (iL p.2.1)))
    (ft : H0 t = none) (fd : H0 d = none) (fh : H0 h = none) (nd : l ≠ d) (nh : l ≠ h) : PlanAt H0 H' l (ts ++ [(t, d, h)]) (ps ++ [p]) := by
  refine ⟨by rw [List.length_append, List.length_append, D.len]; rfl, by rw [hl, List.map_append]; rfl, fun i a q e1 e2 => ?_, fun a ha => ?_, fun a ha => ?_, D.nl⟩
  · by_cases hi : i < ts.length
    · rw [List.getElem?_append_left hi] at e1
      rw [List.getElem?_append_left (by rw [← D.len]; exact hi)] at e2
      have := D.row i a q e1 e2
      have n := D.apart a (List.mem_of_getElem? e1)
      exact ⟨e _ _ this.1 (ne_of this.1 D.lst (by nofun)), e _ _ this.2.1 n.1.symm, e _ _ this.2.2 n.2.symm⟩
    · have hi2 : i = ts.length := by
        have := (List.getElem?_eq_some_iff.mp e1).1
        rw [List.length_append] at this
        have : i < ts.length + 1 := this
        omega
      subst hi2
      rw [List.getElem?_append_right (Nat.le_refl _), Nat.sub_self] at e1
      rw [List.getElem?_append_right (by rw [D.len]; exact Nat.le_refl _), D.len, Nat.sub_self] at e2
      cases e1
      cases e2
      exact ⟨ht, hd, hh⟩
  · rcases List.mem_append.mp ha with z | z
    · exact D.fr a z
    · rw [List.mem_singleton.mp z]
      exact ⟨ft, fd, fh⟩
  · rcases List.mem_append.mp ha with z | z
    · exact D.apart a z
    · rw [List.mem_singleton.mp z]
      exact ⟨nd, nh⟩
def spRun : Sp := fun vs H Q _ => ∃ (rp wp dl : Addr) (rs ws : List Int) (as : List A3) (ds : List Day), vs = [.ref rp, .ref wp, .ref dl] ∧ H rp = some (.lst (iL rs)) ∧ H wp = some (.lst (iL ws)) ∧ DaysR H dl as ds ∧ ws.length = rs.length ∧ rs.length ≤ 4 ∧ ds.length ≤ 100 ∧
  (∀ d ∈ ds, d.1.length = rs.length ∧ d.2.length = rs.length) ∧ ∀ (l : Addr) (ts : List A3) (H' : Hp), PlanAt H H' l ts (planOf rs ws ds) → Same H H' → Q (.ref l) H'
theorem scRn : FnScope ["rooms", "waters", "days", "held", "plan", "rain", "wishes", "drawn", "over", "k", "water"] ["rooms", "waters", "days"] (defScope sRun) := ⟨rfl, rfl, rfl, by decide +kernel, rfl, by decide +kernel, by decide +kernel⟩
theorem ok_rn {f : Addr} {fd : FuncData} (F : Fun K "_law_run" "_law_run" sRun f fd) (T : Txt K mg C cY cB cD cL cT) : FnOk P w K mg base CX0 1 f fd ["rooms", "waters", "days"] spRun := by
  refine F.ok scRn (fun vs H Q E h => ?_) (fun cdv A outer s H vs Q E hr h => ?_)
  · obtain ⟨rp, wp, dl, rs, ws, as, ds, rfl, _⟩ := h
    rfl
  · obtain ⟨rp, wp, dl, rs, ws, as, ds, rfl, hrp, hwp, DR, hlw, h4, hd100, hrow, k⟩ := h
    refine ⟨_, pss_cons (ps_set (i := 3) scRn.nd rfl (Or.inl rfl) (pe_callTy call_list_of (by rfl) T.list boot_lst (pa_cons (pv 1) pa_nil)))
      (pss_cons (ps_set (i := 4) scRn.nd rfl (Or.inl rfl) (pe_lst pa_nil))
      (pss_cons (ps_for PassesOwn.never rfl (pi_list (pv 2)) (pg_tup rfl (pgs_cons (pg_name (i := 5) scRn.nd rfl (Or.inl rfl)) (pgs_cons (pg_name (i := 6) scRn.nd rfl (Or.inl rfl)) pgs_nil)))
        (pss_cons (ps_set (i := 7) scRn.nd rfl (Or.inl rfl) (pe_lst pa_nil))
        (pss_cons (ps_set (i := 8) scRn.nd rfl (Or.inl rfl) pe_int)
        (pss_cons (ps_for PassesOwn.never rfl (pi_range1 (by rfl) T.range (pa_cons (pe_callB call_len_seq (by rfl) T.len PySem.boot_len (pa_cons (pv 0) pa_nil)) pa_nil)) (pg_name (i := 9) scRn.nd rfl (Or.inl rfl))
          (pss_cons (ps_set (i := 10) scRn.nd rfl (Or.inl rfl) (pe_op op_add (pe_op op_add (pe_ix ix_list (pv 3) (pv 9) (fun _ _ => rfl)) (pe_ix ix_list (pv 5) (pv 9) (fun _ _ => rfl))) (pv 8)))
          (pss_cons (ps_expr (pe_bm PySem.F.plainAttrs_list PySem.F.slot_list_append PySem.F.type_list_append mt_append (pv 7) (pa_cons (pe_callB (call_min2 rfl) (by rfl) T.min boot_min (pa_cons (pv 10) (pa_cons (pe_ix ix_list (pv 6) (pv 9) (fun _ _ => rfl)) pa_nil))) pa_nil)))
          (pss_cons (ps_asg (pe_callB (call_min2 rfl) (by rfl) T.min boot_min (pa_cons (pe_op op_sub (pv 10) (pe_ix ix_list (pv 7) (pv 9) (fun _ _ => rfl))) (pa_cons (pe_ix ix_list (pv 0) (pv 9) (fun _ _ => rfl)) pa_nil))) (pg_sub (pv 3) (pv 9) set_list))
          (pss_one (ps_set (i := 8) scRn.nd rfl (Or.inl rfl) (pe_op op_sub (pe_op op_sub (pv 10) (pe_ix ix_list (pv 7) (pv 9) (fun _ _ => rfl))) (pe_ix ix_list (pv 3) (pv 9) (fun _ _ => rfl)))))))))
        (pss_one (ps_expr (pe_bm PySem.F.plainAttrs_list PySem.F.slot_list_append PySem.F.type_list_append mt_append (pv 4) (pa_cons (pe_tup (pa_cons (pv 7) (pa_cons (pe_callTy call_list_of (by rfl) T.list boot_lst (pa_cons (pv 3) pa_nil)) (pa_cons (pv 8) pa_nil)))) pa_nil))))))))
      (pss_one (ps_ret (pv 4))))), ?_⟩
    -- held, plan
    refine ⟨_, rfl, wp, _, rfl, .inl (SqL.of hwp), fun hp hhp => ⟨Nat.zero_le _, fun pl hpl => ?_⟩⟩
    have nhp : hp ≠ pl := fun z => by
      rw [← z, upd_same] at hpl
      cases hpl
    have hpl0 : H pl = none := by rw [upd_ne nhp.symm] at hpl; exact hpl
    have s1 : Same H (upd (upd H hp (.lst (iL ws))) pl (.lst [])) := (same_upd hhp).trans (same_upd hpl)
    have hh1 : (upd (upd H hp (.lst (iL ws))) pl (.lst [])) hp = some (.lst (iL ws)) := by rw [upd_ne nhp, upd_same]
    have hp1 : (upd (upd H hp (.lst (iL ws))) pl (.lst [])) pl = some (.lst []) := upd_same
    generalize upd (upd H hp (.lst (iL ws))) pl (.lst []) = H1 at s1 hh1 hp1 ⊢
    refine ⟨_, rfl, dl, rfl, ⟨_, SqL.of (s1 _ _ DR.lst)⟩, ?_⟩
    have hasl : (as.map fun a => V.ref a.1).length = ds.length := by rw [List.length_map, DR.len]
    refine for_list (xs := as.map fun a => V.ref a.1) (fun i σ H' => Same H H' ∧ H' hp = some (.lst (iL (endOf rs ws (ds.take i)))) ∧ (∃ ts, PlanAt H H' pl ts (planOf rs ws (ds.take i)) ∧ ∀ t ∈ ts, hp ≠ t.2.1 ∧ hp ≠ t.2.2) ∧
      ∃ o5 o6 o7 o8 o9 o10, σ = [some (.ref rp), some (.ref wp), some (.ref dl), some (.ref hp), some (.ref pl), o5, o6, o7, o8, o9, o10]) ?_ ?_ ?_ ?_
    · refine ⟨s1, hh1, ⟨[], ⟨rfl, hp1, fun i a p h => by simp at h, by simp, by simp, hpl0⟩, by simp⟩, none, none, none, none, none, none, rfl⟩
    · rintro i σ H' _ ⟨s2, _⟩
      exact SqL.of (s2 _ _ DR.lst)
    · rintro i x σ H' hx ⟨s2, hh2, ⟨ts, PA2, hts⟩, o5, o6, o7, o8, o9, o10, rfl⟩
      -- the day
      rw [List.getElem?_map] at hx
      obtain ⟨a, ha, rfl⟩ : ∃ a, as[i]? = some a ∧ V.ref a.1 = x := by
        cases e : as[i]? with
        | none => rw [e] at hx; cases hx
        | some a => rw [e] at hx; exact ⟨a, rfl, Option.some.inj hx⟩
      have hid : i < ds.length := by rw [← DR.len]; exact (List.getElem?_eq_some_iff.mp ha).1
      obtain ⟨dy, hdy⟩ : ∃ d, ds[i]? = some d := ⟨_, List.getElem?_eq_getElem hid⟩
      obtain ⟨tk, p, q⟩ := a
      have htk := s2 _ _ (DR.tup _ (List.mem_of_getElem? ha))
      have hpq := DR.row i _ dy ha hdy
      have hp2 := s2 _ _ hpq.1
      have hq2 := s2 _ _ hpq.2
      obtain ⟨hl1, hl2⟩ := hrow dy (List.mem_of_getElem? hdy)
      have hel := endOf_len rs (ds.take i) ws hlw
      have e1 : endOf rs ws (ds.take (i + 1)) = kpL rs (endOf rs ws (ds.take i)) dy.1 dy.2 rs.length := by rw [take_snoc hdy, endOf_snoc]
      have e2 : planOf rs ws (ds.take (i + 1)) = planOf rs ws (ds.take i) ++ [oneDay rs (endOf rs ws (ds.take i)) dy] := by rw [take_snoc hdy, planOf_snoc]
      have npl : (planOf rs ws (ds.take i)).length ≤ 100 := by rw [planOf_len, List.length_take]; omega
      rw [e1, e2]
      generalize endOf rs ws (ds.take i) = h at hh2 hel ⊢
      generalize planOf rs ws (ds.take i) = ps at PA2 npl ⊢
      refine ⟨tk, _, rfl, SqT.of htk, rfl, _, _, rfl, _, _, rfl, rfl, ?_⟩
      -- drawn = [], over = 0
      refine ⟨Nat.zero_le _, fun d hd => ?_⟩
      have nhd : hp ≠ d := ne_of_none hh2 hd
      have npd : pl ≠ d := ne_of_none PA2.lst hd
      have s3 := same_upd (o := .lst []) hd
      have eln : ((iL rs).length : Int) = (rs.length : Int) := by rw [List.length_map]
      have hd0 : H d = none := s2.free hd
      refine ⟨_, rfl, rp, _, rfl, .inl (SqL.of (s3 _ _ (s2 _ _ hrp))), _, rfl, by omega, by rw [eln]; omega, ?_⟩
      have en : ((iL rs).length : Int).toNat = rs.length := by rw [eln]; omega
      rw [en]
      refine for_range (n := rs.length) (fun j σ H3 => (∀ b o, H' b = some o → b ≠ hp → H3 b = some o) ∧ H3 hp = some (.lst (iL (mid rs h dy.1 dy.2 j))) ∧ H3 d = some (.lst (iL (drL rs h dy.1 dy.2 j))) ∧
        ∃ o9 o10, σ = [some (.ref rp), some (.ref wp), some (.ref dl), some (.ref hp), some (.ref pl), some (.ref p), some (.ref q), some (.ref d), some (.int (fallAt rs h dy.1 dy.2 j)), o9, o10]) ?_ ?_ ?_
      · refine ⟨fun b o z _ => s3 _ _ z, ?_, upd_same, _, _, rfl⟩
        rw [upd_ne nhd, mid_zero]
        exact hh2
      · rintro j σ H3 hj ⟨s4, hh3, hd3, p9, p10, rfl⟩
        have e0 : (0 : Int) + (j : Int) = (j : Int) := by omega
        have hjh : j < h.length := by omega
        have nph : p ≠ hp := (ne_of_none hpq.1 hhp)
        have nqh : q ≠ hp := (ne_of_none hpq.2 hhp)
        have nrh : rp ≠ hp := (ne_of_none hrp hhp)
        have hp3 := s4 _ _ hp2 nph
        have hq3 := s4 _ _ hq2 nqh
        have hr3 := s4 _ _ (s2 _ _ hrp) nrh
        have a1 := iL_get2 (mid_at (rs := rs) (ra := dy.1) (wi := dy.2) hjh)
        have a2 := iL_at (l := dy.1) (i := j) (by omega)
        have a3 := iL_at (l := dy.2) (i := j) (by omega)
        have a4 := iL_at (l := rs) hj
        refine ⟨_, rfl, _, rfl, hp, _, _, _, rfl, rfl, SqL.of hh3, (by rw [e0]; exact atI_nat a1), _, rfl, _, rfl, p, _, _, _, rfl, rfl, SqL.of hp3, (by rw [e0]; exact atI_nat a2), _, _, rfl, rfl, _, rfl, _, _, rfl, rfl, ?_⟩
        -- drawn.append(min(water, wishes[k]))
        refine ⟨_, rfl, .inl ⟨rfl, _, SqL.of hd3⟩, _, rfl, _, rfl, _, rfl, q, _, _, _, rfl, rfl, SqL.of hq3, (by rw [e0]; exact atI_nat a3), _, _, rfl, ?_⟩
        rw [py_min]
        refine ⟨d, _, _, rfl, rfl, hd3, small1000 (by rw [List.length_map, drL_len]; omega), ?_⟩
        have ev : min (gI h j + gI dy.1 j + fallAt rs h dy.1 dy.2 j) (gI dy.2 j) = drAt rs h dy.1 dy.2 j := Int.min_comm _ _
        rw [ev, iL_snoc, ← drL_succ]
        have s5 : ∀ b o, H3 b = some o → b ≠ d → (upd H3 d (.lst (iL (drL rs h dy.1 dy.2 (j + 1))))) b = some o := fun b o z hb => by rw [upd_ne hb]; exact z
        have hd5 : (upd H3 d (.lst (iL (drL rs h dy.1 dy.2 (j + 1))))) d = some (.lst (iL (drL rs h dy.1 dy.2 (j + 1)))) := upd_same
        generalize upd H3 d (.lst (iL (drL rs h dy.1 dy.2 (j + 1)))) = H4 at s5 hd5 ⊢
        have hh5 := s5 _ _ hh3 nhd
        have hr5 := s5 _ _ hr3 (ne_of_none hrp hd0)
        have a5 := iL_get2 (drL_now (rs := rs) (h := h) (ra := dy.1) (wi := dy.2) (i := j))
        -- held[k] = min(water - drawn[k], rooms[k])
        refine ⟨_, rfl, _, rfl, _, rfl, d, _, _, _, rfl, rfl, SqL.of hd5, (by rw [e0]; exact atI_nat a5), _, _, rfl, rfl, _, rfl, _, rfl, rp, _, _, _, rfl, rfl, SqL.of hr5, (by rw [e0]; exact atI_nat a4), _, _, rfl, ?_⟩
        rw [py_min]
        have ev2 : min (gI h j + gI dy.1 j + fallAt rs h dy.1 dy.2 j - drAt rs h dy.1 dy.2 j) (gI rs j) = kpAt rs h dy.1 dy.2 j := Int.min_comm _ _
        rw [ev2]
        refine ⟨_, rfl, _, rfl, hp, _, _, j, rfl, rfl, hh5, ?_, ?_⟩
        · unfold ixN
          rw [if_pos (by omega), if_pos (by rw [List.length_map, mid_len (by omega)]; omega)]
          congr 1
          omega
        have es : (iL (mid rs h dy.1 dy.2 j)).set j (.int (kpAt rs h dy.1 dy.2 j)) = iL (mid rs h dy.1 dy.2 (j + 1)) := by
          rw [← mid_set hjh]
          exact (List.map_set ..).symm
        rw [es]
        have hd6 : (upd H4 hp (.lst (iL (mid rs h dy.1 dy.2 (j + 1))))) d = some (.lst (iL (drL rs h dy.1 dy.2 (j + 1)))) := by rw [upd_ne nhd.symm]; exact hd5
        have a6 := iL_get2 (mid_now (rs := rs) (h := h) (ra := dy.1) (wi := dy.2) (i := j))
        refine ⟨_, rfl, _, rfl, _, rfl, d, _, _, _, rfl, rfl, SqL.of hd6, (by rw [e0]; exact atI_nat a5), _, _, rfl, rfl, _, rfl, _, rfl, hp, _, _, _, rfl, rfl, SqL.of upd_same, (by rw [e0]; exact atI_nat a6), _, _, rfl, rfl, ?_⟩
        refine ⟨fun b o z hb => ?_, upd_same, hd6, _, _, rfl⟩
        rw [upd_ne hb]
        exact s5 _ _ (s4 _ _ z hb) (ne_of_none z hd)
      · rintro σ H3 ⟨s4, hh3, hd3, p9, p10, rfl⟩
        rw [mid_end hel] at hh3
        have hpl3 := s4 _ _ PA2.lst nhp.symm
        -- plan.append((drawn, list(held), over))
        refine ⟨_, rfl, .inl ⟨rfl, _, SqL.of hpl3⟩, _, rfl, _, rfl, hp, _, rfl, .inl (SqL.of hh3), fun g hg => ⟨_, rfl, (by show 3 ≤ sizeLine; decide), fun t ht => ?_⟩⟩
        have s5 := same_upd (o := .lst (iL (kpL rs h dy.1 dy.2 rs.length))) hg
        have s6 := same_upd (o := .tup [.ref d, .ref g, .int (fallAt rs h dy.1 dy.2 rs.length)]) ht
        have s56 := s5.trans s6
        refine ⟨pl, _, _, rfl, rfl, s56 _ _ hpl3, small1000 (by rw [List.length_map, PA2.len]; omega), ?_⟩
        have ngp : pl ≠ g := ne_of_none hpl3 hg
        have ntp : pl ≠ t := ne_of_none (s5 _ _ hpl3) ht
        have nhg : hp ≠ g := ne_of_none hh3 hg
        have s03 : Same H H3 := fun b o z => s4 _ _ (s2 _ _ z) (ne_of_none z hhp)
        have kk : ∀ b o, H3 b = some o → b ≠ pl → (upd (upd (upd H3 g (.lst (iL (kpL rs h dy.1 dy.2 rs.length)))) t (.tup [.ref d, .ref g, .int (fallAt rs h dy.1 dy.2 rs.length)])) pl (.lst ((ts.map fun a => V.ref a.1) ++ [.ref t]))) b = some o := fun b o z hb => by
          rw [upd_ne hb]
          exact s56 _ _ z
        refine ⟨fun b o z => kk _ _ (s03 _ _ z) (ne_of_none z hpl0), kk _ _ hh3 nhp, ⟨ts ++ [(t, d, g)], ?_, fun x hx => ?_⟩, _, _, _, _, _, _, rfl⟩
        · have PA3 : PlanAt H H3 pl ts ps := by
            refine ⟨PA2.len, hpl3, fun i' a' p' h1 h2 => ?_, PA2.fr, PA2.apart, PA2.nl⟩
            have := PA2.row i' a' p' h1 h2
            have n := hts a' (List.mem_of_getElem? h1)
            exact ⟨s4 _ _ this.1 (ne_of this.1 hh2 (by nofun)), s4 _ _ this.2.1 n.1.symm, s4 _ _ this.2.2 n.2.symm⟩
          refine PA3.more kk upd_same ?_ (kk _ _ hd3 npd.symm) ?_ (s03.free (s5.free ht)) hd0 (s03.free hg) npd ngp
          · rw [upd_ne ntp.symm, upd_same]
            rfl
          · rw [upd_ne ngp.symm]
            exact s6 _ _ upd_same
        · rcases List.mem_append.mp hx with z | z
          · exact hts x z
          · rw [List.mem_singleton.mp z]
            exact ⟨nhd, nhg⟩
    · rintro σ H' ⟨s2, hh2, ⟨ts, PA2, hts⟩, o5, o6, o7, o8, o9, o10, rfl⟩
      rw [hasl, List.take_length] at PA2
      exact ⟨_, rfl, k pl ts H' PA2 s2⟩
end
end Z

set_option Elab.async false
set_option linter.all false
set_option maxRecDepth 100000
set_option maxHeartbeats 8000000
namespace Z
open PySem L2
section
variable {P : Program} {w : World} {K : PySem.W.Frag} {mg : Str → Option Value} {base : Heap} {C cY cB cD cL cT : Addr}
theorem hasInts {H : Hp} : ∀ ns : List Int, HasDs K H (ns.map Dt.int) (iL ns)
  | [] => rfl
  | n :: ns => ⟨_, _, rfl, rfl, hasInts ns⟩
theorem hasBls {H : Hp} : ∀ bs : List Bool, HasDs K H (bs.map Dt.bl) (bs.map V.bl)
  | [] => rfl
  | b :: bs => ⟨_, _, rfl, rfl, hasBls bs⟩
theorem dpInts : ∀ ns : List Int, dpDs (ns.map Dt.int) = 0
  | [] => by unfold dpDs; rfl
  | n :: ns => by
    show dpDs (Dt.int n :: ns.map Dt.int) = 0
    unfold dpDs
    rw [dpInts ns]
    unfold dpD
    rfl
theorem rows_in {as : List A3} {i : Nat} {x : A3} (h : as[i]? = some x) : x.2.1 ∈ rowsOf as ∧ x.2.2 ∈ rowsOf as :=
  ⟨mem_rows.mpr ⟨x, List.mem_of_getElem? h, .inl rfl⟩, mem_rows.mpr ⟨x, List.mem_of_getElem? h, .inr rfl⟩⟩
theorem rows_ne : ∀ {as : List A3} {i j : Nat} {x z : A3}, (rowsOf as).Nodup → as[i]? = some x → as[j]? = some z → i ≠ j → z.2.1 ≠ x.2.1 ∧ z.2.1 ≠ x.2.2 ∧ z.2.2 ≠ x.2.1 ∧ z.2.2 ≠ x.2.2
  | [], i, j, x, z, _, h, _, _ => by simp at h
  | a :: as, i, j, x, z, nd, h1, h2, hij => by
    have e : rowsOf (a :: as) = [a.2.1, a.2.2] ++ rowsOf as := rfl
    rw [e, List.nodup_append] at nd
    obtain ⟨_, n2, n3⟩ := nd
    match i, j, h1, h2, hij with
    | 0, 0, _, _, hij => exact absurd rfl hij
    | 0, j + 1, h1, h2, _ =>
      cases h1
      have := rows_in (as := as) h2
      exact ⟨(n3 _ (by simp) _ this.1).symm, (n3 _ (by simp) _ this.1).symm, (n3 _ (by simp) _ this.2).symm, (n3 _ (by simp) _ this.2).symm⟩
    | i + 1, 0, h1, h2, _ =>
      cases h2
      have := rows_in (as := as) h1
      exact ⟨n3 _ (by simp) _ this.1, n3 _ (by simp) _ this.2, n3 _ (by simp) _ this.1, n3 _ (by simp) _ this.2⟩
    | i + 1, j + 1, h1, h2, hij => exact rows_ne n2 h1 h2 (fun z => hij (by omega))
theorem rows_pq : ∀ {as : List A3} {i : Nat} {x : A3}, (rowsOf as).Nodup → as[i]? = some x → x.2.1 ≠ x.2.2
  | [], i, x, _, h => by simp at h
  | a :: as, 0, x, nd, h => by
    cases h
    have e : rowsOf (a :: as) = [a.2.1, a.2.2] ++ rowsOf as := rfl
    rw [e, List.nodup_append] at nd
    have := nd.1
    simp at this
    exact this
  | a :: as, i + 1, x, nd, h => by
    have e : rowsOf (a :: as) = [a.2.1, a.2.2] ++ rowsOf as := rfl
    rw [e, List.nodup_append] at nd
    exact rows_pq (as := as) (i := i) nd.2.1 h
/-- an object made: all else is as it was -/
theorem made_same {H H' : Hp} {x dx C' : Addr} {u : Hp} (nx : H x = none) (ndx : H dx = none) (hu : u = upd (upd H dx (.own x)) x (.ins C' dx [])) (kp : ∀ b o, u b = some o → b ≠ x → H' b = some o) : Same H H' := fun b o z => by
  subst hu
  refine kp b o ?_ (ne_of_none z nx)
  rw [upd_ne (ne_of_none z nx), upd_ne (ne_of_none z ndx)]
  exact z
theorem seq_keep {H H' : Hp} {a : Addr} {xs : List V} (h : SqL K H a xs) (e : ∀ o, H a = some o → H' a = some o) : SqL K H' a xs := by
  rcases h with (h | ⟨o, h⟩) | h
  · exact .inl (.inl (e _ h))
  · exact .inl (.inr ⟨o, e _ h⟩)
  · exact .inr h
def spLaw (K : PySem.W.Frag) : Sp := fun vs H Q _ => ∃ (a : Addr) (ns : List Int), vs = [.ref a] ∧ SqL K H a (iL ns) ∧ ns.length ≤ 63 ∧ ∀ H', Q (.bl true) H'
end
end Z

set_option Elab.async false
set_option linter.all false
set_option maxRecDepth 100000
set_option maxHeartbeats 8000000
namespace Z
open PySem L2
theorem Good.next {rs ws ra wi : List Int} (g : Good rs ws) (d : DayOk rs.length ra wi) : Good rs (kpL rs ws ra wi rs.length) := by
  refine ⟨g.n1, g.n4, kpL_len .., fun i r v e1 e2 => ?_⟩
  have hi : i < rs.length := (List.getElem?_eq_some_iff.mp e1).1
  have er := gI_at e1
  have ev := gI_at e2
  rw [gI_kpL hi] at ev
  have h0 := kp_nn g.nn.1 g.nn.2 d.nn.1 d.nn.2 i
  have hr := g.rs r (List.mem_of_getElem? e1)
  have h1 : kpAt rs ws ra wi i ≤ gI rs i := by unfold kpAt; omega
  omega
section
variable {P : Program} {w : World} {K : PySem.W.Frag} {mg : Str → Option Value} {base : Heap} {C cY cB cD cL cT : Addr}
def spLived (K : PySem.W.Frag) (C : Addr) : Sp := fun vs H Q _ => ∃ (a rp wp : Addr) (ns rs ws : List Int), vs = [.ref a, .ref rp, .ref wp] ∧ SqL K H a (iL ns) ∧ ns.length ≤ 63 ∧ H rp = some (.lst (iL rs)) ∧ H wp = some (.lst (iL ws)) ∧ Good rs ws ∧
  ∀ (t y sz lv hp : Addr) (held : List Int) (H' : Hp), H t = none → H' t = some (.tup [.ref y, .ref hp]) → YardAt C H' y sz lv rs held → H' hp = some (.lst (iL held)) → Good rs held → Same H H' → Q (.ref t) H'
theorem scLi : FnScope ["script", "rooms", "waters", "side", "held", "number", "rain", "wishes"] ["script", "rooms", "waters"] (defScope sLived) := ⟨rfl, rfl, rfl, by decide +kernel, rfl, by decide +kernel, by decide +kernel⟩
theorem ndLi : (["k", "script", "number"] : List Str).Nodup := by decide +kernel
theorem ok_li {f fD fI fDy fN : Addr} {fd fdD fdI fdDy fdN : FuncData} (F : Fun K "_law_lived" "_law_lived" sLived f fd) (T : Txt K mg C cY cB cD cL cT)
    (FD : Fun K "_law_drawn" "_law_drawn" sDrawn fD fdD) (bD : Binds K fdD ["script", "k", "many"] []) (mD : mg "_law_drawn" = some (.ref fD))
    (M : Mk K C fI) (GI : FnOk P w K mg base (CXo P w) 4 fI fdI ["self", "rooms", "waters"] (spInit C cB)) (bI : Binds K fdI ["self", "rooms", "waters"] [])
    (eDy : Meth K C "day" fDy) (bDy : Binds K fdDy ["self", "rain", "wishes"] []) (GDy : FnOk P w K mg base (CXo P w) 4 fDy fdDy ["self", "rain", "wishes"] (spDay C cD))
    (FN : Fun K "_law_run" "_law_run" sRun fN fdN) (bN : Binds K fdN ["rooms", "waters", "days"] []) (mN : mg "_law_run" = some (.ref fN)) :
    FnOk P w K mg base CX0 6 f fd ["script", "rooms", "waters"] (spLived K C) := by
  have GD : FnOk P w K mg base CX0 1 fD fdD ["script", "k", "many"] (spDrawn K) := ok_dr FD T
  have GN : FnOk P w K mg base CX0 1 fN fdN ["rooms", "waters", "days"] spRun := ok_rn FN T
  refine F.ok scLi (fun vs H Q E h => ?_) (fun cdv A outer s H vs Q E hr h => ?_)
  · obtain ⟨a, rp, wp, ns, rs, ws, rfl, _⟩ := h
    rfl
  · obtain ⟨a, rp, wp, ns, rs, ws, rfl, hs, hl, hrp, hwp, g, k⟩ := h
    have hr1 := hr.mono (show 1 ≤ 5 by decide)
    have hr4 := hr.mono (show 4 ≤ 5 by decide)
    have hn4 := g.n4
    refine ⟨_, pss_cons (ps_set (i := 3) scLi.nd rfl (Or.inl rfl) (pe_makeX M GI hr (by rfl) T.mgC bI .nil passes_no (pa_cons (pe_callTy call_list_of (by rfl) T.list boot_lst (pa_cons (pv 1) pa_nil)) (pa_cons (pe_callTy call_list_of (by rfl) T.list boot_lst (pa_cons (pv 2) pa_nil)) pa_nil))))
      (pss_cons (ps_set (i := 4) scLi.nd rfl (Or.inl rfl) (pe_callTy call_list_of (by rfl) T.list boot_lst (pa_cons (pv 2) pa_nil)))
      (pss_cons (ps_for PassesOwn.never rfl (pi_range1 (by rfl) T.range (pa_cons (pe_call GD hr1 (by rfl) mD FD.kp bD .nil pass0 (pa_cons (pv 0) (pa_cons pe_int (pa_cons pe_int pa_nil)))) pa_nil)) (pg_name (i := 5) scLi.nd rfl (Or.inr rfl))
        (pss_cons (ps_setC (i := 6) scLi.nd rfl (Or.inl rfl) (N := ["k", "script", "number"]) (cap := [none, some 0, some 5]) rfl (.of (by rfl)) (pi_range1 (by rfl) T.range (pa_cons (pe_callB call_len_seq (by rfl) T.len PySem.boot_len (pa_cons (pv 1) pa_nil)) pa_nil))
            (fun _ _ _ _ => pg_name (i := 0) ndLi rfl (Or.inl rfl)) (fun _ _ _ _ => pts_nil)
            (fun _ _ _ _ => pe_call GD hr1 (by rfl) mD FD.kp bD .nil pass0 (pa_cons (pv 1) (pa_cons (pe_op op_add (pe_op op_add pe_int (pe_op op_mul pe_int (pv 2))) (pv 0)) (pa_cons pe_int pa_nil)))))
        (pss_cons (ps_setC (i := 7) scLi.nd rfl (Or.inl rfl) (N := ["k", "script", "number"]) (cap := [none, some 0, some 5]) rfl (.of (by rfl)) (pi_range1 (by rfl) T.range (pa_cons (pe_callB call_len_seq (by rfl) T.len PySem.boot_len (pa_cons (pv 1) pa_nil)) pa_nil))
            (fun _ _ _ _ => pg_name (i := 0) ndLi rfl (Or.inl rfl)) (fun _ _ _ _ => pts_nil)
            (fun _ _ _ _ => pe_call GD hr1 (by rfl) mD FD.kp bD .nil pass0 (pa_cons (pv 1) (pa_cons (pe_op op_add (pe_op op_add pe_int (pe_op op_mul pe_int (pv 2))) (pv 0)) (pa_cons pe_int pa_nil)))))
        (pss_cons (ps_expr (pe_methX (pv 3) T.cl eDy GDy hr4 bDy .nil passes_no (pa_cons (pv 6) (pa_cons (pv 7) pa_nil))))
        (pss_one (ps_set (i := 4) scLi.nd rfl (Or.inl rfl) (pe_ix ix_tup (pe_ix ix_list (pe_call GN hr1 (by rfl) mN FN.kp bN .nil pass0 (pa_cons (pv 1) (pa_cons (pv 4) (pa_cons (pe_lst (pa_cons (pe_tup (pa_cons (pv 6) (pa_cons (pv 7) pa_nil))) pa_nil)) pa_nil)))) pe_int (fun _ _ => rfl)) pe_int (fun _ _ => rfl))))))))
      (pss_one (ps_ret (pe_tup (pa_cons (pv 3) (pa_cons (pv 4) pa_nil))))))), ?_⟩
    -- side
    refine ⟨_, rfl, rp, _, rfl, .inl (SqL.of hrp), fun p1 hp1 => ?_⟩
    have sa := same_upd (o := .lst (iL rs)) hp1
    refine ⟨_, rfl, wp, _, rfl, .inl (SqL.of (sa _ _ hwp)), fun q1 hq1 => ?_⟩
    have sb := same_upd (o := .lst (iL ws)) hq1
    have hp1' := sb _ _ (upd_same (H := H) (a := p1) (o := .lst (iL rs)))
    have hq1' : (upd (upd H p1 (.lst (iL rs))) q1 (.lst (iL ws))) q1 = some (.lst (iL ws)) := upd_same
    have sab := sa.trans sb
    generalize upd (upd H p1 (.lst (iL rs))) q1 (.lst (iL ws)) = H3 at sb hp1' hq1' sab ⊢
    intro y dx ny ndx nex
    have hge := g.eq
    refine ⟨y, dx, p1, q1, rs, ws, rfl, upd_same, (by rw [upd_ne (ne_of_none hp1' ny), upd_ne (ne_of_none hp1' ndx)]; exact hp1'), (by rw [upd_ne (ne_of_none hq1' ny), upd_ne (ne_of_none hq1' ndx)]; exact hq1'), by omega, by omega, fun _ sz lv H4 fsz flv nsl Y kp => ⟨rfl, ?_⟩, fun z => absurd g z⟩
    have s34 : Same H3 H4 := made_same ny ndx rfl kp
    have s4 := sab.trans s34
    have yH : H y = none := sab.free ny
    clear kp fsz flv
    -- held
    refine ⟨_, rfl, wp, _, rfl, .inl (SqL.of (s4 _ _ hwp)), fun hp hhp => ?_⟩
    have se := same_upd (o := .lst (iL ws)) hhp
    have s5 := s4.trans se
    have hhp5 : (upd H4 hp (.lst (iL ws))) hp = some (.lst (iL ws)) := upd_same
    have Y5 := Y.same se
    generalize upd H4 hp (.lst (iL ws)) = H5 at se s5 hhp5 Y5 ⊢
    refine ⟨_, rfl, a, ns, _, _, rfl, s5.seq hs, hl, by omega, by omega, by decide, fun cnt n0 n1 => ⟨_, rfl, by omega, by omega, ?_⟩⟩
    obtain ⟨cn, ecn⟩ : ∃ cn : Nat, cnt.toNat = cn := ⟨_, rfl⟩
    rw [ecn]
    have hcn : cn ≤ 2 := by omega
    refine for_range (n := cn) (fun i σ H' => Same H H' ∧ ∃ (lv hp : Addr) (held : List Int), YardAt C H' y sz lv rs held ∧ H' hp = some (.lst (iL held)) ∧ Good rs held ∧
      ∃ o5 o6 o7, σ = [some (.ref a), some (.ref rp), some (.ref wp), some (.ref y), some (.ref hp), o5, o6, o7]) ?_ ?_ ?_
    · exact ⟨s5, lv, hp, ws, Y5, hhp5, g, none, none, none, rfl⟩
    · rintro i σ H' hi ⟨s6, lv', hp', held, Y6, hh6, g6, o5, o6, o7, rfl⟩
      have hs6 := s6.seq hs
      have eln : ((iL rs).length : Int) = (rs.length : Int) := by rw [List.length_map]
      have en : ((iL rs).length : Int).toNat = rs.length := by rw [eln]; omega
      -- rain
      refine ⟨_, rfl, rp, _, rfl, .inl (SqL.of (s6 _ _ hrp)), _, rfl, by omega, by omega, fun p hp => ?_⟩
      rw [en]
      refine comp_by rs.length (sz100 (by omega)) (fun j ys τ H4 => j ≤ rs.length ∧ (∃ ra : List Int, ys = iL ra ∧ ra.length = j ∧ ∀ v ∈ ra, 0 ≤ v ∧ v ≤ 30) ∧ H4 = upd H' p (.lst ys) ∧ ∃ o, τ = [o, some (.ref a), some (.int (0 + (i : Int)))]) ?_ ?_ ?_ ?_
      · exact ⟨Nat.zero_le _, ⟨[], rfl, rfl, by simp⟩, rfl, none, rfl⟩
      · rintro j ys τ H4 ⟨hj, ⟨ra, rfl, hrl, _⟩, rfl, _⟩
        exact ⟨upd_same, by rw [List.length_map, hrl]; exact Nat.le_refl _⟩
      · rintro j ys τ H4 hj ⟨_, ⟨ra, rfl, hrl, hnn⟩, rfl, o, rfl⟩
        refine ⟨hj, ?_⟩
        rintro x H3 ⟨rfl, rfl⟩
        refine name_yes_if ?_
        refine ⟨_, rfl, _, rfl, _, _, rfl, rfl, .inl ⟨by decide, by decide⟩, _, _, rfl, rfl, _, rfl, _, _, rfl, rfl, a, ns, _, _, rfl, (same_upd hp).seq hs6, hl, by omega, by omega, by decide, fun r r0 r1 => ⟨upd_same, hj, ⟨ra ++ [r], iL_snoc ra r, ?_, ?_⟩, ?_, _, rfl⟩⟩
        · rw [List.length_append, hrl]
          rfl
        · intro v hv
          rcases List.mem_append.mp hv with z | z
          · exact hnn v z
          · rw [List.mem_singleton.mp z]
            omega
        · rw [upd_upd]
      rintro ys τ H4 ⟨_, ⟨ra, rfl, hrl, hra⟩, rfl, o, rfl⟩
      refine ⟨Nat.le_refl _, ?_⟩
      have s7 := same_upd (o := .lst (iL ra)) hp
      have s67 := s6.trans s7
      have hp7 : (upd H' p (.lst (iL ra))) p = some (.lst (iL ra)) := upd_same
      have hs7 := s7.seq hs6
      have Y7 := Y6.same s7
      have hh7 := s7 _ _ hh6
      generalize upd H' p (.lst (iL ra)) = H7 at s7 s67 hp7 hs7 Y7 hh7 ⊢
      -- wishes
      refine ⟨_, rfl, rp, _, rfl, .inl (SqL.of (s67 _ _ hrp)), _, rfl, by omega, by omega, fun q hq => ?_⟩
      rw [en]
      refine comp_by rs.length (sz100 (by omega)) (fun j ys τ H4 => j ≤ rs.length ∧ (∃ wi : List Int, ys = iL wi ∧ wi.length = j ∧ ∀ v ∈ wi, 0 ≤ v ∧ v ≤ 30) ∧ H4 = upd H7 q (.lst ys) ∧ ∃ o, τ = [o, some (.ref a), some (.int (0 + (i : Int)))]) ?_ ?_ ?_ ?_
      · exact ⟨Nat.zero_le _, ⟨[], rfl, rfl, by simp⟩, rfl, none, rfl⟩
      · rintro j ys τ H4 ⟨hj, ⟨ra, rfl, hrl, _⟩, rfl, _⟩
        exact ⟨upd_same, by rw [List.length_map, hrl]; exact Nat.le_refl _⟩
      · rintro j ys τ H4 hj ⟨_, ⟨wi, rfl, hwl, hnn⟩, rfl, o, rfl⟩
        refine ⟨hj, ?_⟩
        rintro x H3 ⟨rfl, rfl⟩
        refine name_yes_if ?_
        refine ⟨_, rfl, _, rfl, _, _, rfl, rfl, .inl ⟨by decide, by decide⟩, _, _, rfl, rfl, _, rfl, _, _, rfl, rfl, a, ns, _, _, rfl, (same_upd hq).seq hs7, hl, by omega, by omega, by decide, fun r r0 r1 => ⟨upd_same, hj, ⟨wi ++ [r], iL_snoc wi r, ?_, ?_⟩, ?_, _, rfl⟩⟩
        · rw [List.length_append, hwl]
          rfl
        · intro v hv
          rcases List.mem_append.mp hv with z | z
          · exact hnn v z
          · rw [List.mem_singleton.mp z]
            omega
        · rw [upd_upd]
      rintro ys τ H4 ⟨_, ⟨wi, rfl, hwl, hwi⟩, rfl, o, rfl⟩
      refine ⟨Nat.le_refl _, ?_⟩
      have s8 := same_upd (o := .lst (iL wi)) hq
      have s68 := s67.trans s8
      have hq8 : (upd H7 q (.lst (iL wi))) q = some (.lst (iL wi)) := upd_same
      have hp8 := s8 _ _ hp7
      have Y8 := Y7.same s8
      have hh8 := s8 _ _ hh7
      generalize upd H7 q (.lst (iL wi)) = H8 at s8 s68 hq8 hp8 Y8 hh8 ⊢
      -- the day
      obtain ⟨dz, hy8⟩ := Y8.ob
      have dk : DayOk rs.length ra wi := ⟨⟨hrl, hra⟩, hwl, hwi⟩
      refine ⟨_, rfl, y, dz, _, rfl, hy8, fl_no _ _ (by decide) (by decide), _, rfl, _, rfl, y, sz, lv', p, q, rs, held, ra, wi, rfl, Y8, hp8, hq8, g6.eq, hn4, by omega, by omega, fun _ dA kA tA H9 fd fk ft ndk htA hdA Y9 kp9 => ?_, fun z => absurd dk z⟩
      have s9 : Same H H9 := fun b o z => kp9 b o (s68 _ _ z) (ne_of_none z yH)
      have hp9 := kp9 _ _ hp8 (ne_of hp8 hy8 (by nofun))
      have hq9 := kp9 _ _ hq8 (ne_of hq8 hy8 (by nofun))
      have hh9 := kp9 _ _ hh8 (ne_of hh8 hy8 (by nofun))
      -- held
      refine ⟨_, rfl, _, rfl, _, rfl, _, rfl, (by show 2 ≤ sizeLine; decide), fun t ht => ⟨(by show 1 ≤ sizeLine; decide), fun dl hdl => ?_⟩⟩
      have sf := same_upd (o := .tup [.ref p, .ref q]) ht
      have sg := same_upd (o := .lst [.ref t]) hdl
      have sfg := sf.trans sg
      have ht' := sg _ _ (upd_same (H := H9) (a := t) (o := .tup [.ref p, .ref q]))
      have hdl' : (upd (upd H9 t (.tup [.ref p, .ref q])) dl (.lst [.ref t])) dl = some (.lst [.ref t]) := upd_same
      generalize upd (upd H9 t (.tup [.ref p, .ref q])) dl (.lst [.ref t]) = HA at sfg ht' hdl' ⊢
      refine ⟨rp, hp', dl, rs, held, [(t, p, q)], [(ra, wi)], rfl, sfg _ _ (s9 _ _ hrp), sfg _ _ hh9, ⟨rfl, hdl', fun x hx => ?_, fun i x dd e1 e2 => ?_⟩, g6.eq, hn4, (by show 1 ≤ 100; decide), fun dd hdd => ?_, ?_⟩
      · rw [List.mem_singleton.mp hx]
        exact ht'
      · match i, e1, e2 with
        | 0, e1, e2 =>
          cases e1
          cases e2
          exact ⟨sfg _ _ hp9, sfg _ _ hq9⟩
        | i + 1, e1, e2 => simp at e1
      · rw [List.mem_singleton.mp hdd]
        exact ⟨hrl, hwl⟩
      intro lp ts HB PA sB
      obtain ⟨⟨t2, d2, g2⟩, rfl⟩ : ∃ x, ts = [x] := by
        have := PA.len
        match ts, this with
        | [x], _ => exact ⟨x, rfl⟩
      obtain ⟨ht2, hd2, hg2⟩ := PA.row 0 _ _ rfl rfl
      have s9B := sfg.trans sB
      refine ⟨lp, _, _, _, rfl, rfl, SqL.of PA.lst, atI_nat (j := 0) rfl, t2, _, _, _, rfl, rfl, SqT.of ht2, atI_nat (j := 1) rfl, ?_⟩
      exact ⟨s9.trans s9B, kA, g2, _, Y9.same s9B, hg2, g6.next dk, _, _, _, rfl⟩
    · rintro σ H' ⟨s6, lv', hp', held, Y6, hh6, g6, o5, o6, o7, rfl⟩
      refine ⟨_, rfl, _, rfl, (by show 2 ≤ sizeLine; decide), fun t ht => ?_⟩
      have s7 := same_upd (o := .tup [.ref y, .ref hp']) ht
      exact k t y sz lv' hp' held _ (s6.free ht) upd_same (Y6.same s7) (s7 _ _ hh6) g6 (s6.trans s7)
end
end Z

set_option Elab.async false
set_option linter.all false
set_option maxRecDepth 100000
set_option maxHeartbeats 8000000
namespace Z
open PySem L2
/-! ### slices and their sums -/
theorem take_min {α : Type} (xs : List α) (n : Nat) : xs.take (min n xs.length) = xs.take n := by
  by_cases h : n ≤ xs.length
  · rw [Nat.min_eq_left h]
  · rw [Nat.min_eq_right (by omega), List.take_length, List.take_of_length_le (by omega)]
theorem cut_take {xs : List Int} {v : Int} (h : 0 ≤ v) : cutV (iL xs) none (some v) = iL (xs.take v.toNat) := by
  obtain ⟨n, rfl⟩ : ∃ n : Nat, v = (n : Int) := ⟨v.toNat, by omega⟩
  unfold cutV
  rw [HT.sIx_none, HT.sIx_nat, List.drop_zero, Nat.sub_zero, take_min, Int.toNat_natCast]
  exact (List.map_take).symm
theorem cut_mid {xs : List Int} {b v : Int} (hb : 0 ≤ b) (h : 0 ≤ v) (hb2 : b ≤ xs.length) (h2 : v ≤ xs.length) : cutV (iL xs) (some b) (some v) = iL ((xs.drop b.toNat).take (v.toNat - b.toNat)) := by
  obtain ⟨n, rfl⟩ : ∃ n : Nat, v = (n : Int) := ⟨v.toNat, by omega⟩
  obtain ⟨c, rfl⟩ : ∃ n : Nat, b = (n : Int) := ⟨b.toNat, by omega⟩
  unfold cutV
  rw [HT.sIx_nat, HT.sIx_nat, List.length_map, Nat.min_eq_left (by omega), Nat.min_eq_left (by omega), Int.toNat_natCast, Int.toNat_natCast, iL, iL, List.map_take, List.map_drop]
def fromB (xs : List Int) (b k : Nat) : Int := if b ≤ k then gI xs k else 0
theorem sum_mid (xs : List Int) (b : Nat) : ∀ v, v ≤ xs.length → ((xs.drop b).take (v - b)).sum = sumTo (fromB xs b) v
  | 0, _ => by rw [Nat.zero_sub]; rfl
  | v + 1, h => by
    have ih := sum_mid xs b v (by omega)
    show _ = sumTo (fromB xs b) v + fromB xs b v
    rw [← ih]
    unfold fromB
    by_cases hb : b ≤ v
    · rw [if_pos hb, show v + 1 - b = (v - b) + 1 by omega]
      have e : (xs.drop b)[v - b]? = some (gI xs v) := by
        rw [List.getElem?_drop, show b + (v - b) = v by omega, List.getElem?_eq_getElem (by omega), gI_at (List.getElem?_eq_getElem (by omega))]
      rw [take_snoc e, sum_snoc]
    · rw [if_neg hb, show v + 1 - b = 0 by omega, show v - b = 0 by omega]
      simp
/-! ### lines -/
def LineOk (n m : Nat) (li : List Int) : Prop := (∀ v ∈ li, 0 ≤ v ∧ v ≤ n) ∧ li.length = m
/-- the water above a line, from a day on: bef tanks were above on the day before, ly lies in the tanks -/
def watAb (rs : List Int) : Nat → List Int → List Day → List Int → Int
  | b, ly, d :: ds, a :: li => sumTo (gI d.1) a.toNat + sumTo (fromB ly b) a.toNat + watAb rs a.toNat rs ds li
  | _, _, [], _ => 0
  | _, _, _ :: _, [] => 0
def wisAb : List Day → List Int → Int
  | d :: ds, a :: li => sumTo (gI d.2) a.toNat + wisAb ds li
  | [], _ => 0
  | _ :: _, [] => 0
theorem watAb_nil (rs : List Int) (b : Nat) (ly li : List Int) : watAb rs b ly [] li = 0 := by
  unfold watAb
  cases li <;> rfl
theorem wisAb_nil (li : List Int) : wisAb [] li = 0 := by
  unfold wisAb
  cases li <;> rfl
section
variable {P : Program} {w : World} {K : PySem.W.Frag} {mg : Str → Option Value} {base : Heap} {C cY cB cD cL cT : Addr}
def spCkLine (cL : Addr) : Sp := fun vs H Q E => ∃ (n : Nat) (l q : Addr) (xs : List V) (li : List Int), vs = [.int n, .ref l, .ref q] ∧ H l = some (.lst xs) ∧ H q = some (.lst (iL li)) ∧ li.length ≤ 100 ∧
  (LineOk n xs.length li → ∀ H', Same H H' → Q .non H') ∧ (¬ LineOk n xs.length li → ∀ H', Same H H' → E (.ref cL) none H')
theorem scCl : FnScope ["tanks", "days", "line"] ["tanks", "days", "line"] (defScope sCheckLine) := ⟨rfl, rfl, rfl, by decide +kernel, rfl, by decide +kernel, by decide +kernel⟩
theorem ok_cl {f fA fI : Addr} {fd fdA fdI : FuncData} (F : Fun K "check_line" "check_line" sCheckLine f fd) (T : Txt K mg C cY cB cD cL cT) (FA : Fun K "are_whole" "are_whole" sAreWhole fA fdA) (bA : Binds K fdA ["values", "most"] []) (mA : mg "are_whole" = some (.ref fA))
    (FI : Fun K "is_whole" "is_whole" sIsWhole fI fdI) (bI : Binds K fdI ["value", "most"] []) (mI : mg "is_whole" = some (.ref fI)) :
    FnOk P w K mg base (CXo P w) 3 f fd ["tanks", "days", "line"] (spCkLine cL) := by
  have GA : FnOk P w K mg base CX0 2 fA fdA ["values", "most"] spAW := ok_aw FA T FI bI mI
  refine F.okX scCl (fun vs H Q E h => ?_) (fun cdv A outer s H vs Q E hr h => ?_)
  · obtain ⟨n, l, q, xs, li, rfl, _⟩ := h
    rfl
  · obtain ⟨n, l, q, xs, li, rfl, hp, hq, hl, kG, kB⟩ := h
    refine ⟨_, pss_cons (ps_if (pt_not (pt_val (pe_call GA hr (by rfl) mA FA.kp bA .nil pass0 (pa_cons (pv 2) (pa_cons (pv 0) pa_nil))))) (pss_one (ps_raise rfl T.exL leaves_cx (by rfl) (pa_cons pe_str pa_nil))) pss_nil)
      (pss_one (ps_if (pt_cmpR op_ne (pe_callB call_len_seq (by rfl) T.len PySem.boot_len (pa_cons (pv 2) pa_nil)) (pe_callB call_len_seq (by rfl) T.len PySem.boot_len (pa_cons (pv 1) pa_nil)) (nomark _)) (pss_one (ps_raise rfl T.exL leaves_cx (by rfl) (pa_cons pe_str pa_nil))) pss_nil)), ?_⟩
    refine ⟨_, rfl, _, rfl, q, li, n, rfl, hq, hl, fun H1 s1 => ⟨_, rfl, ?_⟩⟩
    refine ite2 (fun h1 => ⟨by decide, kB (fun g => ?_) H1 s1⟩) (fun h1 => ?_)
    · rw [(all_iff (m := (n : Int))).mpr g.1] at h1
      cases h1
    have a1 : ∀ v ∈ li, 0 ≤ v ∧ v ≤ (n : Int) := all_iff.mp (not_f h1)
    refine ⟨_, rfl, q, _, rfl, .inl (SqL.of (s1 _ _ hq)), _, rfl, l, _, rfl, .inl (SqL.of (s1 _ _ hp)), rfl, _, rfl, ?_⟩
    refine ite2 (fun h2 => ⟨by decide, kB (fun g => ?_) H1 s1⟩) (fun h2 => ?_)
    · have := ne_t h2
      rw [List.length_map, g.2] at this
      exact this rfl
    · have := ne_f h2
      rw [List.length_map] at this
      exact kG ⟨a1, by omega⟩ H1 s1
def spCkDL (C cD cL : Addr) : Sp := fun vs H Q E => ∃ (y sz lv l q : Addr) (rs ws : List Int) (as : List A3) (ds : List Day) (li : List Int), vs = [.ref y, .ref l, .ref q] ∧ YardAt C H y sz lv rs ws ∧ DaysR H l as ds ∧ ds.length ≤ 100 ∧ (∀ d ∈ ds, d.1.length ≤ 100 ∧ d.2.length ≤ 100) ∧ H q = some (.lst (iL li)) ∧ li.length ≤ 100 ∧
  (DaysOk rs.length ds → LineOk rs.length ds.length li → ∀ H', Same H H' → Q .non H') ∧ (¬ DaysOk rs.length ds → ∀ H', Same H H' → E (.ref cD) none H') ∧ (DaysOk rs.length ds → ¬ LineOk rs.length ds.length li → ∀ H', Same H H' → E (.ref cL) none H')
theorem scDl : FnScope ["yard", "days", "line", "tanks"] ["yard", "days", "line"] (defScope sCheckDL) := ⟨rfl, rfl, rfl, by decide +kernel, rfl, by decide +kernel, by decide +kernel⟩
theorem ok_cdl {f fS fL fRo : Addr} {fd fdS fdL fdRo : FuncData} (F : Fun K "check_days_and_line" "check_days_and_line" sCheckDL f fd) (T : Txt K mg C cY cB cD cL cT)
    (FS : Fun K "check_days" "check_days" sCheckDays fS fdS) (bS : Binds K fdS ["tanks", "days"] []) (mS : mg "check_days" = some (.ref fS)) (GS : FnOk P w K mg base (CXo P w) 4 fS fdS ["tanks", "days"] (spCkDays cD))
    (FL : Fun K "check_line" "check_line" sCheckLine fL fdL) (bL : Binds K fdL ["tanks", "days", "line"] []) (mL : mg "check_line" = some (.ref fL)) (GL : FnOk P w K mg base (CXo P w) 3 fL fdL ["tanks", "days", "line"] (spCkLine cL))
    (eRo : Meth K C "rooms" fRo) (bRo : Binds K fdRo ["self"] []) (GRo : FnOk P w K mg base CX0 1 fRo fdRo ["self"] (spRooms C)) :
    FnOk P w K mg base (CXo P w) 5 f fd ["yard", "days", "line"] (spCkDL C cD cL) := by
  refine F.okX scDl (fun vs H Q E h => ?_) (fun cdv A outer s H vs Q E hr h => ?_)
  · obtain ⟨y, sz, lv, l, q, rs, ws, as, ds, li, rfl, _⟩ := h
    rfl
  · obtain ⟨y, sz, lv, l, q, rs, ws, as, ds, li, rfl, Y, DR, hd1, hd2, hq, hl, kG, kB, kC⟩ := h
    have hr1 := hr.mono (show 1 ≤ 4 by decide)
    have hr3 := hr.mono (show 3 ≤ 4 by decide)
    refine ⟨_, pss_cons (ps_set (i := 3) scDl.nd rfl (Or.inl rfl) (pe_callB call_len_seq (by rfl) T.len PySem.boot_len (pa_cons (pe_meth0 (pv 0) T.cl eRo GRo hr1 bRo .nil pass0) pa_nil)))
      (pss_cons (ps_expr (pe_callX GS hr (by rfl) mS FS.kp bS .nil passes_cx (pa_cons (pv 3) (pa_cons (pv 1) pa_nil))))
      (pss_one (ps_expr (pe_callX GL hr3 (by rfl) mL FL.kp bL .nil passes_cx (pa_cons (pv 3) (pa_cons (pv 1) (pa_cons (pv 2) pa_nil))))))), ?_⟩
    obtain ⟨dx, hy⟩ := Y.ob
    refine ⟨_, rfl, y, dx, _, rfl, hy, fl_no _ _ (by decide) (by decide), y, sz, lv, rs, ws, rfl, Y, fun r1 h1 => ?_⟩
    have s1 := same_upd (o := .lst (iL rs)) h1
    refine ⟨r1, _, rfl, .inl (SqL.of upd_same), ?_⟩
    generalize upd H r1 (.lst (iL rs)) = H1 at s1 ⊢
    refine ⟨_, rfl, _, rfl, rs.length, l, as, ds, (by rw [List.length_map]; rfl), DR.same s1, hd1, hd2, fun g H2 s2 => ?_, fun g H2 s2 => kB g H2 (s1.trans s2)⟩
    have s12 := s1.trans s2
    have el : (as.map fun a => V.ref a.1).length = ds.length := by rw [List.length_map, DR.len]
    refine ⟨_, rfl, _, rfl, _, rfl, rs.length, l, q, _, li, (by rw [List.length_map]; rfl), s12 _ _ DR.lst, s12 _ _ hq, hl, fun g2 H3 s3 => kG g (el ▸ g2) H3 (s12.trans s3), fun g2 H3 s3 => kC g (fun z => g2 (el.symm ▸ z)) H3 (s12.trans s3)⟩
def spAbove (C cD cL : Addr) (v : List Int → List Int → List Day → List Int → Int) : Sp := fun vs H Q E => ∃ (y sz lv l q : Addr) (rs ws : List Int) (as : List A3) (ds : List Day) (li : List Int), vs = [.ref y, .ref l, .ref q] ∧ YardAt C H y sz lv rs ws ∧ ws.length = rs.length ∧ rs.length ≤ 100 ∧ DaysR H l as ds ∧ ds.length ≤ 100 ∧ (∀ d ∈ ds, d.1.length ≤ 100 ∧ d.2.length ≤ 100) ∧ H q = some (.lst (iL li)) ∧ li.length ≤ 100 ∧
  (DaysOk rs.length ds → LineOk rs.length ds.length li → ∀ H', Same H H' → Q (.int (v rs ws ds li)) H') ∧ (¬ DaysOk rs.length ds → ∀ H', Same H H' → E (.ref cD) none H') ∧ (DaysOk rs.length ds → ¬ LineOk rs.length ds.length li → ∀ H', Same H H' → E (.ref cL) none H')
def vWater (rs ws : List Int) (ds : List Day) (li : List Int) : Int := watAb rs 0 ws ds li
def vWishes (_ _ : List Int) (ds : List Day) (li : List Int) : Int := wisAb ds li
theorem scWr : FnScope ["yard", "days", "line", "before", "lying", "water", "day", "above"] ["yard", "days", "line"] (defScope sWater) := ⟨rfl, rfl, rfl, by decide +kernel, rfl, by decide +kernel, by decide +kernel⟩
theorem ok_wr {f fL fRo fWa : Addr} {fd fdL fdRo fdWa : FuncData} (F : Fun K "water_above" "water_above" sWater f fd) (T : Txt K mg C cY cB cD cL cT)
    (FL : Fun K "check_days_and_line" "check_days_and_line" sCheckDL fL fdL) (bL : Binds K fdL ["yard", "days", "line"] []) (mL : mg "check_days_and_line" = some (.ref fL)) (GL : FnOk P w K mg base (CXo P w) 5 fL fdL ["yard", "days", "line"] (spCkDL C cD cL))
    (eRo : Meth K C "rooms" fRo) (bRo : Binds K fdRo ["self"] []) (GRo : FnOk P w K mg base CX0 1 fRo fdRo ["self"] (spRooms C)) (eWa : Meth K C "waters" fWa) (bWa : Binds K fdWa ["self"] []) (GWa : FnOk P w K mg base CX0 1 fWa fdWa ["self"] (spWaters C)) :
    FnOk P w K mg base (CXo P w) 6 f fd ["yard", "days", "line"] (spAbove C cD cL vWater) := by
  refine F.okX scWr (fun vs H Q E h => ?_) (fun cdv A outer s H vs Q E hr h => ?_)
  · obtain ⟨y, sz, lv, l, q, rs, ws, as, ds, li, rfl, _⟩ := h
    rfl
  · obtain ⟨y, sz, lv, l, q, rs, ws, as, ds, li, rfl, Y, hlw, hrl, DR, hd1, hd2, hq, hl, kG, kB, kC⟩ := h
    have hr1 := hr.mono (show 1 ≤ 5 by decide)
    refine ⟨_, pss_cons (ps_expr (pe_callX GL hr (by rfl) mL FL.kp bL .nil passes_cx (pa_cons (pv 0) (pa_cons (pv 1) (pa_cons (pv 2) pa_nil)))))
      (pss_cons (ps_set (i := 3) scWr.nd rfl (Or.inl rfl) pe_int)
      (pss_cons (ps_set (i := 4) scWr.nd rfl (Or.inl rfl) (pe_meth0 (pv 0) T.cl eWa GWa hr1 bWa .nil pass0))
      (pss_cons (ps_set (i := 5) scWr.nd rfl (Or.inl rfl) pe_int)
      (pss_cons (ps_for PassesOwn.leaving rfl (pi_zip (by rfl) T.zip (pa_cons (pv 1) (pa_cons (pv 2) pa_nil))) (pg_tup rfl (pgs_cons (pg_name (i := 6) scWr.nd rfl (Or.inl rfl)) (pgs_cons (pg_name (i := 7) scWr.nd rfl (Or.inl rfl)) pgs_nil)))
        (pss_cons (ps_set (i := 5) scWr.nd rfl (Or.inl rfl) (pe_op op_add (pe_op op_add (pv 5) (pe_callB (call_sum rfl) (by rfl) T.sum boot_sum (pa_cons (pe_slice sl_list (pe_ix ix_tup (pv 6) pe_int (fun _ _ => rfl)) po_none (po_some (pv 7))) pa_nil)))
            (pe_callB (call_sum rfl) (by rfl) T.sum boot_sum (pa_cons (pe_slice sl_list (pv 4) (po_some (pv 3)) (po_some (pv 7))) pa_nil))))
        (pss_cons (ps_set (i := 3) scWr.nd rfl (Or.inl rfl) (pv 7))
        (pss_one (ps_set (i := 4) scWr.nd rfl (Or.inl rfl) (pe_meth0 (pv 0) T.cl eRo GRo hr1 bRo .nil pass0))))))
      (pss_one (ps_ret (pv 5))))))), ?_⟩
    obtain ⟨dx, hy⟩ := Y.ob
    refine ⟨_, rfl, _, rfl, _, rfl, y, sz, lv, l, q, rs, ws, as, ds, li, rfl, Y, DR, hd1, hd2, hq, hl, fun g gl H1 s1 => ?_, fun g H1 s1 => kB g H1 s1, fun g gl H1 s1 => kC g gl H1 s1⟩
    refine ⟨_, rfl, y, dx, _, rfl, s1 _ _ hy, fl_no _ _ (by decide) (by decide), y, sz, lv, rs, ws, rfl, Y.same s1, fun w1 hw1 => ?_⟩
    have s2 := s1.trans (same_upd (o := .lst (iL ws)) hw1)
    have hw2 : (upd H1 w1 (.lst (iL ws))) w1 = some (.lst (iL ws)) := upd_same
    generalize upd H1 w1 (.lst (iL ws)) = H2 at s2 hw2 ⊢
    refine ⟨_, rfl, _, rfl, l, q, rfl, ⟨_, SqL.of (s2 _ _ DR.lst)⟩, ⟨_, SqL.of (s2 _ _ hq)⟩, ?_⟩
    refine for_it ds.length (fun i σ H' => i ≤ ds.length ∧ Same H H' ∧ ∃ (lp : Addr) (ls : List Int) (b : Nat) (wt : Int), H' lp = some (.lst (iL ls)) ∧ ls.length = rs.length ∧ b ≤ rs.length ∧ wt + watAb rs b ls (ds.drop i) (li.drop i) = watAb rs 0 ws ds li ∧
      ∃ o6 o7, σ = [some (.ref y), some (.ref l), some (.ref q), some (.int (b : Int)), some (.ref lp), some (.int wt), o6, o7]) ?_ ?_ ?_
    · exact ⟨Nat.zero_le _, s2, w1, ws, 0, 0, hw2, hlw, Nat.zero_le _, by rw [List.drop_zero, List.drop_zero]; omega, none, none, rfl⟩
    · rintro i σ H' hi ⟨_, s3, lp, ls, b, wt, hlp, hll, hb, hwt, o6, o7, rfl⟩
      obtain ⟨td, p, q', d, ha, hv, hd, htd, hp, hq'⟩ := (DR.same s3).at hi
      have hil : i < li.length := by rw [gl.2]; exact hi
      have hv2 := iL_at hil
      have hla := List.getElem?_eq_getElem hil
      have hgi := gI_at hla
      have hab := gl.1 _ (List.getElem_mem hil)
      rw [← hgi] at hla hab
      refine ⟨⟨_, _, _, _, SqL.of (s3 _ _ DR.lst), SqL.of (s3 _ _ hq), hv, hv2⟩, ?_⟩
      generalize gI li i = ab at hla hab hv2 ⊢
      rintro x H4 ⟨t, x1, x2, rfl, hnt, rfl, hx1, hx2⟩
      have ex1 := Option.some.inj ((hx1 _ (SqL.of (s3 _ _ DR.lst))).symm.trans hv)
      have ex2 := Option.some.inj ((hx2 _ (SqL.of (s3 _ _ hq))).symm.trans hv2)
      subst ex1 ex2
      have s4 := same_new (o := .tup [.ref td, .int ab]) hnt
      have ht4 : (upd H' t (.tup [.ref td, .int ab])) t = some (.tup [.ref td, .int ab]) := upd_same
      generalize upd H' t (.tup [.ref td, .int ab]) = H4 at s4 ht4 ⊢
      refine ⟨t, _, rfl, SqT.of ht4, rfl, _, _, rfl, _, _, rfl, rfl, ?_⟩
      have gd := g.2 d (List.mem_of_getElem? hd)
      have gd1 := gd.1.1
      refine ⟨_, rfl, _, rfl, td, _, _, _, rfl, rfl, SqT.of (s4 _ _ htd), atI_nat (j := 0) rfl, _, rfl, _, rfl, p, _, rfl, SqL.of (s4 _ _ hp), fun p1 hp1 => ?_⟩
      rw [cut_take hab.1]
      have s5 := same_upd (o := .lst (iL (d.1.take ab.toNat))) hp1
      refine ⟨p1, _, rfl, SqL.of upd_same, _, _, rfl, rfl, ?_⟩
      refine ⟨_, rfl, _, rfl, _, rfl, _, rfl, _, rfl, lp, _, rfl, SqL.of (s5 _ _ (s4 _ _ hlp)), fun p2 hp2 => ?_⟩
      rw [cut_mid (by omega) hab.1 (by omega) (by omega)]
      have s6 := same_upd (o := .lst (iL ((ls.drop (b : Int).toNat).take (ab.toNat - (b : Int).toNat)))) hp2
      refine ⟨p2, _, rfl, SqL.of upd_same, _, _, rfl, rfl, _, rfl, ?_⟩
      have s46 := s4.trans (s5.trans s6)
      generalize upd (upd H4 p1 (.lst (iL (d.1.take ab.toNat)))) p2 (.lst (iL ((ls.drop (b : Int).toNat).take (ab.toNat - (b : Int).toNat)))) = H6 at s46 ⊢
      have s36 := s3.trans s46
      refine ⟨_, rfl, y, dx, _, rfl, s36 _ _ hy, fl_no _ _ (by decide) (by decide), y, sz, lv, rs, ws, rfl, Y.same s36, fun r1 h1 => ?_⟩
      obtain ⟨an, rfl⟩ : ∃ an : Nat, ab = (an : Int) := ⟨ab.toNat, by omega⟩
      refine ⟨hi, s36.trans (same_upd h1), r1, rs, an, wt + (d.1.take (an : Int).toNat).sum + ((ls.drop (b : Int).toNat).take ((an : Int).toNat - (b : Int).toNat)).sum, upd_same, rfl, by omega, ?_, _, _, rfl⟩
      rw [drop_at hd, drop_at hla] at hwt
      rw [Int.toNat_natCast, Int.toNat_natCast, sum_take _ _ (by omega), sum_mid _ _ _ (by omega), ← hwt]
      show _ = wt + (sumTo (gI d.1) (an : Int).toNat + sumTo (fromB ls b) (an : Int).toNat + watAb rs (an : Int).toNat rs (ds.drop (i + 1)) (li.drop (i + 1)))
      rw [Int.toNat_natCast]
      omega
    · rintro σ H' ⟨_, s3, lp, ls, b, wt, hlp, hll, hb, hwt, o6, o7, rfl⟩
      refine ⟨⟨_, _, SqL.of (s3 _ _ DR.lst), SqL.of (s3 _ _ hq), .inl (by rw [List.length_map, DR.len]; exact Nat.le_refl _)⟩, _, rfl, ?_⟩
      rw [List.drop_length] at hwt
      have e : wt = watAb rs 0 ws ds li := by
        rw [← hwt, watAb_nil]
        omega
      rw [e]
      exact kG g gl H' s3
theorem scWs : FnScope ["yard", "days", "line"] ["yard", "days", "line"] (defScope sWishes) := ⟨rfl, rfl, rfl, by decide +kernel, rfl, by decide +kernel, by decide +kernel⟩
theorem ndWs : (["day", "above"] : List Str).Nodup := by decide +kernel
theorem ok_ws {f fL : Addr} {fd fdL : FuncData} (F : Fun K "wishes_above" "wishes_above" sWishes f fd) (T : Txt K mg C cY cB cD cL cT)
    (FL : Fun K "check_days_and_line" "check_days_and_line" sCheckDL fL fdL) (bL : Binds K fdL ["yard", "days", "line"] []) (mL : mg "check_days_and_line" = some (.ref fL)) (GL : FnOk P w K mg base (CXo P w) 5 fL fdL ["yard", "days", "line"] (spCkDL C cD cL)) :
    FnOk P w K mg base (CXo P w) 6 f fd ["yard", "days", "line"] (spAbove C cD cL vWishes) := by
  refine F.okX scWs (fun vs H Q E h => ?_) (fun cdv A outer s H vs Q E hr h => ?_)
  · obtain ⟨y, sz, lv, l, q, rs, ws, as, ds, li, rfl, _⟩ := h
    rfl
  · obtain ⟨y, sz, lv, l, q, rs, ws, as, ds, li, rfl, Y, hlw, hrl, DR, hd1, hd2, hq, hl, kG, kB, kC⟩ := h
    refine ⟨_, pss_cons (ps_expr (pe_callX GL hr (by rfl) mL FL.kp bL .nil passes_cx (pa_cons (pv 0) (pa_cons (pv 1) (pa_cons (pv 2) pa_nil)))))
      (pss_one (ps_ret (pe_callB (call_sum rfl) (by rfl) T.sum boot_sum (pa_cons (pe_comp (g := gTup K 2 (gCons (gName 0) (gCons (gName 1) gNil))) (N := ["day", "above"]) (cap := [none, none]) rfl (.of (by rfl)) (pi_zip (by rfl) T.zip (pa_cons (pv 1) (pa_cons (pv 2) pa_nil)))
        (fun _ _ _ _ => pg_tup (by rfl) (pgs_cons (pg_name (i := 0) ndWs (by rfl) (Or.inl (by rfl)) (Or.inr (by rfl))) (pgs_cons (pg_name (i := 1) ndWs (by rfl) (Or.inl (by rfl)) (Or.inr (by rfl))) pgs_nil))) (fun _ _ _ _ => pts_nil)
        (fun _ _ _ _ => pe_callB (show CallR _ (.builtin "sum") (rSum K) from call_sum rfl) (by rfl) T.sum boot_sum (pa_cons (pe_slice (show SlR _ (rSlL K) from sl_list) (pe_ix (show IxR _ (rIxT K) from ix_tup) (pv 0) pe_int (fun _ _ => rfl)) po_none (po_some (pv 1))) pa_nil))) pa_nil)))), ?_⟩
    refine ⟨_, rfl, _, rfl, _, rfl, y, sz, lv, l, q, rs, ws, as, ds, li, rfl, Y, DR, hd1, hd2, hq, hl, fun g gl H1 s1 => ?_, fun g H1 s1 => kB g H1 s1, fun g gl H1 s1 => kC g gl H1 s1⟩
    refine ⟨_, rfl, _, rfl, l, q, rfl, ⟨_, SqL.of (s1 _ _ DR.lst)⟩, ⟨_, SqL.of (s1 _ _ hq)⟩, fun D hD => ?_⟩
    have hDH : H D = none := s1.free hD
    refine comp_by ds.length (sz100 hd1) (fun i ys τ H' => i ≤ ds.length ∧ (∃ zs : List Int, ys = iL zs ∧ zs.length = i ∧ zs.sum + wisAb (ds.drop i) (li.drop i) = wisAb ds li) ∧ Same H H' ∧ H' D = some (.lst ys) ∧ τ.length = 2) ?_ ?_ ?_ ?_
    · refine ⟨Nat.zero_le _, ⟨[], rfl, rfl, ?_⟩, s1.trans (same_new hD), upd_same, rfl⟩
      rw [List.drop_zero, List.drop_zero]
      show (0 : Int) + _ = _
      omega
    · rintro i ys τ H' ⟨hi, ⟨zs, rfl, hzl, _⟩, _, hd, _⟩
      exact ⟨hd, by rw [List.length_map, hzl]; exact Nat.le_refl _⟩
    · rintro i ys τ H' hi ⟨_, ⟨zs, rfl, hzl, hzs⟩, s3, hdD, ht⟩
      obtain ⟨td, p, q', d, ha, hv, hd, htd, hp, hq'⟩ := (DR.same s3).at hi
      have hil : i < li.length := by rw [gl.2]; exact hi
      have hv2 := iL_at hil
      have hla := List.getElem?_eq_getElem hil
      have hgi := gI_at hla
      have hab := gl.1 _ (List.getElem_mem hil)
      rw [← hgi] at hla hab
      refine ⟨⟨_, _, _, _, SqL.of (s3 _ _ DR.lst), SqL.of (s3 _ _ hq), hv, hv2⟩, ?_⟩
      generalize gI li i = ab at hla hab hv2 ⊢
      rintro x H4 ⟨t, x1, x2, rfl, hnt, rfl, hx1, hx2⟩
      have ex1 := Option.some.inj ((hx1 _ (SqL.of (s3 _ _ DR.lst))).symm.trans hv)
      have ex2 := Option.some.inj ((hx2 _ (SqL.of (s3 _ _ hq))).symm.trans hv2)
      subst ex1 ex2
      have s4 := same_new (o := .tup [.ref td, .int ab]) hnt
      have ht4 : (upd H' t (.tup [.ref td, .int ab])) t = some (.tup [.ref td, .int ab]) := upd_same
      generalize upd H' t (.tup [.ref td, .int ab]) = H4 at s4 ht4 ⊢
      obtain ⟨τ0, τ1, rfl⟩ : ∃ a b, τ = [a, b] := by
        match τ, ht with
        | [a, b], _ => exact ⟨a, b, rfl⟩
      refine ⟨t, _, rfl, SqT.of ht4, rfl, _, _, rfl, _, _, rfl, rfl, ?_⟩
      refine yes_if ?_
      have gd := g.2 d (List.mem_of_getElem? hd)
      have gd2 := gd.2.1
      refine ⟨_, rfl, td, _, _, _, rfl, rfl, SqT.of (s4 _ _ htd), atI_nat (j := 1) rfl, _, rfl, _, rfl, q', _, rfl, SqL.of (s4 _ _ hq'), fun p1 hp1 => ?_⟩
      rw [cut_take hab.1]
      have s5 := same_upd (o := .lst (iL (d.2.take ab.toNat))) hp1
      refine ⟨p1, _, rfl, SqL.of upd_same, s5 _ _ (s4 _ _ hdD), hi, ⟨zs ++ [_], iL_snoc zs _, ?_, ?_⟩, fun b o z => ?_, upd_same, rfl⟩
      · rw [List.length_append, hzl]
        rfl
      · rw [drop_at hd, drop_at hla] at hzs
        rw [sum_snoc, sum_take _ _ (by omega), ← hzs]
        show _ = zs.sum + (sumTo (gI d.2) ab.toNat + wisAb (ds.drop (i + 1)) (li.drop (i + 1)))
        omega
      · rw [upd_ne (ne_of_none z hDH)]
        exact s5 _ _ (s4 _ _ (s3 _ _ z))
    · rintro ys τ H' ⟨_, ⟨zs, rfl, hzl, hzs⟩, s3, hdD, ht⟩
      refine ⟨⟨_, _, SqL.of (s3 _ _ DR.lst), SqL.of (s3 _ _ hq), .inl (by rw [List.length_map, DR.len]; exact Nat.le_refl _)⟩, D, zs, rfl, SqL.of hdD, ?_⟩
      rw [List.drop_length] at hzs
      have e : zs.sum = wisAb ds li := by
        rw [← hzs, wisAb_nil]
        omega
      rw [e]
      exact kG g gl H' s3
end
end Z

set_option Elab.async false
set_option linter.all false
set_option maxRecDepth 100000
set_option maxHeartbeats 8000000
namespace Z
open PySem L2
/-! ### days as data -/
def dayDt (d : Day) : Dt := .tup [.lst (d.1.map .int), .lst (d.2.map .int)]
def daysDt (ds : List Day) : Dt := .lst (ds.map dayDt)
theorem dp_day (d : Day) : dpD (dayDt d) = 2 := by
  simp [dayDt, dpD, dpDs, dpInts]
theorem dp_days : ∀ ds : List Day, dpDs (ds.map dayDt) ≤ 2
  | [] => by simp [dpDs]
  | d :: ds => by
    have := dp_days ds
    have e : dpDs ((d :: ds).map dayDt) = max (dpD (dayDt d)) (dpDs (ds.map dayDt)) := by
      show dpDs (dayDt d :: ds.map dayDt) = _
      conv => lhs; unfold dpDs
    rw [e, dp_day]
    omega
section
variable {P : Program} {w : World} {K : PySem.W.Frag} {mg : Str → Option Value} {base : Heap} {C cY cB cD cL cT : Addr}
theorem has_rows {H : Hp} : ∀ {as : List A3} {ds : List Day}, as.length = ds.length → (∀ a ∈ as, H a.1 = some (.tup [.ref a.2.1, .ref a.2.2])) → (∀ (i : Nat) (a : A3) (d : Day), as[i]? = some a → ds[i]? = some d → H a.2.1 = some (.lst (iL d.1)) ∧ H a.2.2 = some (.lst (iL d.2))) →
    HasDs K H (ds.map dayDt) (as.map fun a => V.ref a.1)
  | [], [], _, _, _ => rfl
  | a :: as, d :: ds, hl, ht, hr => by
    have r := hr 0 a d rfl rfl
    refine ⟨_, _, rfl, ⟨a.1, _, rfl, SqT.of (ht a List.mem_cons_self), _, _, rfl, ⟨a.2.1, _, rfl, SqL.of r.1, hasInts d.1⟩, _, _, rfl, ⟨a.2.2, _, rfl, SqL.of r.2, hasInts d.2⟩, rfl⟩, has_rows (by simpa using hl) (fun x hx => ht x (List.mem_cons_of_mem _ hx)) fun i x e h1 h2 => hr (i + 1) x e h1 h2⟩
  | [], _ :: _, h, _, _ => by simp at h
  | _ :: _, [], h, _, _ => by simp at h
theorem DaysR.has {H : Hp} {l : Addr} {as : List A3} {ds : List Day} (D : DaysR H l as ds) : HasD K H (daysDt ds) (.ref l) := ⟨l, _, rfl, SqL.of D.lst, has_rows D.len D.tup D.row⟩
def spCopied : Sp := fun vs H Q _ => ∃ (l : Addr) (as : List A3) (ds : List Day), vs = [.ref l] ∧ DaysR H l as ds ∧ ds.length ≤ 100 ∧
  ∀ (l2 : Addr) (bs : List A3) (H' : Hp), H l2 = none → (∀ x ∈ bs, H x.1 = none ∧ H x.2.1 = none ∧ H x.2.2 = none) → (∀ x ∈ bs, l2 ≠ x.2.1 ∧ l2 ≠ x.2.2) → DaysAt H' l2 bs ds → Same H H' → Q (.ref l2) H'
theorem scCo : FnScope ["days"] ["days"] (defScope sCopied) := ⟨rfl, rfl, rfl, by decide +kernel, rfl, by decide +kernel, by decide +kernel⟩
theorem ndCo : (["day"] : List Str).Nodup := by decide +kernel
theorem ok_co {f : Addr} {fd : FuncData} (F : Fun K "_law_copied" "_law_copied" sCopied f fd) (T : Txt K mg C cY cB cD cL cT) : FnOk P w K mg base CX0 1 f fd ["days"] spCopied := by
  refine F.ok scCo (fun vs H Q E h => ?_) (fun cdv A outer s H vs Q E hr h => ?_)
  · obtain ⟨l, as, ds, rfl, _⟩ := h
    rfl
  · obtain ⟨l, as, ds, rfl, DR, hl, k⟩ := h
    refine ⟨_, pss_one (ps_ret (pe_comp (N := ["day"]) (cap := [none]) rfl (.of (by rfl)) (pi_list (pv 0)) (fun _ _ _ _ => pg_name (i := 0) ndCo rfl (Or.inl rfl)) (fun _ _ _ _ => pts_nil)
        (fun _ _ _ _ => pe_tup (pa_cons (pe_callTy (show CallR _ (.type "list") (rListOf K) from call_list_of) (by rfl) T.list boot_lst (pa_cons (pe_ix (show IxR _ (rIxT K) from ix_tup) (pv 0) pe_int (fun _ _ => rfl)) pa_nil)) (pa_cons (pe_callTy (show CallR _ (.type "list") (rListOf K) from call_list_of) (by rfl) T.list boot_lst (pa_cons (pe_ix (show IxR _ (rIxT K) from ix_tup) (pv 0) pe_int (fun _ _ => rfl)) pa_nil)) pa_nil))))), ?_⟩
    refine ⟨_, rfl, l, rfl, ⟨_, SqL.of DR.lst⟩, fun D hD => ?_⟩
    refine comp_by ds.length (sz100 hl) (fun i ys τ H' => i ≤ ds.length ∧ Same H H' ∧ (∃ bs : List A3, ys = (bs.map fun a => V.ref a.1) ∧ DaysAt H' D bs (ds.take i) ∧ (∀ x ∈ bs, H x.1 = none ∧ H x.2.1 = none ∧ H x.2.2 = none) ∧ ∀ x ∈ bs, D ≠ x.2.1 ∧ D ≠ x.2.2) ∧ ∃ o, τ = [o]) ?_ ?_ ?_ ?_
    · exact ⟨Nat.zero_le _, same_new hD, ⟨[], rfl, ⟨rfl, upd_same, by simp, fun i a d h => by simp at h, List.nodup_nil⟩, by simp, by simp⟩, none, rfl⟩
    · rintro i ys τ H' ⟨hi, s1, ⟨bs, rfl, DA, _⟩, _⟩
      refine ⟨DA.lst, ?_⟩
      rw [List.length_map, DA.len, List.length_take]
      exact Nat.min_le_left _ _
    · rintro i ys τ H' hi ⟨_, s1, ⟨bs, rfl, DA, fr, ap⟩, o, rfl⟩
      obtain ⟨t, p, q, d, ha, hv, hd, ht, hp, hq⟩ := (DR.same s1).at hi
      refine ⟨⟨_, _, SqL.of (s1 _ _ DR.lst), hv⟩, ?_⟩
      rintro x H3 ⟨rfl, hx⟩
      have ex := Option.some.inj ((hx _ (SqL.of (s1 _ _ DR.lst))).symm.trans hv)
      subst ex
      refine name_yes_if ?_
      refine ⟨_, rfl, t, _, _, _, rfl, rfl, SqT.of ht, atI_nat (j := 0) rfl, p, _, rfl, .inl (SqL.of hp), fun p1 hp1 => ?_⟩
      have sa := same_upd (o := .lst (iL d.1)) hp1
      refine ⟨_, rfl, t, _, _, _, rfl, rfl, SqT.of (sa _ _ ht), atI_nat (j := 1) rfl, q, _, rfl, .inl (SqL.of (sa _ _ hq)), fun q1 hq1 => ?_⟩
      have sb := same_upd (o := .lst (iL d.2)) hq1
      refine ⟨(by show 2 ≤ sizeLine; decide), fun t1 ht1 => ?_⟩
      have sc := same_upd (o := .tup [.ref p1, .ref q1]) ht1
      have s3 := sa.trans (sb.trans sc)
      have hp3 := sc _ _ (sb _ _ (upd_same (H := H3) (a := p1) (o := .lst (iL d.1))))
      have hq3 := sc _ _ (upd_same (H := upd H3 p1 (.lst (iL d.1))) (a := q1) (o := .lst (iL d.2)))
      have ht3 : (upd (upd (upd H3 p1 (.lst (iL d.1))) q1 (.lst (iL d.2))) t1 (.tup [.ref p1, .ref q1])) t1 = some (.tup [.ref p1, .ref q1]) := upd_same
      have npq : p1 ≠ q1 := ne_of_none (upd_same (H := H3) (a := p1) (o := .lst (iL d.1))) hq1
      have hq1' : H3 q1 = none := sa.free hq1
      have ht1' : H3 t1 = none := (sa.trans sb).free ht1
      generalize upd (upd (upd H3 p1 (.lst (iL d.1))) q1 (.lst (iL d.2))) t1 (.tup [.ref p1, .ref q1]) = H4 at s3 hp3 hq3 ht3 ⊢
      have nDp : D ≠ p1 := ne_of_none DA.lst hp1
      have nDq : D ≠ q1 := ne_of_none DA.lst hq1'
      have nDt : D ≠ t1 := ne_of_none DA.lst ht1'
      have hDH : H D = none := hD
      refine ⟨s3 _ _ DA.lst, hi, fun b o z => ?_, ⟨bs ++ [(t1, p1, q1)], ?_, ?_, fun x hx => ?_, fun x hx => ?_⟩, _, rfl⟩
      · rw [upd_ne (ne_of_none z hDH)]
        exact s3 _ _ (s1 _ _ z)
      · rw [List.map_append]
        rfl
      · rw [take_snoc hd]
        exact DA.more hp1 hq1' npq upd_same (by rw [upd_ne nDt.symm]; exact ht3) (by rw [upd_ne nDp.symm]; exact hp3) (by rw [upd_ne nDq.symm]; exact hq3) (fun b o z hb => by rw [upd_ne hb]; exact s3 _ _ z) ap
      · rcases List.mem_append.mp hx with z | z
        · exact fr x z
        · rw [List.mem_singleton.mp z]
          exact ⟨s1.free ht1', s1.free hp1, s1.free hq1'⟩
      · rcases List.mem_append.mp hx with z | z
        · exact ap x z
        · rw [List.mem_singleton.mp z]
          exact ⟨nDp, nDq⟩
    · rintro ys τ H' ⟨_, s1, ⟨bs, rfl, DA, fr, ap⟩, o, rfl⟩
      refine ⟨⟨_, SqL.of (s1 _ _ DR.lst), by rw [List.length_map, DR.len]; exact Nat.le_refl _⟩, ?_⟩
      rw [List.take_length] at DA
      exact k D bs H' hD fr ap DA s1
end
end Z

set_option Elab.async false
set_option linter.all false
set_option maxRecDepth 100000
set_option maxHeartbeats 8000000
namespace Z
open PySem L2
/-! ### the law's own water and wishes above a line -/
def befAt (li : List Int) (i : Nat) : Nat := if i = 0 then 0 else (gI li (i - 1)).toNat
def lyAt (rs ws : List Int) (i : Nat) : List Int := if i = 0 then ws else rs
section
variable {P : Program} {w : World} {K : PySem.W.Frag} {mg : Str → Option Value} {base : Heap} {C cY cB cD cL cT : Addr}
def spLWater : Sp := fun vs H Q _ => ∃ (rp wp l q : Addr) (rs ws : List Int) (as : List A3) (ds : List Day) (li : List Int), vs = [.ref rp, .ref wp, .ref l, .ref q] ∧ H rp = some (.lst (iL rs)) ∧ H wp = some (.lst (iL ws)) ∧ DaysR H l as ds ∧ H q = some (.lst (iL li)) ∧ ws.length = rs.length ∧ rs.length ≤ 100 ∧ ds.length ≤ 100 ∧
  (∀ d ∈ ds, d.1.length = rs.length ∧ d.2.length = rs.length) ∧ LineOk rs.length ds.length li ∧ Q (.int (vWater rs ws ds li)) H
theorem scLwa : FnScope ["rooms", "waters", "days", "line", "total", "number", "k"] ["rooms", "waters", "days", "line"] (defScope sLWater) := ⟨rfl, rfl, rfl, by decide +kernel, rfl, by decide +kernel, by decide +kernel⟩
theorem ok_lwa {f : Addr} {fd : FuncData} (F : Fun K "_law_water" "_law_water" sLWater f fd) (T : Txt K mg C cY cB cD cL cT) : FnOk P w K mg base CX0 1 f fd ["rooms", "waters", "days", "line"] spLWater := by
  refine F.ok scLwa (fun vs H Q E h => ?_) (fun cdv A outer s H vs Q E hr h => ?_)
  · obtain ⟨rp, wp, l, q, rs, ws, as, ds, li, rfl, _⟩ := h
    rfl
  · obtain ⟨rp, wp, l, q, rs, ws, as, ds, li, rfl, hrp, hwp, DR, hq, hlw, hrl, hd1, hrow, lok, kk⟩ := h
    refine ⟨_, pss_cons (ps_set (i := 4) scLwa.nd rfl (Or.inl rfl) pe_int)
      (pss_cons (ps_for PassesOwn.never rfl (pi_range1 (by rfl) T.range (pa_cons (pe_callB call_len_seq (by rfl) T.len PySem.boot_len (pa_cons (pv 2) pa_nil)) pa_nil)) (pg_name (i := 5) scLwa.nd rfl (Or.inl rfl))
        (pss_one (ps_for PassesOwn.never rfl (pi_range1 (by rfl) T.range (pa_cons (pe_ix ix_list (pv 3) (pv 5) (fun _ _ => rfl)) pa_nil)) (pg_name (i := 6) scLwa.nd rfl (Or.inl rfl))
          (pss_cons (ps_set (i := 4) scLwa.nd rfl (Or.inl rfl) (pe_op op_add (pv 4) (pe_ix ix_list (pe_ix ix_tup (pe_ix ix_list (pv 2) (pv 5) (fun _ _ => rfl)) pe_int (fun _ _ => rfl)) (pv 6) (fun _ _ => rfl))))
          (pss_one (ps_if (pt_cmpR op_eq (pv 5) pe_int (nomark _)) (pss_one (ps_set (i := 4) scLwa.nd rfl (Or.inl rfl) (pe_op op_add (pv 4) (pe_ix ix_list (pv 1) (pv 6) (fun _ _ => rfl)))))
            (pss_one (ps_if (pt_cmpR op_ge (pv 6) (pe_ix ix_list (pv 3) (pe_op op_sub (pv 5) pe_int) (fun _ _ => rfl)) (nomark _)) (pss_one (ps_set (i := 4) scLwa.nd rfl (Or.inl rfl) (pe_op op_add (pv 4) (pe_ix ix_list (pv 0) (pv 6) (fun _ _ => rfl))))) pss_nil))))))))
      (pss_one (ps_ret (pv 4)))), ?_⟩
    have el1 : ((as.map fun a => V.ref a.1).length : Int) = (ds.length : Int) := by rw [List.length_map, DR.len]
    refine ⟨_, rfl, l, _, rfl, .inl (SqL.of DR.lst), _, rfl, by omega, by omega, ?_⟩
    have en : ((as.map fun a => V.ref a.1).length : Int).toNat = ds.length := by omega
    rw [en]
    refine for_range (n := ds.length) (fun i σ H' => H' = H ∧ ∃ (tt : Int), tt + watAb rs (befAt li i) (lyAt rs ws i) (ds.drop i) (li.drop i) = vWater rs ws ds li ∧ ∃ o5 o6, σ = [some (.ref rp), some (.ref wp), some (.ref l), some (.ref q), some (.int tt), o5, o6]) ?_ ?_ ?_
    · refine ⟨rfl, 0, ?_, none, none, rfl⟩
      rw [List.drop_zero, List.drop_zero]
      show 0 + watAb rs 0 ws ds li = watAb rs 0 ws ds li
      omega
    · rintro i σ H' hi ⟨rfl, tt, htt, o5, o6, rfl⟩
      have e0 : (0 : Int) + (i : Int) = (i : Int) := by omega
      rw [e0]
      obtain ⟨td, p, q', d, ha, hv, hdd, htd, hp, hq'⟩ := DR.at hi
      obtain ⟨l1, l2⟩ := hrow d (List.mem_of_getElem? hdd)
      have hil : i < li.length := by rw [lok.2]; exact hi
      have hla := List.getElem?_eq_getElem hil
      have hgi := gI_at hla
      have hab := lok.1 _ (List.getElem_mem hil)
      rw [← hgi] at hla hab
      have hv2 := atI_nat (iL_at hil)
      have a1 := atI_nat hv
      obtain ⟨an, ean⟩ : ∃ an : Nat, gI li i = (an : Int) := ⟨(gI li i).toNat, by omega⟩
      rw [ean] at hla hab hv2
      refine ⟨_, rfl, _, rfl, q, _, _, _, rfl, rfl, SqL.of hq, hv2, _, rfl, by omega, by omega, ?_⟩
      rw [Int.toNat_natCast]
      rw [drop_at hdd, drop_at hla] at htt
      have htt2 : tt + (sumTo (gI d.1) an + sumTo (fromB (lyAt rs ws i) (befAt li i)) an + watAb rs an rs (ds.drop (i + 1)) (li.drop (i + 1))) = vWater rs ws ds li := by
        rw [← htt]
        show _ = tt + (sumTo (gI d.1) (an : Int).toNat + sumTo (fromB (lyAt rs ws i) (befAt li i)) (an : Int).toNat + watAb rs (an : Int).toNat rs (ds.drop (i + 1)) (li.drop (i + 1)))
        rw [Int.toNat_natCast]
      refine for_range (n := an) (fun j σ H3 => H3 = H' ∧ ∃ (t2 : Int), t2 = tt + sumTo (gI d.1) j + sumTo (fromB (lyAt rs ws i) (befAt li i)) j ∧ ∃ o6, σ = [some (.ref rp), some (.ref wp), some (.ref l), some (.ref q), some (.int t2), some (.int (i : Int)), o6]) ?_ ?_ ?_
      · refine ⟨rfl, tt, ?_, _, rfl⟩
        show tt = tt + 0 + 0
        omega
      · rintro j σ H3 hj ⟨rfl, t2, ht2, p6, rfl⟩
        have e1 : (0 : Int) + (j : Int) = (j : Int) := by omega
        rw [e1]
        have b5 := atI_nat (iL_at (l := d.1) (i := j) (by omega))
        have b1 := atI_nat (iL_at (l := ws) (i := j) (by omega))
        have b0 := atI_nat (iL_at (l := rs) (i := j) (by omega))
        refine ⟨_, rfl, _, rfl, _, rfl, l, _, _, _, rfl, rfl, SqL.of DR.lst, a1, td, _, _, _, rfl, rfl, SqT.of htd, atI_nat (j := 0) rfl, _, rfl, p, _, _, _, rfl, rfl, SqL.of hp, b5, _, _, rfl, rfl, ?_⟩
        have s1 : sumTo (gI d.1) (j + 1) = sumTo (gI d.1) j + gI d.1 j := rfl
        have s2 : sumTo (fromB (lyAt rs ws i) (befAt li i)) (j + 1) = sumTo (fromB (lyAt rs ws i) (befAt li i)) j + fromB (lyAt rs ws i) (befAt li i) j := rfl
        refine ⟨_, rfl, rfl, _, rfl, ?_⟩
        refine ite2 (fun h1 => ?_) (fun h1 => ?_)
        · have ei : i = 0 := by
            have := eq_t h1
            omega
          refine ⟨_, rfl, _, rfl, _, rfl, wp, _, _, _, rfl, rfl, SqL.of hwp, b1, _, _, rfl, rfl, ?_⟩
          refine ⟨rfl, _, ?_, _, rfl⟩
          have e3 : fromB (lyAt rs ws i) (befAt li i) j = gI ws j := by
            subst ei
            show (if 0 ≤ j then gI ws j else 0) = _
            rw [if_pos (Nat.zero_le _)]
          omega
        · have ei : i ≠ 0 := fun z => h1 (by rw [z]; simp)
          have hi1 : i - 1 < li.length := by omega
          have ec : ((i : Int) - 1) = ((i - 1 : Nat) : Int) := by omega
          have b3 := atI_nat (iL_at hi1)
          rw [← ec] at b3
          have hbf : befAt li i = (gI li (i - 1)).toNat := by unfold befAt; rw [if_neg ei]
          have hly : lyAt rs ws i = rs := by unfold lyAt; rw [if_neg ei]
          have hnn := lok.1 _ (List.getElem_mem hi1)
          rw [← gI_at (List.getElem?_eq_getElem hi1)] at hnn
          refine ⟨_, rfl, _, rfl, _, rfl, _, _, rfl, rfl, q, _, _, _, rfl, rfl, SqL.of hq, b3, _, _, rfl, rfl, _, rfl, ?_⟩
          refine ite2 (fun h2 => ?_) (fun h2 => ?_)
          · have h2 := of_decide_eq_true h2
            refine ⟨_, rfl, _, rfl, _, rfl, rp, _, _, _, rfl, rfl, SqL.of hrp, b0, _, _, rfl, rfl, ?_⟩
            refine ⟨rfl, _, ?_, _, rfl⟩
            have e3 : fromB (lyAt rs ws i) (befAt li i) j = gI rs j := by
              rw [hbf, hly]
              unfold fromB
              rw [if_pos (by omega)]
            omega
          · have h2 : ¬ gI li (i - 1) ≤ (j : Int) := fun z => h2 (decide_eq_true z)
            refine ⟨rfl, _, ?_, _, rfl⟩
            have e3 : fromB (lyAt rs ws i) (befAt li i) j = 0 := by
              rw [hbf, hly]
              unfold fromB
              rw [if_neg (by omega)]
            omega
      · rintro σ H3 ⟨rfl, t2, ht2, p6, rfl⟩
        refine ⟨rfl, t2, ?_, _, _, rfl⟩
        have e1 : befAt li (i + 1) = an := by
          unfold befAt
          rw [if_neg (by omega), show i + 1 - 1 = i by omega, ean, Int.toNat_natCast]
        have e2 : lyAt rs ws (i + 1) = rs := by unfold lyAt; rw [if_neg (by omega)]
        rw [e1, e2]
        omega
    · rintro σ H' ⟨rfl, tt, htt, o5, o6, rfl⟩
      refine ⟨_, rfl, ?_⟩
      rw [List.drop_length, watAb_nil] at htt
      have : tt = vWater rs ws ds li := by omega
      rw [this]
      exact kk
def spLWishes : Sp := fun vs H Q _ => ∃ (l q : Addr) (as : List A3) (ds : List Day) (li : List Int) (n : Nat), vs = [.ref l, .ref q] ∧ DaysR H l as ds ∧ H q = some (.lst (iL li)) ∧ n ≤ 100 ∧ ds.length ≤ 100 ∧ (∀ d ∈ ds, d.1.length = n ∧ d.2.length = n) ∧ LineOk n ds.length li ∧ Q (.int (wisAb ds li)) H
theorem scLwi : FnScope ["days", "line", "total", "number", "k"] ["days", "line"] (defScope sLWishes) := ⟨rfl, rfl, rfl, by decide +kernel, rfl, by decide +kernel, by decide +kernel⟩
theorem ok_lwi {f : Addr} {fd : FuncData} (F : Fun K "_law_wishes" "_law_wishes" sLWishes f fd) (T : Txt K mg C cY cB cD cL cT) : FnOk P w K mg base CX0 1 f fd ["days", "line"] spLWishes := by
  refine F.ok scLwi (fun vs H Q E h => ?_) (fun cdv A outer s H vs Q E hr h => ?_)
  · obtain ⟨l, q, as, ds, li, n, rfl, _⟩ := h
    rfl
  · obtain ⟨l, q, as, ds, li, n, rfl, DR, hq, hrl, hd1, hrow, lok, kk⟩ := h
    refine ⟨_, pss_cons (ps_set (i := 2) scLwi.nd rfl (Or.inl rfl) pe_int)
      (pss_cons (ps_for PassesOwn.never rfl (pi_range1 (by rfl) T.range (pa_cons (pe_callB call_len_seq (by rfl) T.len PySem.boot_len (pa_cons (pv 0) pa_nil)) pa_nil)) (pg_name (i := 3) scLwi.nd rfl (Or.inl rfl))
        (pss_one (ps_for PassesOwn.never rfl (pi_range1 (by rfl) T.range (pa_cons (pe_ix ix_list (pv 1) (pv 3) (fun _ _ => rfl)) pa_nil)) (pg_name (i := 4) scLwi.nd rfl (Or.inl rfl))
          (pss_one (ps_set (i := 2) scLwi.nd rfl (Or.inl rfl) (pe_op op_add (pv 2) (pe_ix ix_list (pe_ix ix_tup (pe_ix ix_list (pv 0) (pv 3) (fun _ _ => rfl)) pe_int (fun _ _ => rfl)) (pv 4) (fun _ _ => rfl))))))))
      (pss_one (ps_ret (pv 2)))), ?_⟩
    have el1 : ((as.map fun a => V.ref a.1).length : Int) = (ds.length : Int) := by rw [List.length_map, DR.len]
    refine ⟨_, rfl, l, _, rfl, .inl (SqL.of DR.lst), _, rfl, by omega, by omega, ?_⟩
    have en : ((as.map fun a => V.ref a.1).length : Int).toNat = ds.length := by omega
    rw [en]
    refine for_range (n := ds.length) (fun i σ H' => H' = H ∧ ∃ (tt : Int), tt + wisAb (ds.drop i) (li.drop i) = wisAb ds li ∧ ∃ o5 o6, σ = [some (.ref l), some (.ref q), some (.int tt), o5, o6]) ?_ ?_ ?_
    · refine ⟨rfl, 0, ?_, none, none, rfl⟩
      rw [List.drop_zero, List.drop_zero]
      omega
    · rintro i σ H' hi ⟨rfl, tt, htt, o5, o6, rfl⟩
      have e0 : (0 : Int) + (i : Int) = (i : Int) := by omega
      rw [e0]
      obtain ⟨td, p, q', d, ha, hv, hdd, htd, hp, hq'⟩ := DR.at hi
      obtain ⟨l1, l2⟩ := hrow d (List.mem_of_getElem? hdd)
      have hil : i < li.length := by rw [lok.2]; exact hi
      have hla := List.getElem?_eq_getElem hil
      have hgi := gI_at hla
      have hab := lok.1 _ (List.getElem_mem hil)
      rw [← hgi] at hla hab
      have hv2 := atI_nat (iL_at hil)
      have a1 := atI_nat hv
      obtain ⟨an, ean⟩ : ∃ an : Nat, gI li i = (an : Int) := ⟨(gI li i).toNat, by omega⟩
      rw [ean] at hla hab hv2
      refine ⟨_, rfl, _, rfl, q, _, _, _, rfl, rfl, SqL.of hq, hv2, _, rfl, by omega, by omega, ?_⟩
      rw [Int.toNat_natCast]
      rw [drop_at hdd, drop_at hla] at htt
      have htt2 : tt + (sumTo (gI d.2) an + wisAb (ds.drop (i + 1)) (li.drop (i + 1))) = wisAb ds li := by
        rw [← htt]
        show _ = tt + (sumTo (gI d.2) (an : Int).toNat + wisAb (ds.drop (i + 1)) (li.drop (i + 1)))
        rw [Int.toNat_natCast]
      refine for_range (n := an) (fun j σ H3 => H3 = H' ∧ ∃ (t2 : Int), t2 = tt + sumTo (gI d.2) j ∧ ∃ o6, σ = [some (.ref l), some (.ref q), some (.int t2), some (.int (i : Int)), o6]) ?_ ?_ ?_
      · refine ⟨rfl, tt, ?_, _, rfl⟩
        show tt = tt + 0
        omega
      · rintro j σ H3 hj ⟨rfl, t2, ht2, p6, rfl⟩
        have e1 : (0 : Int) + (j : Int) = (j : Int) := by omega
        rw [e1]
        have b5 := atI_nat (iL_at (l := d.2) (i := j) (by omega))
        refine ⟨_, rfl, _, rfl, _, rfl, l, _, _, _, rfl, rfl, SqL.of DR.lst, a1, td, _, _, _, rfl, rfl, SqT.of htd, atI_nat (j := 1) rfl, _, rfl, q', _, _, _, rfl, rfl, SqL.of hq', b5, _, _, rfl, rfl, ?_⟩
        have s1 : sumTo (gI d.2) (j + 1) = sumTo (gI d.2) j + gI d.2 j := rfl
        exact ⟨rfl, _, by omega, _, rfl⟩
      · rintro σ H3 ⟨rfl, t2, ht2, p6, rfl⟩
        exact ⟨rfl, t2, by omega, _, _, rfl⟩
    · rintro σ H' ⟨rfl, tt, htt, o5, o6, rfl⟩
      refine ⟨_, rfl, ?_⟩
      rw [List.drop_length, wisAb_nil] at htt
      have : tt = wisAb ds li := by omega
      rw [this]
      exact kk
end
end Z

set_option Elab.async false
set_option linter.all false
set_option maxRecDepth 100000
set_option maxHeartbeats 8000000
namespace Z
open PySem L2
section
variable {P : Program} {w : World} {K : PySem.W.Frag} {mg : Str → Option Value} {base : Heap} {C cY cB cD cL cT : Addr}
def vWay (b : Bool) (rs ws : List Int) (ds : List Day) (li : List Int) : Int := if b then vWater rs ws ds li else vWishes rs ws ds li
def spTold (C : Addr) : Sp := fun vs H Q _ => ∃ (y sz lv l q : Addr) (rs ws : List Int) (as : List A3) (ds : List Day) (li : List Int) (wy : Int), vs = [.ref y, .ref l, .ref q, .int wy] ∧ YardAt C H y sz lv rs ws ∧ ws.length = rs.length ∧ rs.length ≤ 100 ∧ DaysR H l as ds ∧ ds.length ≤ 100 ∧ (∀ d ∈ ds, d.1.length ≤ 100 ∧ d.2.length ≤ 100) ∧ H q = some (.lst (iL li)) ∧ li.length ≤ 100 ∧
  (DaysOk rs.length ds → LineOk rs.length ds.length li → ∀ (lo u : Addr) (H' : Hp), H lo = none → H' lo = some (.lst []) → H' u = some (.tup [.int (vWay (decide (wy = 0)) rs ws ds li), .ref lo]) → Same H H' → Q (.ref u) H') ∧
  (¬ DaysOk rs.length ds → ∀ (m u : Addr) (H' : Hp), H m = none → H' m = some (.lst ([true, false, true, false].map V.bl)) → H' u = some (.tup [.non, .ref m]) → Same H H' → Q (.ref u) H') ∧
  (DaysOk rs.length ds → ¬ LineOk rs.length ds.length li → ∀ (m u : Addr) (H' : Hp), H m = none → H' m = some (.lst ([false, true, true, false].map V.bl)) → H' u = some (.tup [.non, .ref m]) → Same H H' → Q (.ref u) H')
theorem scTo : FnScope ["yard", "days", "line", "way", "found", "e", "marks"] ["yard", "days", "line", "way"] (defScope sTold) := ⟨rfl, rfl, rfl, by decide +kernel, rfl, by decide +kernel, by decide +kernel⟩
theorem ok_to {f fW fS : Addr} {fd fdW fdS : FuncData} (F : Fun K "_law_told" "_law_told" sTold f fd) (T : Txt K mg C cY cB cD cL cT)
    (FW : Fun K "water_above" "water_above" sWater fW fdW) (bW : Binds K fdW ["yard", "days", "line"] []) (mW : mg "water_above" = some (.ref fW)) (GW : FnOk P w K mg base (CXo P w) 6 fW fdW ["yard", "days", "line"] (spAbove C cD cL vWater))
    (FS : Fun K "wishes_above" "wishes_above" sWishes fS fdS) (bS : Binds K fdS ["yard", "days", "line"] []) (mS : mg "wishes_above" = some (.ref fS)) (GS : FnOk P w K mg base (CXo P w) 6 fS fdS ["yard", "days", "line"] (spAbove C cD cL vWishes)) :
    FnOk P w K mg base CX0 7 f fd ["yard", "days", "line", "way"] (spTold C) := by
  refine F.ok scTo (fun vs H Q E h => ?_) (fun cdv A outer s H vs Q E hr h => ?_)
  · obtain ⟨y, sz, lv, l, q, rs, ws, as, ds, li, wy, rfl, _⟩ := h
    rfl
  · obtain ⟨y, sz, lv, l, q, rs, ws, as, ds, li, wy, rfl, Y, hlw, hrl, DR, hd1, hd2, hq, hl, kG, kB, kC⟩ := h
    refine ⟨_, pss_cons (ps_try (i := 5) rfl rfl rfl scTo.nd rfl rfl (by rfl) T.mgY (fun D pn => pss_one (ps_if (pt_cmpR op_eq (pv 3) pe_int (nomark _))
        (pss_one (ps_set (i := 4) scTo.nd rfl (Or.inl rfl) (pe_callX GW hr (by rfl) mW FW.kp bW .nil passes_tried (pa_cons (pv 0) (pa_cons (pv 1) (pa_cons (pv 2) pa_nil))))))
        (pss_one (ps_set (i := 4) scTo.nd rfl (Or.inl rfl) (pe_callX GS hr (by rfl) mS FS.kp bS .nil passes_tried (pa_cons (pv 0) (pa_cons (pv 1) (pa_cons (pv 2) pa_nil)))))))))
      (pss_one (ps_ret (pe_tup (pa_cons (pv 4) (pa_cons (pe_lst pa_nil) pa_nil))))), ?_⟩
    refine ⟨_, rfl, rfl, _, rfl, ?_⟩
    refine ite2 (fun h1 => ?_) (fun h1 => ?_)
    · have ew : wy = 0 := eq_t h1
      subst ew
      refine ⟨_, rfl, _, rfl, _, rfl, y, sz, lv, l, q, rs, ws, as, ds, li, rfl, Y, hlw, hrl, DR, hd1, hd2, hq, hl, fun g gl H' s' => ?_, fun g H' s' => ⟨T.exmD, fun e oe pn hoe => ⟨_, pss_cons
        (ps_set (i := 6) scTo.nd rfl (Or.inl rfl) (pe_lst (pa_cons (pe_callB call_isiX (by rfl) T.isi boot_isi (pa_cons (pv 5) (pa_cons (pe_glob (v := .ref cD) (by rfl) T.exD.mg rfl) pa_nil)))
          (pa_cons (pe_callB call_isiX (by rfl) T.isi boot_isi (pa_cons (pv 5) (pa_cons (pe_glob (v := .ref cL) (by rfl) T.exL.mg rfl) pa_nil)))
          (pa_cons (pe_callB call_isiX (by rfl) T.isi boot_isi (pa_cons (pv 5) (pa_cons (pe_bltn (v := .ty "ValueError") (by rfl) T.ve boot_ve rfl) pa_nil))) pa_nil)))))
        (pss_one (ps_ret (pe_tup (pa_cons pe_non (pa_cons (pe_op op_cat (pv 6) (pe_lst (pa_cons (pe_callB call_isiX (by rfl) T.isi boot_isi (pa_cons (pv 5) (pa_cons (pe_glob (v := .ref cB) (by rfl) T.exB.mg rfl) pa_nil))) pa_nil))) pa_nil))))), ?_⟩⟩, fun g gl H' s' => ⟨T.exmL, fun e oe pn hoe => ⟨_, pss_cons
        (ps_set (i := 6) scTo.nd rfl (Or.inl rfl) (pe_lst (pa_cons (pe_callB call_isiX (by rfl) T.isi boot_isi (pa_cons (pv 5) (pa_cons (pe_glob (v := .ref cD) (by rfl) T.exD.mg rfl) pa_nil)))
          (pa_cons (pe_callB call_isiX (by rfl) T.isi boot_isi (pa_cons (pv 5) (pa_cons (pe_glob (v := .ref cL) (by rfl) T.exL.mg rfl) pa_nil)))
          (pa_cons (pe_callB call_isiX (by rfl) T.isi boot_isi (pa_cons (pv 5) (pa_cons (pe_bltn (v := .ty "ValueError") (by rfl) T.ve boot_ve rfl) pa_nil))) pa_nil)))))
        (pss_one (ps_ret (pe_tup (pa_cons pe_non (pa_cons (pe_op op_cat (pv 6) (pe_lst (pa_cons (pe_callB call_isiX (by rfl) T.isi boot_isi (pa_cons (pv 5) (pa_cons (pe_glob (v := .ref cB) (by rfl) T.exB.mg rfl) pa_nil))) pa_nil))) pa_nil))))), ?_⟩⟩⟩
      · refine ⟨_, rfl, Nat.zero_le _, fun lo hlo => ⟨(by show 2 ≤ sizeLine; decide), fun u hu => ?_⟩⟩
        have s1 := same_upd (o := .lst []) hlo
        have s2 := same_upd (o := .tup [.int (vWater rs ws ds li), .ref lo]) hu
        exact kG g gl lo u _ (s'.free hlo) (s2 _ _ upd_same) upd_same (s'.trans (s1.trans s2))
      · have hm : (e, oe) ∈ pn ++ [(e, oe)] := List.mem_append_right _ List.mem_cons_self
        refine ⟨_, rfl, e, oe, cD, _, _, rfl, hm, hoe, T.kD, (by nofun), T.iDD, _, rfl, e, oe, cD, _, _, rfl, hm, hoe, T.kD, (by nofun), T.iDL, _, rfl, e, oe, cD, _, _, rfl, hm, hoe, T.kD, (by nofun), T.iDV, (by show 3 ≤ sizeLine; decide), fun m1 hm1 => ?_⟩
        have sa := same_upd (o := .lst [.bl true, .bl false, .bl true]) hm1
        refine ⟨_, rfl, _, rfl, e, oe, cD, _, _, rfl, hm, hoe, T.kD, (by nofun), T.iDB, (by show 1 ≤ sizeLine; decide), fun m2 hm2 => ?_⟩
        have sb := same_upd (o := .lst [.bl false]) hm2
        refine ⟨m1, m2, _, _, rfl, rfl, sb _ _ upd_same, upd_same, (by show 4 ≤ sizeLine; decide), fun m3 hm3 => ⟨(by show 2 ≤ sizeLine; decide), fun u hu => ?_⟩⟩
        have sc := same_upd (o := .lst ([.bl true, .bl false, .bl true] ++ [.bl false])) hm3
        have sd := same_upd (o := .tup [.non, .ref m3]) hu
        exact kB g m3 u _ ((s'.trans (sa.trans sb)).free hm3) (sd _ _ upd_same) upd_same (s'.trans (sa.trans (sb.trans (sc.trans sd))))
      · have hm : (e, oe) ∈ pn ++ [(e, oe)] := List.mem_append_right _ List.mem_cons_self
        refine ⟨_, rfl, e, oe, cL, _, _, rfl, hm, hoe, T.kL, (by nofun), T.iLD, _, rfl, e, oe, cL, _, _, rfl, hm, hoe, T.kL, (by nofun), T.iLL, _, rfl, e, oe, cL, _, _, rfl, hm, hoe, T.kL, (by nofun), T.iLV, (by show 3 ≤ sizeLine; decide), fun m1 hm1 => ?_⟩
        have sa := same_upd (o := .lst [.bl false, .bl true, .bl true]) hm1
        refine ⟨_, rfl, _, rfl, e, oe, cL, _, _, rfl, hm, hoe, T.kL, (by nofun), T.iLB, (by show 1 ≤ sizeLine; decide), fun m2 hm2 => ?_⟩
        have sb := same_upd (o := .lst [.bl false]) hm2
        refine ⟨m1, m2, _, _, rfl, rfl, sb _ _ upd_same, upd_same, (by show 4 ≤ sizeLine; decide), fun m3 hm3 => ⟨(by show 2 ≤ sizeLine; decide), fun u hu => ?_⟩⟩
        have sc := same_upd (o := .lst ([.bl false, .bl true, .bl true] ++ [.bl false])) hm3
        have sd := same_upd (o := .tup [.non, .ref m3]) hu
        exact kC g gl m3 u _ ((s'.trans (sa.trans sb)).free hm3) (sd _ _ upd_same) upd_same (s'.trans (sa.trans (sb.trans (sc.trans sd))))
    · have ew : wy ≠ 0 := eq_f h1
      have ewd : decide (wy = 0) = false := decide_eq_false ew
      refine ⟨_, rfl, _, rfl, _, rfl, y, sz, lv, l, q, rs, ws, as, ds, li, rfl, Y, hlw, hrl, DR, hd1, hd2, hq, hl, fun g gl H' s' => ?_, fun g H' s' => ⟨T.exmD, fun e oe pn hoe => ⟨_, pss_cons
        (ps_set (i := 6) scTo.nd rfl (Or.inl rfl) (pe_lst (pa_cons (pe_callB call_isiX (by rfl) T.isi boot_isi (pa_cons (pv 5) (pa_cons (pe_glob (v := .ref cD) (by rfl) T.exD.mg rfl) pa_nil)))
          (pa_cons (pe_callB call_isiX (by rfl) T.isi boot_isi (pa_cons (pv 5) (pa_cons (pe_glob (v := .ref cL) (by rfl) T.exL.mg rfl) pa_nil)))
          (pa_cons (pe_callB call_isiX (by rfl) T.isi boot_isi (pa_cons (pv 5) (pa_cons (pe_bltn (v := .ty "ValueError") (by rfl) T.ve boot_ve rfl) pa_nil))) pa_nil)))))
        (pss_one (ps_ret (pe_tup (pa_cons pe_non (pa_cons (pe_op op_cat (pv 6) (pe_lst (pa_cons (pe_callB call_isiX (by rfl) T.isi boot_isi (pa_cons (pv 5) (pa_cons (pe_glob (v := .ref cB) (by rfl) T.exB.mg rfl) pa_nil))) pa_nil))) pa_nil))))), ?_⟩⟩, fun g gl H' s' => ⟨T.exmL, fun e oe pn hoe => ⟨_, pss_cons
        (ps_set (i := 6) scTo.nd rfl (Or.inl rfl) (pe_lst (pa_cons (pe_callB call_isiX (by rfl) T.isi boot_isi (pa_cons (pv 5) (pa_cons (pe_glob (v := .ref cD) (by rfl) T.exD.mg rfl) pa_nil)))
          (pa_cons (pe_callB call_isiX (by rfl) T.isi boot_isi (pa_cons (pv 5) (pa_cons (pe_glob (v := .ref cL) (by rfl) T.exL.mg rfl) pa_nil)))
          (pa_cons (pe_callB call_isiX (by rfl) T.isi boot_isi (pa_cons (pv 5) (pa_cons (pe_bltn (v := .ty "ValueError") (by rfl) T.ve boot_ve rfl) pa_nil))) pa_nil)))))
        (pss_one (ps_ret (pe_tup (pa_cons pe_non (pa_cons (pe_op op_cat (pv 6) (pe_lst (pa_cons (pe_callB call_isiX (by rfl) T.isi boot_isi (pa_cons (pv 5) (pa_cons (pe_glob (v := .ref cB) (by rfl) T.exB.mg rfl) pa_nil))) pa_nil))) pa_nil))))), ?_⟩⟩⟩
      · refine ⟨_, rfl, Nat.zero_le _, fun lo hlo => ⟨(by show 2 ≤ sizeLine; decide), fun u hu => ?_⟩⟩
        have s1 := same_upd (o := .lst []) hlo
        have s2 := same_upd (o := .tup [.int (vWishes rs ws ds li), .ref lo]) hu
        refine kG g gl lo u _ (s'.free hlo) (s2 _ _ upd_same) ?_ (s'.trans (s1.trans s2))
        rw [ewd]
        exact upd_same
      · have hm : (e, oe) ∈ pn ++ [(e, oe)] := List.mem_append_right _ List.mem_cons_self
        refine ⟨_, rfl, e, oe, cD, _, _, rfl, hm, hoe, T.kD, (by nofun), T.iDD, _, rfl, e, oe, cD, _, _, rfl, hm, hoe, T.kD, (by nofun), T.iDL, _, rfl, e, oe, cD, _, _, rfl, hm, hoe, T.kD, (by nofun), T.iDV, (by show 3 ≤ sizeLine; decide), fun m1 hm1 => ?_⟩
        have sa := same_upd (o := .lst [.bl true, .bl false, .bl true]) hm1
        refine ⟨_, rfl, _, rfl, e, oe, cD, _, _, rfl, hm, hoe, T.kD, (by nofun), T.iDB, (by show 1 ≤ sizeLine; decide), fun m2 hm2 => ?_⟩
        have sb := same_upd (o := .lst [.bl false]) hm2
        refine ⟨m1, m2, _, _, rfl, rfl, sb _ _ upd_same, upd_same, (by show 4 ≤ sizeLine; decide), fun m3 hm3 => ⟨(by show 2 ≤ sizeLine; decide), fun u hu => ?_⟩⟩
        have sc := same_upd (o := .lst ([.bl true, .bl false, .bl true] ++ [.bl false])) hm3
        have sd := same_upd (o := .tup [.non, .ref m3]) hu
        exact kB g m3 u _ ((s'.trans (sa.trans sb)).free hm3) (sd _ _ upd_same) upd_same (s'.trans (sa.trans (sb.trans (sc.trans sd))))
      · have hm : (e, oe) ∈ pn ++ [(e, oe)] := List.mem_append_right _ List.mem_cons_self
        refine ⟨_, rfl, e, oe, cL, _, _, rfl, hm, hoe, T.kL, (by nofun), T.iLD, _, rfl, e, oe, cL, _, _, rfl, hm, hoe, T.kL, (by nofun), T.iLL, _, rfl, e, oe, cL, _, _, rfl, hm, hoe, T.kL, (by nofun), T.iLV, (by show 3 ≤ sizeLine; decide), fun m1 hm1 => ?_⟩
        have sa := same_upd (o := .lst [.bl false, .bl true, .bl true]) hm1
        refine ⟨_, rfl, _, rfl, e, oe, cL, _, _, rfl, hm, hoe, T.kL, (by nofun), T.iLB, (by show 1 ≤ sizeLine; decide), fun m2 hm2 => ?_⟩
        have sb := same_upd (o := .lst [.bl false]) hm2
        refine ⟨m1, m2, _, _, rfl, rfl, sb _ _ upd_same, upd_same, (by show 4 ≤ sizeLine; decide), fun m3 hm3 => ⟨(by show 2 ≤ sizeLine; decide), fun u hu => ?_⟩⟩
        have sc := same_upd (o := .lst ([.bl false, .bl true, .bl true] ++ [.bl false])) hm3
        have sd := same_upd (o := .tup [.non, .ref m3]) hu
        exact kC g gl m3 u _ ((s'.trans (sa.trans sb)).free hm3) (sd _ _ upd_same) upd_same (s'.trans (sa.trans (sb.trans (sc.trans sd))))
end
end Z

set_option Elab.async false
set_option linter.all false
set_option maxRecDepth 100000
set_option maxHeartbeats 8000000
namespace Z
open PySem L2
section
variable {P : Program} {w : World} {K : PySem.W.Frag} {mg : Str → Option Value} {base : Heap} {C cY cB cD cL cT : Addr}
theorem iL_set (zs : List Int) (k : Nat) (v : Int) : (iL zs).set k (.int v) = iL (zs.set k v) := by
  rw [iL, iL, List.map_set]
theorem iL_dropLast (zs : List Int) : (iL zs).dropLast = iL zs.dropLast := by
  rw [iL, iL, List.map_dropLast]
theorem ix_in {xs : List V} {j : Nat} (h : j < xs.length) : ixN xs.length (j : Int) = some j := by
  unfold ixN
  rw [if_pos (by omega), if_pos (by omega)]
  simp
/-- a row of the plan is another one now -/
theorem DaysAt.row1 {H H' : Hp} {l td p q : Addr} {as : List A3} {ds : List Day} {d : Day} {i : Nat} (D : DaysAt H l as ds) (ha : as[i]? = some (td, p, q)) (hd : ds[i]? = some d) (hln : ∀ a ∈ as, l ≠ a.2.1 ∧ l ≠ a.2.2) (zs : List Int) (b : Addr) (hb : b = p ∨ b = q)
    (e : ∀ c o, H c = some o → c ≠ b → H' c = some o) (hz : H' b = some (.lst (iL zs))) : DaysR H' l as (ds.set i (if b = p then (zs, d.2) else (d.1, zs))) := by
  have npq := rows_pq D.nd ha
  have row := D.row i _ d ha hd
  have hlb : l ≠ b := by
    have := hln _ (List.mem_of_getElem? ha)
    rcases hb with rfl | rfl
    · exact this.1
    · exact this.2
  have hbl : ∃ vs, H b = some (.lst vs) := by
    rcases hb with rfl | rfl
    · exact ⟨_, row.1⟩
    · exact ⟨_, row.2⟩
  obtain ⟨vs, hbl⟩ := hbl
  refine ⟨by rw [List.length_set, D.len], e _ _ D.lst hlb, fun a ha' => e _ _ (D.tup a ha') (ne_of (D.tup a ha') hbl (by nofun)), fun j a dd e1 e2 => ?_⟩
  by_cases hij : i = j
  · subst hij
    rw [ha] at e1
    cases e1
    rw [List.getElem?_set_self (List.getElem?_eq_some_iff.mp hd).1] at e2
    cases e2
    rcases hb with rfl | rfl
    · rw [if_pos rfl]
      exact ⟨hz, e _ _ row.2 npq.symm⟩
    · rw [if_neg (Ne.symm npq)]
      exact ⟨e _ _ row.1 npq, hz⟩
  · rw [List.getElem?_set_ne hij] at e2
    have r2 := D.row j a dd e1 e2
    have n := rows_ne D.nd ha e1 hij
    rcases hb with rfl | rfl
    · exact ⟨e _ _ r2.1 n.1, e _ _ r2.2 n.2.2.1⟩
    · exact ⟨e _ _ r2.1 n.2.1, e _ _ r2.2 n.2.2.2⟩
def spSpoilt (K : PySem.W.Frag) : Sp := fun vs H Q _ => ∃ (a p : Addr) (ns zs : List Int) (n : Nat), vs = [.ref a, .ref p] ∧ SqL K H a (iL ns) ∧ ns.length ≤ 63 ∧ H p = some (.lst (iL zs)) ∧ RowOk n zs ∧ 1 ≤ n ∧ n ≤ 4 ∧
  ∀ (zs' : List Int) (H' : Hp), H' p = some (.lst (iL zs')) → zs'.length ≤ 5 → ¬ RowOk n zs' → (∀ b o, H b = some o → b ≠ p → H' b = some o) → Q .non H'
theorem scSp : FnScope ["script", "numbers", "way"] ["script", "numbers"] (defScope sSpoilt) := ⟨rfl, rfl, rfl, by decide +kernel, rfl, by decide +kernel, by decide +kernel⟩
theorem ok_sp {f fD : Addr} {fd fdD : FuncData} (F : Fun K "_law_spoilt" "_law_spoilt" sSpoilt f fd) (T : Txt K mg C cY cB cD cL cT) (FD : Fun K "_law_drawn" "_law_drawn" sDrawn fD fdD) (bD : Binds K fdD ["script", "k", "many"] []) (mD : mg "_law_drawn" = some (.ref fD)) :
    FnOk P w K mg base CX0 2 f fd ["script", "numbers"] (spSpoilt K) := by
  have GD : FnOk P w K mg base CX0 1 fD fdD ["script", "k", "many"] (spDrawn K) := ok_dr FD T
  refine F.ok scSp (fun vs H Q E h => ?_) (fun cdv A outer s H vs Q E hr h => ?_)
  · obtain ⟨a, p, ns, zs, n, rfl, _⟩ := h
    rfl
  · obtain ⟨a, p, ns, zs, n, rfl, hs, hl, hp, row, hn1, hn4, kk⟩ := h
    refine ⟨_, pss_cons (ps_set (i := 2) scSp.nd rfl (Or.inl rfl) (pe_call GD hr (by rfl) mD FD.kp bD .nil pass0 (pa_cons (pv 0) (pa_cons pe_int (pa_cons pe_int pa_nil)))))
      (pss_one (ps_if (pt_cmpR op_eq (pv 2) pe_int (nomark _)) (pss_one (ps_expr (pe_bm0 PySem.F.plainAttrs_list PySem.F.slot_list_pop PySem.F.type_list_pop mt_pop (pv 1))))
        (pss_one (ps_if (pt_cmpR op_eq (pv 2) pe_int (nomark _)) (pss_one (ps_expr (pe_bm PySem.F.plainAttrs_list PySem.F.slot_list_append PySem.F.type_list_append mt_append (pv 1) (pa_cons pe_int pa_nil))))
          (pss_one (ps_asg (pe_ix ix_list (pe_lst (pa_cons (pe_un un_neg pe_int) (pa_cons pe_int pa_nil))) (pe_op op_sub (pv 2) pe_int) (fun _ _ => rfl)) (pg_sub (pv 1) (pe_call GD hr (by rfl) mD FD.kp bD .nil pass0 (pa_cons (pv 0) (pa_cons pe_int (pa_cons (pe_callB call_len_seq (by rfl) T.len PySem.boot_len (pa_cons (pv 1) pa_nil)) pa_nil)))) set_list))))))), ?_⟩
    have hzl := row.1
    have elz : ((iL zs).length : Int) = (zs.length : Int) := by rw [List.length_map]
    refine ⟨_, rfl, a, ns, _, _, rfl, hs, hl, by omega, by omega, by decide, fun way w0 w1 => ?_⟩
    refine ⟨_, rfl, rfl, _, rfl, ?_⟩
    refine ite2 (fun h1 => ?_) (fun h1 => ?_)
    · obtain ⟨x, hx⟩ : ∃ x, (iL zs)[(iL zs).length - 1]? = some x := ⟨_, List.getElem?_eq_getElem (by rw [List.length_map]; omega)⟩
      refine ⟨_, rfl, .inl ⟨rfl, _, SqL.of hp⟩, p, _, _, rfl, rfl, hp, hx, ?_⟩
      rw [iL_dropLast]
      refine kk _ _ upd_same (by rw [List.length_dropLast]; omega) (fun z => ?_) fun b o z hb => by rw [upd_ne hb]; exact z
      have := z.1
      rw [List.length_dropLast] at this
      omega
    refine ⟨_, rfl, rfl, _, rfl, ?_⟩
    refine ite2 (fun h2 => ?_) (fun h2 => ?_)
    · refine ⟨_, rfl, .inl ⟨rfl, _, SqL.of hp⟩, p, _, _, rfl, rfl, hp, small1000 (by rw [List.length_map]; omega), ?_⟩
      rw [iL_snoc]
      refine kk _ _ upd_same (by rw [List.length_append]; show _ + 1 ≤ 5; omega) (fun z => ?_) fun b o z hb => by rw [upd_ne hb]; exact z
      have := z.1
      rw [List.length_append] at this
      have : zs.length + 1 = n := this
      omega
    have h1 := eq_f h1
    have h2 := eq_f h2
    refine ⟨_, rfl, (by show 2 ≤ sizeLine; decide), fun la hla => ?_⟩
    have s1 := same_upd (o := .lst [.int (-1), .int 31]) hla
    obtain ⟨v, hv4, hbad⟩ : ∃ v : Int, atI [V.int (-1), .int 31] (way - 2) = some (.int v) ∧ ¬ (0 ≤ v ∧ v ≤ 30) := by
      have : way = 2 ∨ way = 3 := by omega
      rcases this with rfl | rfl
      · exact ⟨_, rfl, by decide⟩
      · exact ⟨_, rfl, by decide⟩
    refine ⟨_, rfl, _, _, rfl, rfl, la, _, _, _, rfl, rfl, SqL.of upd_same, hv4, ?_⟩
    refine ⟨_, rfl, _, rfl, _, rfl, p, _, rfl, .inl (SqL.of (s1 _ _ hp)), a, ns, _, _, rfl, s1.seq hs, hl, by omega, by omega, by omega, fun c c0 c1 => ?_⟩
    obtain ⟨j, rfl⟩ : ∃ j : Nat, c = (j : Int) := ⟨c.toNat, by omega⟩
    have hj : j < zs.length := by omega
    refine ⟨p, _, _, j, rfl, rfl, s1 _ _ hp, ix_in (by rw [List.length_map]; exact hj), ?_⟩
    rw [iL_set]
    refine kk _ _ upd_same (by rw [List.length_set]; omega) (fun z => hbad (z.2 v ?_)) fun b o z hb => by rw [upd_ne hb]; exact s1 _ _ z
    exact List.mem_of_getElem? (List.getElem?_set_self hj)
def spLineSp (K : PySem.W.Frag) : Sp := fun vs H Q _ => ∃ (a p : Addr) (ns zs : List Int) (n : Nat), vs = [.ref a, .ref p, .int n] ∧ SqL K H a (iL ns) ∧ ns.length ≤ 63 ∧ H p = some (.lst (iL zs)) ∧ zs.length ≤ 8 ∧
  ∀ (zs' : List Int) (H' : Hp), H' p = some (.lst (iL zs')) → zs'.length ≤ 9 → (∀ b o, H b = some o → b ≠ p → H' b = some o) → Q .non H'
theorem scLs : FnScope ["script", "line", "many", "way"] ["script", "line", "many"] (defScope sLineSpoilt) := ⟨rfl, rfl, rfl, by decide +kernel, rfl, by decide +kernel, by decide +kernel⟩
theorem ok_ls {f fD : Addr} {fd fdD : FuncData} (F : Fun K "_law_line_spoilt" "_law_line_spoilt" sLineSpoilt f fd) (T : Txt K mg C cY cB cD cL cT) (FD : Fun K "_law_drawn" "_law_drawn" sDrawn fD fdD) (bD : Binds K fdD ["script", "k", "many"] []) (mD : mg "_law_drawn" = some (.ref fD)) :
    FnOk P w K mg base CX0 2 f fd ["script", "line", "many"] (spLineSp K) := by
  have GD : FnOk P w K mg base CX0 1 fD fdD ["script", "k", "many"] (spDrawn K) := ok_dr FD T
  refine F.ok scLs (fun vs H Q E h => ?_) (fun cdv A outer s H vs Q E hr h => ?_)
  · obtain ⟨a, p, ns, zs, n, rfl, _⟩ := h
    rfl
  · obtain ⟨a, p, ns, zs, n, rfl, hs, hl, hp, hzl, kk⟩ := h
    refine ⟨_, pss_cons (ps_set (i := 3) scLs.nd rfl (Or.inl rfl) (pe_call GD hr (by rfl) mD FD.kp bD .nil pass0 (pa_cons (pv 0) (pa_cons pe_int (pa_cons pe_int pa_nil)))))
      (pss_one (ps_if (pt_cmpR op_eq (pv 3) pe_int (nomark _)) (pss_one (ps_expr (pe_bm PySem.F.plainAttrs_list PySem.F.slot_list_append PySem.F.type_list_append mt_append (pv 1) (pa_cons pe_int pa_nil))))
        (pss_one (ps_if (pw_and (pt_cmpR op_eq (pv 3) pe_int (nomark _)) (pw_and1 (pt_cmpR op_gt (pe_callB call_len_seq (by rfl) T.len PySem.boot_len (pa_cons (pv 1) pa_nil)) pe_int (nomark _)))).pt (pss_one (ps_expr (pe_bm0 PySem.F.plainAttrs_list PySem.F.slot_list_pop PySem.F.type_list_pop mt_pop (pv 1))))
          (pss_one (ps_if (pt_cmpR op_gt (pe_callB call_len_seq (by rfl) T.len PySem.boot_len (pa_cons (pv 1) pa_nil)) pe_int (nomark _))
            (pss_one (ps_asg (pe_ix ix_list (pe_lst (pa_cons (pe_un un_neg pe_int) (pa_cons (pe_op op_add (pv 2) pe_int) (pa_cons (pe_op op_pow pe_int pe_int) pa_nil)))) (pe_call GD hr (by rfl) mD FD.kp bD .nil pass0 (pa_cons (pv 0) (pa_cons pe_int (pa_cons pe_int pa_nil)))) (fun _ _ => rfl)) (pg_sub (pv 1) (pe_call GD hr (by rfl) mD FD.kp bD .nil pass0 (pa_cons (pv 0) (pa_cons pe_int (pa_cons (pe_callB call_len_seq (by rfl) T.len PySem.boot_len (pa_cons (pv 1) pa_nil)) pa_nil)))) set_list))) pss_nil)))))), ?_⟩
    have elz : ((iL zs).length : Int) = (zs.length : Int) := by rw [List.length_map]
    refine ⟨_, rfl, a, ns, _, _, rfl, hs, hl, by omega, by omega, by decide, fun way w0 w1 => ?_⟩
    have pop : 0 < zs.length → ∃ x, (iL zs)[(iL zs).length - 1]? = some x := fun h => ⟨_, List.getElem?_eq_getElem (by rw [List.length_map]; omega)⟩
    -- a number put otherwise
    have last : 0 < zs.length → ∀ la, H la = none → ∀ v : Int, ∀ j : Nat, j < zs.length → Q .non (upd (upd H la (.lst [.int (-1), .int ((n : Int) + 1), .int (10 ^ (9 : Int).toNat)])) p (.lst ((iL zs).set j (.int v)))) := by
      intro h0 la hla v j hj
      have s1 := same_upd (o := .lst [.int (-1), .int ((n : Int) + 1), .int (10 ^ (9 : Int).toNat)]) hla
      rw [iL_set]
      exact kk _ _ upd_same (by rw [List.length_set]; omega) fun b o z hb => by rw [upd_ne hb]; exact s1 _ _ z
    refine ⟨_, rfl, rfl, _, rfl, ?_⟩
    refine ite2 (fun h1 => ?_) (fun h1 => ?_)
    · refine ⟨_, rfl, .inl ⟨rfl, _, SqL.of hp⟩, p, _, _, rfl, rfl, hp, small1000 (by rw [List.length_map]; omega), ?_⟩
      rw [iL_snoc]
      exact kk _ _ upd_same (by rw [List.length_append]; show _ + 1 ≤ 9; omega) fun b o z hb => by rw [upd_ne hb]; exact z
    refine ⟨_, rfl, rfl, _, rfl, ?_⟩
    refine ite2 (fun h2 => ?_) (fun h2 => iteF ?_)
    · refine ⟨_, rfl, p, _, rfl, .inl (SqL.of hp), _, _, rfl, rfl, _, rfl, ?_⟩
      refine ite2 (fun h3 => ?_) (fun h3 => ?_)
      · have h3 := of_decide_eq_true h3
        obtain ⟨x, hx⟩ := pop (by omega)
        refine ⟨_, rfl, .inl ⟨rfl, _, SqL.of hp⟩, p, _, _, rfl, rfl, hp, hx, ?_⟩
        rw [iL_dropLast]
        exact kk _ _ upd_same (by rw [List.length_dropLast]; omega) fun b o z hb => by rw [upd_ne hb]; exact z
      · refine ⟨_, rfl, p, _, rfl, .inl (SqL.of hp), _, _, rfl, rfl, _, rfl, ?_⟩
        refine ite2 (fun h4 => absurd h4 h3) (fun h4 => ?_)
        exact kk zs H hp (by omega) fun b o z _ => z
    · refine ⟨_, rfl, p, _, rfl, .inl (SqL.of hp), _, _, rfl, rfl, _, rfl, ?_⟩
      refine ite2 (fun h4 => ?_) (fun h4 => kk zs H hp (by omega) fun b o z _ => z)
      have h4 := of_decide_eq_true h4
      refine ⟨_, rfl, _, rfl, _, _, rfl, rfl, _, _, rfl, rfl, ⟨by decide, by decide, by decide⟩, (by show 3 ≤ sizeLine; decide), fun la hla => ?_⟩
      have s1 := same_upd (o := .lst [.int (-1), .int ((n : Int) + 1), .int (10 ^ (9 : Int).toNat)]) hla
      refine ⟨_, rfl, a, ns, _, _, rfl, s1.seq hs, hl, by omega, by omega, by decide, fun c c0 c1 => ?_⟩
      obtain ⟨v, hv4⟩ : ∃ v : Int, atI [V.int (-1), .int ((n : Int) + 1), .int (10 ^ (9 : Int).toNat)] c = some (.int v) := by
        have : c = 0 ∨ c = 1 ∨ c = 2 := by omega
        rcases this with rfl | rfl | rfl
        · exact ⟨_, rfl⟩
        · exact ⟨_, rfl⟩
        · exact ⟨_, rfl⟩
      refine ⟨la, _, _, _, rfl, rfl, SqL.of upd_same, hv4, ?_⟩
      refine ⟨_, rfl, _, rfl, _, rfl, p, _, rfl, .inl (SqL.of (s1 _ _ hp)), a, ns, _, _, rfl, s1.seq hs, hl, by omega, by omega, by omega, fun c2 c20 c21 => ?_⟩
      obtain ⟨j, rfl⟩ : ∃ j : Nat, c2 = (j : Int) := ⟨c2.toNat, by omega⟩
      have hj : j < zs.length := by omega
      refine ⟨p, _, _, j, rfl, rfl, s1 _ _ hp, ix_in (by rw [List.length_map]; exact hj), ?_⟩
      exact last (by omega) la hla v j hj
end
end Z

set_option Elab.async false
set_option linter.all false
set_option maxRecDepth 100000
set_option maxHeartbeats 8000000
namespace Z
open PySem L2
section
variable {P : Program} {w : World} {K : PySem.W.Frag} {mg : Str → Option Value} {base : Heap} {C cY cB cD cL cT : Addr}
abbrev nL : List Str := ["script", "made", "lived", "yard", "many", "days", "line", "due", "handed", "found"]
theorem scLw : FnScope nL ["script"] (defScope sLaw) := ⟨rfl, rfl, rfl, by decide +kernel, rfl, by decide +kernel, by decide +kernel⟩
theorem ndF : (["way", "yard", "handed"] : List Str).Nodup := by decide +kernel
theorem ndE : (["k", "many"] : List Str).Nodup := by decide +kernel
theorem ndL : (["k", "script", "many"] : List Str).Nodup := by decide +kernel
abbrev cxL (P : Program) (w : World) (K : PySem.W.Frag) (mg : Str → Option Value) (base : Heap) (f : Addr) (cdv : Value) (A : Around) (outer : List Env) (s : Shared) (H : Hp) (E : XK) : Cx := (cxOf CX0 P w K mg base nL "law" (defScope sLaw) f cdv A outer s H E).nox
/-- where the law stands -/
structure S4 (C : Addr) (H0 H : Hp) (a m2 r hp y sz lv l q : Addr) (rs held : List Int) (as : List A3) (ds : List Day) (li : List Int) : Prop where
  sc : ∀ o, H0 a = some o → H a = some o
  mt : H m2 = some (.tup [.ref r, .ref hp])
  mr : H r = some (.lst (iL rs))
  mh : H hp = some (.lst (iL held))
  ya : YardAt C H y sz lv rs held
  g : Good rs held
  dr : DaysR H l as ds
  ln : H q = some (.lst (iL li))
  l9 : li.length ≤ 9
  row : ∀ d ∈ ds, d.1.length ≤ 100 ∧ d.2.length ≤ 100
theorem S4.same {H0 H H' : Hp} {a m2 r hp y sz lv l q : Addr} {rs held : List Int} {as : List A3} {ds : List Day} {li : List Int} (S : S4 C H0 H a m2 r hp y sz lv l q rs held as ds li) (e : Same H H') : S4 C H0 H' a m2 r hp y sz lv l q rs held as ds li :=
  ⟨fun o z => e _ _ (S.sc o z), e _ _ S.mt, e _ _ S.mr, e _ _ S.mh, S.ya.same e, S.g, S.dr.same e, e _ _ S.ln, S.l9, S.row⟩
def DueIs (n : Nat) (ds : List Day) (li : List Int) (bs : List Bool) : Prop :=
  (bs = [] ∧ DaysOk n ds ∧ LineOk n ds.length li) ∨ (bs = [false, true, true, false] ∧ DaysOk n ds ∧ ¬ LineOk n ds.length li) ∨ (bs = [true, false, true, false] ∧ ¬ DaysOk n ds)
/-- what was told of a way -/
def Told (H : Hp) (D : Addr) (rs held : List Int) (ds : List Day) (li : List Int) (bs : List Bool) (j : Nat) (u : Addr) : Prop :=
  (bs = [] → ∃ lo, lo ≠ D ∧ H lo = some (.lst []) ∧ H u = some (.tup [.int (vWay (decide ((j : Int) = 0)) rs held ds li), .ref lo])) ∧ (bs ≠ [] → ∃ mk, mk ≠ D ∧ H mk = some (.lst (bs.map V.bl)) ∧ H u = some (.tup [.non, .ref mk]))
theorem Told.but {H H' : Hp} {D : Addr} {rs held : List Int} {ds : List Day} {li : List Int} {bs : List Bool} {j : Nat} {u : Addr} {ys : List V} (h : Told H D rs held ds li bs j u) (hD : H D = some (.lst ys)) (e : ∀ b o, H b = some o → b ≠ D → H' b = some o) : Told H' D rs held ds li bs j u := by
  refine ⟨fun z => ?_, fun z => ?_⟩
  · obtain ⟨lo, n, h1, h2⟩ := h.1 z
    exact ⟨lo, n, e _ _ h1 n, e _ _ h2 (ne_of h2 hD (by nofun))⟩
  · obtain ⟨lo, n, h1, h2⟩ := h.2 z
    exact ⟨lo, n, e _ _ h1 n, e _ _ h2 (ne_of h2 hD (by nofun))⟩
theorem rep0 (n : Nat) : (List.replicate n [V.int 0]).flatten = iL (List.replicate n 0) := by
  induction n with
  | zero => rfl
  | succ n ih => rw [List.replicate_succ, List.flatten_cons, ih, List.replicate_succ]; rfl
theorem DaysR.append {H : Hp} {l l1 l2 : Addr} {as bs : List A3} {ds es : List Day} (D1 : DaysR H l1 as ds) (D2 : DaysR H l2 bs es) (hl : H l = some (.lst ((as.map fun a => V.ref a.1) ++ bs.map fun a => V.ref a.1))) : DaysR H l (as ++ bs) (ds ++ es) := by
  refine ⟨by rw [List.length_append, List.length_append, D1.len, D2.len], by rw [hl, List.map_append], fun a ha => ?_, fun i a d e1 e2 => ?_⟩
  · rcases List.mem_append.mp ha with z | z
    · exact D1.tup a z
    · exact D2.tup a z
  · by_cases hi : i < as.length
    · rw [List.getElem?_append_left hi] at e1
      rw [List.getElem?_append_left (by rw [← D1.len]; exact hi)] at e2
      exact D1.row i a d e1 e2
    · rw [List.getElem?_append_right (by omega)] at e1
      rw [List.getElem?_append_right (by rw [← D1.len]; omega), ← D1.len] at e2
      exact D2.row _ a d e1 e2
structure Cs (P : Program) (w : World) (K : PySem.W.Frag) (mg : Str → Option Value) (base : Heap) (C : Addr) (fD fLs fSp fCo fT fR fWt fWi fWa : Addr) (fdD fdLs fdSp fdCo fdT fdR fdWt fdWi fdWa : FuncData) : Prop where
  FD : Fun K "_law_drawn" "_law_drawn" sDrawn fD fdD
  bD : Binds K fdD ["script", "k", "many"] []
  mD : mg "_law_drawn" = some (.ref fD)
  GD : FnOk P w K mg base CX0 1 fD fdD ["script", "k", "many"] (spDrawn K)
  FLs : Fun K "_law_line_spoilt" "_law_line_spoilt" sLineSpoilt fLs fdLs
  bLs : Binds K fdLs ["script", "line", "many"] []
  mLs : mg "_law_line_spoilt" = some (.ref fLs)
  GLs : FnOk P w K mg base CX0 2 fLs fdLs ["script", "line", "many"] (spLineSp K)
  FSp : Fun K "_law_spoilt" "_law_spoilt" sSpoilt fSp fdSp
  bSp : Binds K fdSp ["script", "numbers"] []
  mSp : mg "_law_spoilt" = some (.ref fSp)
  GSp : FnOk P w K mg base CX0 2 fSp fdSp ["script", "numbers"] (spSpoilt K)
  FCo : Fun K "_law_copied" "_law_copied" sCopied fCo fdCo
  bCo : Binds K fdCo ["days"] []
  mCo : mg "_law_copied" = some (.ref fCo)
  GCo : FnOk P w K mg base CX0 1 fCo fdCo ["days"] spCopied
  FT : Fun K "_law_told" "_law_told" sTold fT fdT
  bT : Binds K fdT ["yard", "days", "line", "way"] []
  mT : mg "_law_told" = some (.ref fT)
  GT : FnOk P w K mg base CX0 7 fT fdT ["yard", "days", "line", "way"] (spTold C)
  FR : Fun K "_law_row" "_law_row" sRow fR fdR
  bR : Binds K fdR ["found", "due"] []
  mR : mg "_law_row" = some (.ref fR)
  GR : FnOk P w K mg base CX0 2 fR fdR ["found", "due"] spRow
  FWt : Fun K "_law_water" "_law_water" sLWater fWt fdWt
  bWt : Binds K fdWt ["rooms", "waters", "days", "line"] []
  mWt : mg "_law_water" = some (.ref fWt)
  GWt : FnOk P w K mg base CX0 1 fWt fdWt ["rooms", "waters", "days", "line"] spLWater
  FWi : Fun K "_law_wishes" "_law_wishes" sLWishes fWi fdWi
  bWi : Binds K fdWi ["days", "line"] []
  mWi : mg "_law_wishes" = some (.ref fWi)
  GWi : FnOk P w K mg base CX0 1 fWi fdWi ["days", "line"] spLWishes
  eWa : Meth K C "waters" fWa
  bWa : Binds K fdWa ["self"] []
  GWa : FnOk P w K mg base CX0 1 fWa fdWa ["self"] (spWaters C)
variable {f fD fLs fSp fCo fT fR fWt fWi fWa : Addr} {fdD fdLs fdSp fdCo fdT fdR fdWt fdWi fdWa : FuncData}
theorem tl12 (T : Txt K mg C cY cB cD cL cT) (c : Cs P w K mg base C fD fLs fSp fCo fT fR fWt fWi fWa fdD fdLs fdSp fdCo fdT fdR fdWt fdWi fdWa) {cdv : Value} {A : Around} {outer : List Env} {s : Shared} {H0 : Hp} {E : XK} (hr : Room 7 (A.deeper (PyProof.Rows.envOfC "law" (defScope sLaw) s.heap.objs.size f cdv))) :
    ∃ t, PSs (cxL P w K mg base f cdv A outer s H0 E) ((defBody sLaw).drop 12) t ∧ ∀ (D : Ends) (a m2 r hp y sz lv l q du : Addr) (rs held : List Int) (as : List A3) (ds : List Day) (li : List Int) (bs : List Bool) (o2 o8 o9 : Option V) (H : Hp), (∀ H', D.rt (.bl true) H') → S4 C H0 H a m2 r hp y sz lv l q rs held as ds li → ds.length ≤ 17 → H du = some (.lst (bs.map V.bl)) → DueIs rs.length ds li bs →
      t D [some (.ref a), some (.ref m2), o2, some (.ref y), some (.int (rs.length : Int)), some (.ref l), some (.ref q), some (.ref du), o8, o9] H := by
  have hr1 := hr.mono (show 1 ≤ 7 by decide)
  have hr2 := hr.mono (show 2 ≤ 7 by decide)
  have hu := hr.units
  refine ⟨_, pss_cons (ps_set (i := 8) scLw.nd rfl (Or.inr rfl) (pe_lst (pa_cons (pe_call c.GCo hr1 (by rfl) c.mCo c.FCo.kp c.bCo .nil pass0 (pa_cons (pv 5) pa_nil)) (pa_cons (pe_callTy call_list_of (by rfl) T.list boot_lst (pa_cons (pv 6) pa_nil)) pa_nil))))
    (pss_cons (ps_setC (i := 9) scLw.nd rfl (Or.inl rfl) (N := ["way", "yard", "handed"]) (cap := [none, some 3, some 8]) rfl (.of (by rfl)) (pi_range1 (by rfl) T.range (pa_cons pe_int pa_nil)) (fun _ _ _ _ => pg_name (i := 0) ndF rfl (Or.inl rfl)) (fun _ _ _ _ => pts_nil)
      (fun _ _ _ _ => pe_call c.GT hr (by rfl) c.mT c.FT.kp c.bT .nil pass0 (pa_cons (pv 1) (pa_cons (pe_ix (show IxR _ (rIxL K) from ix_list) (pv 2) pe_int (fun _ _ => rfl)) (pa_cons (pe_ix (show IxR _ (rIxL K) from ix_list) (pv 2) pe_int (fun _ _ => rfl)) (pa_cons (pv 0) pa_nil))))))
    (pss_cons (ps_if (pw_or (pt_cmpR op_neD (pv 8) (pe_lst (pa_cons (pv 5) (pa_cons (pv 6) pa_nil))) (nomark _)) (pw_or1 (pt_not (pt_val (pe_call c.GR hr2 (by rfl) c.mR c.FR.kp c.bR .nil pass0 (pa_cons (pe_meth0 (pv 3) T.cl c.eWa c.GWa hr1 c.bWa .nil pass0) (pa_cons (pe_ix ix_tup (pv 1) pe_int (fun _ _ => rfl)) pa_nil))))))).pt (pss_one (ps_ret pe_bl)) pss_nil)
    (pss_cons (ps_if (pt_cmpR (op_neD.or op_neLen) (pv 7) (pe_lst pa_nil) (nomark _)) (pss_one (ps_ret (pe_cmpR op_eqD (pv 9) (pe_lst (pa_cons (pe_tup (pa_cons pe_non (pa_cons (pv 7) pa_nil))) (pa_cons (pe_tup (pa_cons pe_non (pa_cons (pv 7) pa_nil))) pa_nil))) (nomark _)))) pss_nil)
    (pss_cons (ps_if (pw_or (pt_cmpR op_neD (pe_ix ix_tup (pe_ix ix_list (pv 9) pe_int (fun _ _ => rfl)) pe_int (fun _ _ => rfl)) (pe_lst pa_nil) (nomark _)) (pw_or (pt_cmpR op_neD (pe_ix ix_tup (pe_ix ix_list (pv 9) pe_int (fun _ _ => rfl)) pe_int (fun _ _ => rfl)) (pe_lst pa_nil) (nomark _))
        (pw_or1 (pt_not (pt_val (pe_call c.GR hr2 (by rfl) c.mR c.FR.kp c.bR .nil pass0 (pa_cons (pe_lst (pa_cons (pe_ix ix_tup (pe_ix ix_list (pv 9) pe_int (fun _ _ => rfl)) pe_int (fun _ _ => rfl)) (pa_cons (pe_ix ix_tup (pe_ix ix_list (pv 9) pe_int (fun _ _ => rfl)) pe_int (fun _ _ => rfl)) pa_nil)))
          (pa_cons (pe_lst (pa_cons (pe_ix ix_tup (pe_ix ix_list (pv 9) pe_int (fun _ _ => rfl)) pe_int (fun _ _ => rfl)) (pa_cons (pe_ix ix_tup (pe_ix ix_list (pv 9) pe_int (fun _ _ => rfl)) pe_int (fun _ _ => rfl)) pa_nil))) pa_nil)))))))).pt (pss_one (ps_ret pe_bl)) pss_nil)
    (pss_one (ps_ret (pe_and (pe_cmpR op_eq (pe_ix ix_tup (pe_ix ix_list (pv 9) pe_int (fun _ _ => rfl)) pe_int (fun _ _ => rfl)) (pe_call c.GWt hr1 (by rfl) c.mWt c.FWt.kp c.bWt .nil pass0 (pa_cons (pe_ix ix_tup (pv 1) pe_int (fun _ _ => rfl)) (pa_cons (pe_ix ix_tup (pv 1) pe_int (fun _ _ => rfl)) (pa_cons (pv 5) (pa_cons (pv 6) pa_nil))))) (nomark _))
      (pe_one (pe_cmpR op_eq (pe_ix ix_tup (pe_ix ix_list (pv 9) pe_int (fun _ _ => rfl)) pe_int (fun _ _ => rfl)) (pe_call c.GWi hr1 (by rfl) c.mWi c.FWi.kp c.bWi .nil pass0 (pa_cons (pv 5) (pa_cons (pv 6) pa_nil))) (nomark _)))))))))), ?_⟩
  intro D a m2 r hp y sz lv l q du rs held as ds li bs o2 o8 o9 H kD S hd17 hdu due
  have hn4 := S.g.n4
  have hge := S.g.eq
  have hl9 := S.l9
  -- handed
  refine ⟨_, rfl, l, as, ds, rfl, S.dr, by omega, fun l2 as2 H1 f1 f2 f3 D1 s1 => ?_⟩
  refine ⟨_, rfl, q, _, rfl, .inl (SqL.of (s1 _ _ S.ln)), fun q2 hq2 => ⟨(by show 2 ≤ sizeLine; decide), fun ha hha => ?_⟩⟩
  have sa := same_upd (o := .lst (iL li)) hq2
  have sb := same_upd (o := .lst [.ref l2, .ref q2]) hha
  have hq2' := sb _ _ (upd_same (H := H1) (a := q2) (o := .lst (iL li)))
  have hha' : (upd (upd H1 q2 (.lst (iL li))) ha (.lst [.ref l2, .ref q2])) ha = some (.lst [.ref l2, .ref q2]) := upd_same
  have sab := sa.trans sb
  have s2 := s1.trans sab
  have DA := D1.r.same sab
  generalize upd (upd H1 q2 (.lst (iL li))) ha (.lst [.ref l2, .ref q2]) = H2 at hq2' hha' sab s2 DA ⊢
  have S2 := S.same s2
  -- found
  refine ⟨_, rfl, by decide, by decide, fun Df hDf => ?_⟩
  refine comp_by 2 (sz100 (by decide)) (fun i ys τ H' => i ≤ 2 ∧ Same H2 H' ∧ H' Df = some (.lst ys) ∧ (∃ us : List Addr, ys = us.map V.ref ∧ us.length = i ∧ ∀ j u, us[j]? = some u → Told H' Df rs held ds li bs j u) ∧ ∃ o, τ = [o, some (.ref y), some (.ref ha)]) ?_ ?_ ?_ ?_
  · exact ⟨by decide, same_new hDf, upd_same, ⟨[], rfl, rfl, fun j u h => by simp at h⟩, none, rfl⟩
  · rintro i ys τ H' ⟨hi, _, hd, ⟨us, rfl, hul, _⟩, _⟩
    exact ⟨hd, by rw [List.length_map, hul]; exact Nat.le_refl _⟩
  · rintro i ys τ H' hi ⟨_, s3, hDf', ⟨us, rfl, hul, hus⟩, o, rfl⟩
    refine ⟨hi, ?_⟩
    rintro x H3 ⟨rfl, rfl⟩
    have e0 : (0 : Int) + (i : Int) = (i : Int) := by omega
    rw [e0]
    refine name_yes_if ?_
    have ST := S2.same s3
    have fin : ∀ (u : Addr) (H4 : Hp), Same H3 H4 → Told H4 Df rs held ds li bs i u → H4 Df = some (.lst (us.map V.ref)) ∧ i + 1 ≤ 2 ∧ Same H2 (upd H4 Df (.lst (us.map V.ref ++ [.ref u]))) ∧ (upd H4 Df (.lst (us.map V.ref ++ [.ref u]))) Df = some (.lst (us.map V.ref ++ [.ref u])) ∧
        (∃ us' : List Addr, us.map V.ref ++ [.ref u] = us'.map V.ref ∧ us'.length = i + 1 ∧ ∀ j u', us'[j]? = some u' → Told (upd H4 Df (.lst (us.map V.ref ++ [.ref u]))) Df rs held ds li bs j u') := by
      intro u H4 s4 hT
      have hD4 := s4 _ _ hDf'
      have ek : ∀ b o, H4 b = some o → b ≠ Df → (upd H4 Df (.lst (us.map V.ref ++ [.ref u]))) b = some o := fun b o z hb => by rw [upd_ne hb]; exact z
      refine ⟨hD4, hi, fun b o z => ?_, upd_same, us ++ [u], by rw [List.map_append]; rfl, by rw [List.length_append, hul]; rfl, fun j u' e => ?_⟩
      · rw [upd_ne (ne_of_none z hDf)]
        exact s4 _ _ (s3 _ _ z)
      · by_cases hj : j < us.length
        · rw [List.getElem?_append_left hj] at e
          exact ((hus j u' e).but hDf' (fun b o z _ => s4 _ _ z)).but hD4 ek
        · have : j = us.length := by
            have := (List.getElem?_eq_some_iff.mp e).1
            rw [List.length_append] at this
            have : j < us.length + 1 := this
            omega
          subst this
          rw [List.getElem?_append_right (Nat.le_refl _), Nat.sub_self] at e
          cases e
          rw [hul]
          exact hT.but hD4 ek
    refine ⟨_, rfl, _, rfl, ha, _, _, _, rfl, rfl, SqL.of (s3 _ _ hha'), atI_nat (j := 0) rfl, _, rfl, ha, _, _, _, rfl, rfl, SqL.of (s3 _ _ hha'), atI_nat (j := 1) rfl, _, rfl, y, sz, lv, l2, q2, rs, held, as2, ds, li, (i : Int), rfl, ST.ya, hge, by omega, DA.same s3, by omega, S.row, s3 _ _ hq2', by omega, ?_, ?_, ?_⟩
    · intro g gl lo u H4 flo hlo hu4 s4
      have eb : bs = [] := by
        rcases due with ⟨e, _⟩ | ⟨_, _, z⟩ | ⟨_, z⟩
        · exact e
        · exact absurd gl z
        · exact absurd g z
      have := fin u H4 s4 ⟨fun _ => ⟨lo, (ne_of_none hDf' flo).symm, hlo, hu4⟩, fun z => absurd eb z⟩
      exact ⟨this.1, this.2.1, this.2.2.1, this.2.2.2.1, this.2.2.2.2, _, rfl⟩
    · intro g m u H4 fm hm4 hu4 s4
      have eb : bs = [true, false, true, false] := by
        rcases due with ⟨_, z, _⟩ | ⟨_, z, _⟩ | ⟨e, _⟩
        · exact absurd z g
        · exact absurd z g
        · exact e
      subst eb
      have := fin u H4 s4 ⟨fun z => (by cases z), fun _ => ⟨m, (ne_of_none hDf' fm).symm, hm4, hu4⟩⟩
      exact ⟨this.1, this.2.1, this.2.2.1, this.2.2.2.1, this.2.2.2.2, _, rfl⟩
    · intro g gl m u H4 fm hm4 hu4 s4
      have eb : bs = [false, true, true, false] := by
        rcases due with ⟨_, _, z⟩ | ⟨e, _⟩ | ⟨_, z⟩
        · exact absurd z gl
        · exact e
        · exact absurd g z
      subst eb
      have := fin u H4 s4 ⟨fun z => (by cases z), fun _ => ⟨m, (ne_of_none hDf' fm).symm, hm4, hu4⟩⟩
      exact ⟨this.1, this.2.1, this.2.2.1, this.2.2.2.1, this.2.2.2.2, _, rfl⟩
  rintro ys τ H3 ⟨_, s3, hDf', ⟨us, rfl, hul, hus⟩, o, rfl⟩
  refine ⟨Nat.le_refl _, ?_⟩
  obtain ⟨u0, u1, rfl⟩ : ∃ u0 u1, us = [u0, u1] := by
    match us, hul with
    | [u0, u1], _ => exact ⟨u0, u1, rfl⟩
  have T0 := hus 0 u0 rfl
  have T1 := hus 1 u1 rfl
  have S3 := S2.same s3
  have s23 := s2.trans s3
  -- handed != [days, line]
  refine ⟨_, rfl, _, rfl, _, rfl, (by show 2 ≤ sizeLine; decide), fun hb hhb => ?_⟩
  have s4 := same_upd (o := .lst [.ref l, .ref q]) hhb
  have s34 := s3.trans s4
  have S4' := S3.same s4
  refine ⟨.lst [daysDt ds, .lst (li.map .int)], ⟨ha, _, rfl, SqL.of (s34 _ _ hha'), _, _, rfl, (DA.same s34).has, _, _, rfl, ⟨q2, _, rfl, SqL.of (s34 _ _ hq2'), hasInts li⟩, rfl⟩, ⟨hb, _, rfl, SqL.of upd_same, _, _, rfl, S4'.dr.has, _, _, rfl, ⟨q, _, rfl, SqL.of S4'.ln, hasInts li⟩, rfl⟩, by simp [dpD], ?_, _, rfl, iteF ?_⟩
  · have a1 := dp_days ds
    simp only [dpD, dpDs, daysDt, dpInts]
    have : max (dpDs (ds.map dayDt) + 1) (max (0 + 1) 0) + 1 ≤ 64 := by omega
    exact Nat.lt_of_le_of_lt (Nat.add_le_add_left this _) hu
  -- yard.waters()
  obtain ⟨dy, hy⟩ := S4'.ya.ob
  refine ⟨_, rfl, y, dy, _, rfl, hy, fl_no _ _ (by decide) (by decide), y, sz, lv, rs, held, rfl, S4'.ya, fun w1 hw1 => ?_⟩
  have s5 := same_upd (o := .lst (iL held)) hw1
  have S5 := S4'.same s5
  refine ⟨_, rfl, m2, _, _, _, rfl, rfl, SqT.of S5.mt, atI_nat (j := 1) rfl, w1, hp, held, rfl, upd_same, S5.mh, by omega, _, rfl, iteF ?_⟩
  have s35 := s4.trans s5
  have hdu5 := s35 _ _ (s3 _ _ (s2 _ _ hdu))
  have hDf5 := s35 _ _ hDf'
  generalize upd (upd H3 hb (.lst [.ref l, .ref q])) w1 (.lst (iL held)) = H5 at s35 S5 hdu5 hDf5 ⊢
  have T0' := T0.but hDf' (fun b o z _ => s35 b o z)
  have T1' := T1.but hDf' (fun b o z _ => s35 b o z)
  by_cases hbs : bs = []
  · subst hbs
    obtain ⟨_, dok, lok⟩ : ([] : List Bool) = [] ∧ DaysOk rs.length ds ∧ LineOk rs.length ds.length li := by
      rcases due with h | ⟨z, _⟩ | ⟨z, _⟩
      · exact h
      · cases z
      · cases z
    -- due != []
    refine ⟨_, rfl, Nat.zero_le _, fun ne hne => .inl ⟨.lst [], ⟨du, _, rfl, SqL.of (same_upd (o := .lst []) hne _ _ hdu5), rfl⟩, ⟨ne, _, rfl, SqL.of upd_same, rfl⟩, by simp [dpD], ?_, _, rfl, iteF ?_⟩⟩
    · simp only [dpD, dpDs]
      exact Nat.lt_of_le_of_lt (Nat.add_le_add_left (by decide) _) hu
    have s6 := same_upd (o := .lst []) hne
    have S6 := S5.same s6
    have hDf6 := s6 _ _ hDf5
    obtain ⟨lo0, n0, hlo0, hu0⟩ := T0'.1 rfl
    obtain ⟨lo1, n1, hlo1, hu1⟩ := T1'.1 rfl
    have k0 := s6 _ _ hlo0
    have k1 := s6 _ _ hu0
    have k2 := s6 _ _ hlo1
    have k3 := s6 _ _ hu1
    generalize upd H5 ne (.lst []) = H6 at s6 S6 hDf6 k0 k1 k2 k3 ⊢
    -- found[0][1] != []
    refine ⟨_, rfl, Df, _, _, _, rfl, rfl, SqL.of hDf6, atI_nat (j := 0) rfl, u0, _, _, _, rfl, rfl, SqT.of k1, atI_nat (j := 1) rfl, Nat.zero_le _, fun e1 he1 => ?_⟩
    have s7 := same_upd (o := .lst []) he1
    refine ⟨.lst [], ⟨lo0, _, rfl, SqL.of (s7 _ _ k0), rfl⟩, ⟨e1, _, rfl, SqL.of upd_same, rfl⟩, by simp [dpD], ?_, _, rfl, iteF ?_⟩
    · simp only [dpD, dpDs]
      exact Nat.lt_of_le_of_lt (Nat.add_le_add_left (by decide) _) hu
    refine ⟨_, rfl, Df, _, _, _, rfl, rfl, SqL.of (s7 _ _ hDf6), atI_nat (j := 1) rfl, u1, _, _, _, rfl, rfl, SqT.of (s7 _ _ k3), atI_nat (j := 1) rfl, Nat.zero_le _, fun e2 he2 => ?_⟩
    have s8 := same_upd (o := .lst []) he2
    have s78 := s7.trans s8
    refine ⟨.lst [], ⟨lo1, _, rfl, SqL.of (s78 _ _ k2), rfl⟩, ⟨e2, _, rfl, SqL.of upd_same, rfl⟩, by simp [dpD], ?_, _, rfl, iteF ?_⟩
    · simp only [dpD, dpDs]
      exact Nat.lt_of_le_of_lt (Nat.add_le_add_left (by decide) _) hu
    have S8 := S6.same s78
    have f8 := s78 _ _ hDf6
    have g0 := s78 _ _ k1
    have g1 := s78 _ _ k3
    generalize upd (upd H6 e1 (.lst [])) e2 (.lst []) = H8 at s78 S8 f8 g0 g1 ⊢
    -- _law_row
    refine ⟨_, rfl, Df, _, _, _, rfl, rfl, SqL.of f8, atI_nat (j := 0) rfl, u0, _, _, _, rfl, rfl, SqT.of g0, atI_nat (j := 0) rfl, _, rfl, Df, _, _, _, rfl, rfl, SqL.of f8, atI_nat (j := 1) rfl, u1, _, _, _, rfl, rfl, SqT.of g1, atI_nat (j := 0) rfl, (by show 2 ≤ sizeLine; decide), fun r1 hr1' => ?_⟩
    have s9 := same_upd (o := .lst [.int (vWay (decide (((0 : Nat) : Int) = 0)) rs held ds li), .int (vWay (decide (((1 : Nat) : Int) = 0)) rs held ds li)]) hr1'
    refine ⟨_, rfl, Df, _, _, _, rfl, rfl, SqL.of (s9 _ _ f8), atI_nat (j := 0) rfl, u0, _, _, _, rfl, rfl, SqT.of (s9 _ _ g0), atI_nat (j := 0) rfl, _, rfl, Df, _, _, _, rfl, rfl, SqL.of (s9 _ _ f8), atI_nat (j := 1) rfl, u1, _, _, _, rfl, rfl, SqT.of (s9 _ _ g1), atI_nat (j := 0) rfl, (by show 2 ≤ sizeLine; decide), fun r2 hr2' => ?_⟩
    have s10 := same_upd (o := .lst [.int (vWay (decide (((0 : Nat) : Int) = 0)) rs held ds li), .int (vWay (decide (((1 : Nat) : Int) = 0)) rs held ds li)]) hr2'
    have s910 := s9.trans s10
    refine ⟨r1, r2, [vWay (decide (((0 : Nat) : Int) = 0)) rs held ds li, vWay (decide (((1 : Nat) : Int) = 0)) rs held ds li], rfl, s10 _ _ upd_same, upd_same, (by show 2 ≤ 100; decide), _, rfl, iteF ?_⟩
    have S10 := S8.same s910
    have f10 := s910 _ _ f8
    have g10 := s910 _ _ g0
    have g11 := s910 _ _ g1
    generalize upd (upd H8 r1 (.lst [.int (vWay (decide (((0 : Nat) : Int) = 0)) rs held ds li), .int (vWay (decide (((1 : Nat) : Int) = 0)) rs held ds li)])) r2 (.lst [.int (vWay (decide (((0 : Nat) : Int) = 0)) rs held ds li), .int (vWay (decide (((1 : Nat) : Int) = 0)) rs held ds li)]) = H10 at s910 S10 f10 g10 g11 ⊢
    have hrow : ∀ d ∈ ds, d.1.length = rs.length ∧ d.2.length = rs.length := fun d hd => ⟨(dok.2 d hd).1.1, (dok.2 d hd).2.1⟩
    refine ⟨_, rfl, Df, _, _, _, rfl, rfl, SqL.of f10, atI_nat (j := 0) rfl, u0, _, _, _, rfl, rfl, SqT.of g10, atI_nat (j := 0) rfl, _, rfl, m2, _, _, _, rfl, rfl, SqT.of S10.mt, atI_nat (j := 0) rfl, _, rfl, m2, _, _, _, rfl, rfl, SqT.of S10.mt, atI_nat (j := 1) rfl, _, rfl, _, rfl, r, hp, l, q, rs, held, as, ds, li, rfl, S10.mr, S10.mh, S10.dr, S10.ln, hge, by omega, by omega, hrow, lok, rfl, true, ?_, iteT ?_⟩
    · show V.bl (decide (V.int (vWater rs held ds li) = V.int (vWater rs held ds li))) = V.bl true
      simp
    refine ⟨_, rfl, Df, _, _, _, rfl, rfl, SqL.of f10, atI_nat (j := 1) rfl, u1, _, _, _, rfl, rfl, SqT.of g11, atI_nat (j := 0) rfl, _, rfl, _, rfl, l, q, as, ds, li, rs.length, rfl, S10.dr, S10.ln, by omega, by omega, hrow, lok, rfl, ?_⟩
    have : decide (V.int (vWay (decide (((1 : Nat) : Int) = 0)) rs held ds li) = V.int (wisAb ds li)) = true := decide_eq_true rfl
    rw [this]
    exact kD _
  · -- refused
    have hlen : bs.length = 4 := by
      rcases due with ⟨e, _⟩ | ⟨e, _⟩ | ⟨e, _⟩
      · exact absurd e hbs
      · rw [e]; rfl
      · rw [e]; rfl
    refine ⟨_, rfl, Nat.zero_le _, fun ne hne => .inr ⟨du, ne, _, _, rfl, rfl, SqL.of (same_upd (o := .lst []) hne _ _ hdu5), SqL.of upd_same, ?_, hr.units0, _, rfl, iteT ?_⟩⟩
    · rw [List.length_map, hlen]
      decide
    have s6 := same_upd (o := .lst []) hne
    obtain ⟨m0, n0, hm0, hu0⟩ := T0'.2 hbs
    obtain ⟨m1, n1, hm1, hu1⟩ := T1'.2 hbs
    refine ⟨_, rfl, _, rfl, (by show 2 ≤ sizeLine; decide), fun ta hta => ?_⟩
    have s7 := same_upd (o := .tup [.non, .ref du]) hta
    refine ⟨_, rfl, (by show 2 ≤ sizeLine; decide), fun tb htb => ⟨(by show 2 ≤ sizeLine; decide), fun lf hlf => ?_⟩⟩
    have s8 := same_upd (o := .tup [.non, .ref du]) htb
    have s9 := same_upd (o := .lst [.ref ta, .ref tb]) hlf
    have s69 := s6.trans (s7.trans (s8.trans s9))
    have hta9 := s9 _ _ (s8 _ _ (upd_same (H := upd H5 ne (.lst [])) (a := ta) (o := .tup [.non, .ref du])))
    have htb9 := s9 _ _ (upd_same (H := upd (upd H5 ne (.lst [])) ta (.tup [.non, .ref du])) (a := tb) (o := .tup [.non, .ref du]))
    refine ⟨.lst [.tup [.non, .lst (bs.map .bl)], .tup [.non, .lst (bs.map .bl)]], ⟨Df, _, rfl, SqL.of (s69 _ _ hDf5), _, _, rfl, ⟨u0, _, rfl, SqT.of (s69 _ _ hu0), _, _, rfl, rfl, _, _, rfl, ⟨m0, _, rfl, SqL.of (s69 _ _ hm0), hasBls bs⟩, rfl⟩, _, _, rfl, ⟨u1, _, rfl, SqT.of (s69 _ _ hu1), _, _, rfl, rfl, _, _, rfl, ⟨m1, _, rfl, SqL.of (s69 _ _ hm1), hasBls bs⟩, rfl⟩, rfl⟩,
      ⟨lf, _, rfl, SqL.of upd_same, _, _, rfl, ⟨ta, _, rfl, SqT.of hta9, _, _, rfl, rfl, _, _, rfl, ⟨du, _, rfl, SqL.of (s69 _ _ hdu5), hasBls bs⟩, rfl⟩, _, _, rfl, ⟨tb, _, rfl, SqT.of htb9, _, _, rfl, rfl, _, _, rfl, ⟨du, _, rfl, SqL.of (s69 _ _ hdu5), hasBls bs⟩, rfl⟩, rfl⟩, by simp [dpD], ?_, kD _⟩
    have eb : dpDs (bs.map Dt.bl) = 0 := by
      have : ∀ cs : List Bool, dpDs (cs.map Dt.bl) = 0 := fun cs => by
        induction cs with
        | nil => simp [dpDs]
        | cons b cs ih =>
          show dpDs (Dt.bl b :: cs.map Dt.bl) = 0
          unfold dpDs
          rw [ih]
          simp [dpD]
      exact this bs
    simp only [dpD, dpDs, eb]
    exact Nat.lt_of_le_of_lt (Nat.add_le_add_left (by decide) _) hu
end
end Z

set_option Elab.async false
set_option linter.all false
set_option maxRecDepth 100000
set_option maxHeartbeats 8000000
namespace Z
open PySem L2
section
variable {P : Program} {w : World} {K : PySem.W.Frag} {mg : Str → Option Value} {base : Heap} {C cY cB cD cL cT : Addr}
variable {f fD fLs fSp fCo fT fR fWt fWi fWa : Addr} {fdD fdLs fdSp fdCo fdT fdR fdWt fdWi fdWa : FuncData}
theorem tl11 (T : Txt K mg C cY cB cD cL cT) (c : Cs P w K mg base C fD fLs fSp fCo fT fR fWt fWi fWa fdD fdLs fdSp fdCo fdT fdR fdWt fdWi fdWa) {cdv : Value} {A : Around} {outer : List Env} {s : Shared} {H0 : Hp} {E : XK} (hr : Room 7 (A.deeper (PyProof.Rows.envOfC "law" (defScope sLaw) s.heap.objs.size f cdv))) :
    ∃ t, PSs (cxL P w K mg base f cdv A outer s H0 E) ((defBody sLaw).drop 11) t ∧ ∀ (D : Ends) (a m2 r hp y sz lv l q du : Addr) (ns rs held : List Int) (as : List A3) (ds : List Day) (li : List Int) (bs : List Bool) (o2 o8 o9 : Option V) (H : Hp), (∀ H', D.rt (.bl true) H') → SqL K H0 a (iL ns) → ns.length ≤ 63 → S4 C H0 H a m2 r hp y sz lv l q rs held as ds li → ds.length ≤ 8 → H du = some (.lst (bs.map V.bl)) → DueIs rs.length ds li bs →
      t D [some (.ref a), some (.ref m2), o2, some (.ref y), some (.int (rs.length : Int)), some (.ref l), some (.ref q), some (.ref du), o8, o9] H := by
  have hr1 := hr.mono (show 1 ≤ 7 by decide)
  obtain ⟨t2, h2, k2⟩ := tl12 (f := f) (H0 := H0) (E := E) (outer := outer) T c hr
  refine ⟨_, pss_cons (ps_if (pt_cmpR op_eq (pe_call c.GD hr1 (by rfl) c.mD c.FD.kp c.bD .nil pass0 (pa_cons (pv 0) (pa_cons pe_int (pa_cons pe_int pa_nil)))) pe_int (nomark _))
      (pss_cons (ps_set (i := 5) scLw.nd rfl (Or.inl rfl) (pe_op op_cat (pv 5) (pe_comp (N := ["k", "many"]) (cap := [none, some 4]) rfl (.of (by rfl)) (pi_range1 (by rfl) T.range (pa_cons (pe_op op_sub pe_int (pe_callB call_len_seq (by rfl) T.len PySem.boot_len (pa_cons (pv 5) pa_nil))) pa_nil)) (fun _ _ _ _ => pg_name (i := 0) ndE rfl (Or.inl rfl)) (fun _ _ _ _ => pts_nil)
        (fun _ _ _ _ => pe_tup (pa_cons (pe_op op_rep (pe_lst (pa_cons pe_int pa_nil)) (pv 1)) (pa_cons (pe_op op_rep (pe_lst (pa_cons pe_int pa_nil)) (pv 1)) pa_nil))))))
      (pss_one (ps_set (i := 7) scLw.nd rfl (Or.inl rfl) (pe_lst (pa_cons pe_bl (pa_cons pe_bl (pa_cons pe_bl (pa_cons pe_bl pa_nil)))))))) pss_nil) h2, ?_⟩
  intro D a m2 r hp y sz lv l q du ns rs held as ds li bs o2 o8 o9 H kD hs hnl S hd8 hdu due
  have hn4 := S.g.n4
  refine ⟨_, rfl, a, ns, _, _, rfl, seq_keep hs S.sc, hnl, by omega, by omega, by decide, fun cc c0 c1 => ⟨rfl, _, rfl, ?_⟩⟩
  refine ite2 (fun h1 => ?_) (fun h1 => k2 D a m2 r hp y sz lv l q du rs held as ds li bs _ _ _ H kD S (by omega) hdu due)
  have el : ((as.map fun a => V.ref a.1).length : Int) = (ds.length : Int) := by rw [List.length_map, S.dr.len]
  refine ⟨_, rfl, _, rfl, l, _, rfl, .inl (SqL.of S.dr.lst), _, _, rfl, rfl, _, rfl, by omega, by omega, fun Dm hDm => ?_⟩
  have en : ((9 : Int) - ((as.map fun a => V.ref a.1).length : Int)).toNat = 9 - ds.length := by omega
  rw [en]
  have zr : (List.replicate (rs.length : Int).toNat [V.int 0]).flatten = iL (List.replicate rs.length 0) := by rw [Int.toNat_natCast]; exact rep0 _
  refine comp_by (9 - ds.length) (sz100 (by omega)) (fun i ys τ H' => i ≤ 9 - ds.length ∧ Same H H' ∧ (∃ bs : List A3, ys = (bs.map fun a => V.ref a.1) ∧ DaysAt H' Dm bs (List.replicate i (List.replicate rs.length 0, List.replicate rs.length 0)) ∧ ∀ x ∈ bs, Dm ≠ x.2.1 ∧ Dm ≠ x.2.2) ∧ ∃ o, τ = [o, some (.int (rs.length : Int))]) ?_ ?_ ?_ ?_
  · exact ⟨Nat.zero_le _, same_new hDm, ⟨[], rfl, ⟨rfl, upd_same, by simp, fun i a d h => by simp at h, List.nodup_nil⟩, by simp⟩, none, rfl⟩
  · rintro i ys τ H' ⟨hi, s1, ⟨bs, rfl, DA, _⟩, _⟩
    refine ⟨DA.lst, ?_⟩
    rw [List.length_map, DA.len, List.length_replicate]
    exact Nat.le_refl _
  · rintro i ys τ H' hi ⟨_, s1, ⟨bs, rfl, DA, ap⟩, o, rfl⟩
    refine ⟨hi, ?_⟩
    rintro x H3 ⟨rfl, rfl⟩
    refine name_yes_if ?_
    refine ⟨(by show 1 ≤ sizeLine; decide), fun z1 hz1 => ⟨_, rfl, z1, _, _, rfl, rfl, upd_same, by omega, by omega, sz100 (by rw [Int.toNat_natCast]; show 1 * rs.length ≤ 100; omega), fun p1 hp1 => ?_⟩⟩
    rw [zr]
    have sa := same_upd (o := .lst [.int 0]) hz1
    have sb := same_upd (o := .lst (iL (List.replicate rs.length 0))) hp1
    refine ⟨(by show 1 ≤ sizeLine; decide), fun z2 hz2 => ⟨_, rfl, z2, _, _, rfl, rfl, upd_same, by omega, by omega, sz100 (by rw [Int.toNat_natCast]; show 1 * rs.length ≤ 100; omega), fun q1 hq1 => ?_⟩⟩
    rw [zr]
    have sc := same_upd (o := .lst [.int 0]) hz2
    have sd := same_upd (o := .lst (iL (List.replicate rs.length 0))) hq1
    refine ⟨(by show 2 ≤ sizeLine; decide), fun t1 ht1 => ?_⟩
    have se := same_upd (o := .tup [.ref p1, .ref q1]) ht1
    have sad := sa.trans (sb.trans (sc.trans sd))
    have s3 := sad.trans se
    have hp1' : H3 p1 = none := sa.free hp1
    have hq1' : H3 q1 = none := (sa.trans (sb.trans sc)).free hq1
    have ht1' : H3 t1 = none := sad.free ht1
    have hp3 := se _ _ (sd _ _ (sc _ _ (upd_same (H := upd H3 z1 (.lst [.int 0])) (a := p1) (o := .lst (iL (List.replicate rs.length 0))))))
    have hq3 := se _ _ (upd_same (H := upd (upd (upd H3 z1 (.lst [.int 0])) p1 (.lst (iL (List.replicate rs.length 0)))) z2 (.lst [.int 0])) (a := q1) (o := .lst (iL (List.replicate rs.length 0))))
    have npq : p1 ≠ q1 := ne_of_none (sc _ _ (upd_same (H := upd H3 z1 (.lst [.int 0])) (a := p1) (o := .lst (iL (List.replicate rs.length 0))))) hq1
    have ht3 : (upd (upd (upd (upd (upd H3 z1 (.lst [.int 0])) p1 (.lst (iL (List.replicate rs.length 0)))) z2 (.lst [.int 0])) q1 (.lst (iL (List.replicate rs.length 0)))) t1 (.tup [.ref p1, .ref q1])) t1 = some (.tup [.ref p1, .ref q1]) := upd_same
    generalize upd (upd (upd (upd (upd H3 z1 (.lst [.int 0])) p1 (.lst (iL (List.replicate rs.length 0)))) z2 (.lst [.int 0])) q1 (.lst (iL (List.replicate rs.length 0)))) t1 (.tup [.ref p1, .ref q1]) = H4 at s3 hp3 hq3 ht3 ⊢
    have nDp : Dm ≠ p1 := ne_of_none DA.lst hp1'
    have nDq : Dm ≠ q1 := ne_of_none DA.lst hq1'
    have nDt : Dm ≠ t1 := ne_of_none DA.lst ht1'
    refine ⟨s3 _ _ DA.lst, hi, fun b o z => ?_, ⟨bs ++ [(t1, p1, q1)], ?_, ?_, fun x hx => ?_⟩, _, rfl⟩
    · rw [upd_ne (ne_of_none z hDm)]
      exact s3 _ _ (s1 _ _ z)
    · rw [List.map_append]
      rfl
    · rw [List.replicate_succ']
      exact DA.more hp1' hq1' npq upd_same (by rw [upd_ne nDt.symm]; exact ht3) (by rw [upd_ne nDp.symm]; exact hp3) (by rw [upd_ne nDq.symm]; exact hq3) (fun b o z hb => by rw [upd_ne hb]; exact s3 _ _ z) ap
    · rcases List.mem_append.mp hx with z | z
      · exact ap x z
      · rw [List.mem_singleton.mp z]
        exact ⟨nDp, nDq⟩
  rintro ys τ H3 ⟨_, s1, ⟨bs2, rfl, DA, ap⟩, o, rfl⟩
  refine ⟨Nat.le_refl _, ?_⟩
  have S1 := S.same s1
  have hbl : (bs2.map fun a => V.ref a.1).length ≤ 9 := by rw [List.length_map, DA.len, List.length_replicate]; omega
  have hal : (as.map fun a => V.ref a.1).length ≤ 8 := by omega
  refine ⟨l, Dm, _, _, rfl, rfl, S1.dr.lst, DA.lst, sz100 (by omega), fun l3 hl3 => ?_⟩
  have s2 := same_upd (o := .lst ((as.map fun a => V.ref a.1) ++ bs2.map fun a => V.ref a.1)) hl3
  refine ⟨(by show 4 ≤ sizeLine; decide), fun du2 hdu2 => ?_⟩
  have s3 := same_upd (o := .lst [.bl true, .bl false, .bl true, .bl false]) hdu2
  have s23 := s2.trans s3
  have S3 := S1.same s23
  have DR3 := DaysR.append (S3.dr) (DA.r.same s23) (s3 _ _ (upd_same (H := H3) (a := l3) (o := .lst ((as.map fun a => V.ref a.1) ++ bs2.map fun a => V.ref a.1))))
  have hlen : (ds ++ List.replicate (9 - ds.length) (List.replicate rs.length (0 : Int), List.replicate rs.length (0 : Int))).length = 9 := by rw [List.length_append, List.length_replicate]; omega
  refine k2 D a m2 r hp y sz lv l3 q du2 rs held _ _ li [true, false, true, false] _ _ _ _ kD ⟨S3.sc, S3.mt, S3.mr, S3.mh, S3.ya, S3.g, DR3, S3.ln, S3.l9, fun d hd => ?_⟩ (by omega) upd_same (.inr (.inr ⟨rfl, fun z => ?_⟩))
  · rcases List.mem_append.mp hd with z | z
    · exact S.row d z
    · rw [List.eq_of_mem_replicate z, List.length_replicate]
      omega
  · have := z.1
    omega
theorem tl10 (T : Txt K mg C cY cB cD cL cT) (c : Cs P w K mg base C fD fLs fSp fCo fT fR fWt fWi fWa fdD fdLs fdSp fdCo fdT fdR fdWt fdWi fdWa) {cdv : Value} {A : Around} {outer : List Env} {s : Shared} {H0 : Hp} {E : XK} (hr : Room 7 (A.deeper (PyProof.Rows.envOfC "law" (defScope sLaw) s.heap.objs.size f cdv))) :
    ∃ t, PSs (cxL P w K mg base f cdv A outer s H0 E) ((defBody sLaw).drop 10) t ∧ ∀ (D : Ends) (a m2 r hp y sz lv l q du : Addr) (ns rs held : List Int) (as : List A3) (ds : List Day) (li : List Int) (bs : List Bool) (o2 o8 o9 : Option V) (H : Hp), (∀ H', D.rt (.bl true) H') → SqL K H0 a (iL ns) → ns.length ≤ 63 → S4 C H0 H a m2 r hp y sz lv l q rs held as ds li → ds.length ≤ 8 → H du = some (.lst (bs.map V.bl)) → DueIs rs.length ds li bs →
      DaysOk rs.length ds → (rowsOf as).Nodup → (∀ x ∈ as, l ≠ x.2.1 ∧ l ≠ x.2.2) → (∀ b ∈ rowsOf as, H0 b = none ∧ b ≠ r ∧ b ≠ hp ∧ b ≠ sz ∧ b ≠ lv ∧ b ≠ q) →
      t D [some (.ref a), some (.ref m2), o2, some (.ref y), some (.int (rs.length : Int)), some (.ref l), some (.ref q), some (.ref du), o8, o9] H := by
  have hr1 := hr.mono (show 1 ≤ 7 by decide)
  have hr2 := hr.mono (show 2 ≤ 7 by decide)
  obtain ⟨t2, h2, k2⟩ := tl11 (f := f) (H0 := H0) (E := E) (outer := outer) T c hr
  refine ⟨_, pss_cons (ps_if (pw_and (pt_cmpR op_gt (pe_callB call_len_seq (by rfl) T.len PySem.boot_len (pa_cons (pv 5) pa_nil)) pe_int (nomark _)) (pw_and1 (pt_cmpR op_eq (pe_call c.GD hr1 (by rfl) c.mD c.FD.kp c.bD .nil pass0 (pa_cons (pv 0) (pa_cons pe_int (pa_cons pe_int pa_nil)))) pe_int (nomark _)))).pt
      (pss_cons (ps_expr (pe_call c.GSp hr2 (by rfl) c.mSp c.FSp.kp c.bSp .nil pass0 (pa_cons (pv 0) (pa_cons (pe_ix ix_tup (pe_ix ix_list (pv 5) (pe_call c.GD hr1 (by rfl) c.mD c.FD.kp c.bD .nil pass0 (pa_cons (pv 0) (pa_cons pe_int (pa_cons (pe_callB call_len_seq (by rfl) T.len PySem.boot_len (pa_cons (pv 5) pa_nil)) pa_nil)))) (fun _ _ => rfl)) (pe_call c.GD hr1 (by rfl) c.mD c.FD.kp c.bD .nil pass0 (pa_cons (pv 0) (pa_cons pe_int (pa_cons pe_int pa_nil)))) (fun _ _ => rfl)) pa_nil))))
      (pss_one (ps_set (i := 7) scLw.nd rfl (Or.inl rfl) (pe_lst (pa_cons pe_bl (pa_cons pe_bl (pa_cons pe_bl (pa_cons pe_bl pa_nil)))))))) pss_nil) h2, ?_⟩
  intro D a m2 r hp y sz lv l q du ns rs held as ds li bs o2 o8 o9 H kD hs hnl S hd8 hdu due dok nd ap aw
  have hn4 := S.g.n4
  have hn1 := S.g.n1
  have hsc := seq_keep hs S.sc
  have el : ((as.map fun a => V.ref a.1).length : Int) = (ds.length : Int) := by rw [List.length_map, S.dr.len]
  refine ⟨_, rfl, l, _, rfl, .inl (SqL.of S.dr.lst), _, _, rfl, rfl, _, rfl, ?_⟩
  refine ite2 (fun h1 => ?_) (fun h1 => iteF (k2 D a m2 r hp y sz lv l q du ns rs held as ds li bs _ _ _ H kD hs hnl S hd8 hdu due))
  have h1 := of_decide_eq_true h1
  refine ⟨_, rfl, a, ns, _, _, rfl, hsc, hnl, by omega, by omega, by decide, fun cc c0 c1 => ⟨rfl, _, rfl, ?_⟩⟩
  refine ite2 (fun h3 => ?_) (fun h3 => k2 D a m2 r hp y sz lv l q du ns rs held as ds li bs _ _ _ H kD hs hnl S hd8 hdu due)
  refine ⟨_, rfl, _, rfl, _, rfl, _, rfl, l, _, rfl, .inl (SqL.of S.dr.lst), a, ns, _, _, rfl, hsc, hnl, by omega, by omega, by omega, fun c2 c20 c21 => ?_⟩
  obtain ⟨i, rfl⟩ : ∃ i : Nat, c2 = (i : Int) := ⟨c2.toNat, by omega⟩
  have hi : i < ds.length := by omega
  obtain ⟨td, p, p2, d, ha, hv, hd, htd, hp', hq'⟩ := S.dr.at hi
  have dk := dok.2 d (List.mem_of_getElem? hd)
  have hin := rows_in ha
  refine ⟨l, _, _, _, rfl, rfl, SqL.of S.dr.lst, atI_nat hv, ?_⟩
  refine ⟨_, rfl, a, ns, _, _, rfl, hsc, hnl, by omega, by omega, by decide, fun c3 c30 c31 => ?_⟩
  obtain ⟨b, zs, hb, hat, hbz, hrow⟩ : ∃ (b : Addr) (zs : List Int), (b = p ∨ b = p2) ∧ atI [V.ref p, .ref p2] c3 = some (.ref b) ∧ H b = some (.lst (iL zs)) ∧ RowOk rs.length zs := by
    have : c3 = 0 ∨ c3 = 1 := by omega
    rcases this with rfl | rfl
    · exact ⟨p, d.1, .inl rfl, rfl, hp', dk.1⟩
    · exact ⟨p2, d.2, .inr rfl, rfl, hq', dk.2⟩
  have hbr : b ∈ rowsOf as := by
    rcases hb with rfl | rfl
    · exact hin.1
    · exact hin.2
  obtain ⟨f0, b1, b2, b3, b4, b5⟩ := aw b hbr
  refine ⟨td, _, _, _, rfl, rfl, SqT.of htd, hat, a, b, ns, zs, rs.length, rfl, hsc, hnl, hbz, hrow, hn1, hn4, fun zs' H' hz' hzl bad kp => ?_⟩
  have DA : DaysAt H l as ds := ⟨S.dr.len, S.dr.lst, S.dr.tup, S.dr.row, nd⟩
  have DR2 := DA.row1 ha hd ap zs' b hb kp hz'
  obtain ⟨dy, hy⟩ := S.ya.ob
  have SB : S4 C H0 H' a m2 r hp y sz lv l q rs held as (ds.set i (if b = p then (zs', d.2) else (d.1, zs'))) li := by
    refine ⟨fun o z => kp _ _ (S.sc o z) (ne_of_none z f0), kp _ _ S.mt (ne_of S.mt hbz (by nofun)), kp _ _ S.mr b1.symm, kp _ _ S.mh b2.symm, ⟨⟨dy, kp _ _ hy (ne_of hy hbz (by nofun))⟩, kp _ _ S.ya.sz b3.symm, kp _ _ S.ya.lv b4.symm⟩, S.g, DR2, kp _ _ S.ln b5.symm, S.l9, fun e he => ?_⟩
    rcases List.mem_or_eq_of_mem_set he with z | z
    · exact S.row e z
    · have r0 := S.row d (List.mem_of_getElem? hd)
      subst z
      split
      · exact ⟨by show zs'.length ≤ 100; omega, r0.2⟩
      · exact ⟨r0.1, by show zs'.length ≤ 100; omega⟩
  refine ⟨(by show 4 ≤ sizeLine; decide), fun du2 hdu2 => ?_⟩
  have s3 := same_upd (o := .lst [.bl true, .bl false, .bl true, .bl false]) hdu2
  refine k2 D a m2 r hp y sz lv l q du2 ns rs held as _ li [true, false, true, false] _ _ _ _ kD hs hnl (SB.same s3) (by rw [List.length_set]; exact hd8) upd_same (.inr (.inr ⟨rfl, fun z => ?_⟩))
  have hm : (if b = p then (zs', d.2) else (d.1, zs')) ∈ ds.set i (if b = p then (zs', d.2) else (d.1, zs')) := List.mem_of_getElem? (List.getElem?_set_self hi)
  have := z.2 _ hm
  by_cases hbp : b = p
  · rw [if_pos hbp] at this
    exact bad this.1
  · rw [if_neg hbp] at this
    exact bad this.2
theorem tl9 (T : Txt K mg C cY cB cD cL cT) (c : Cs P w K mg base C fD fLs fSp fCo fT fR fWt fWi fWa fdD fdLs fdSp fdCo fdT fdR fdWt fdWi fdWa) {cdv : Value} {A : Around} {outer : List Env} {s : Shared} {H0 : Hp} {E : XK} (hr : Room 7 (A.deeper (PyProof.Rows.envOfC "law" (defScope sLaw) s.heap.objs.size f cdv))) :
    ∃ t, PSs (cxL P w K mg base f cdv A outer s H0 E) ((defBody sLaw).drop 9) t ∧ ∀ (D : Ends) (a m2 r hp y sz lv l q du : Addr) (ns rs held : List Int) (as : List A3) (ds : List Day) (li : List Int) (o2 o8 o9 : Option V) (H : Hp), (∀ H', D.rt (.bl true) H') → SqL K H0 a (iL ns) → ns.length ≤ 63 → S4 C H0 H a m2 r hp y sz lv l q rs held as ds li → ds.length ≤ 8 → H du = some (.lst []) →
      DaysOk rs.length ds → (rowsOf as).Nodup → (∀ x ∈ as, l ≠ x.2.1 ∧ l ≠ x.2.2) → (∀ b ∈ rowsOf as, H0 b = none ∧ b ≠ r ∧ b ≠ hp ∧ b ≠ sz ∧ b ≠ lv ∧ b ≠ q) →
      t D [some (.ref a), some (.ref m2), o2, some (.ref y), some (.int (rs.length : Int)), some (.ref l), some (.ref q), some (.ref du), o8, o9] H := by
  obtain ⟨t2, h2, k2⟩ := tl10 (f := f) (H0 := H0) (E := E) (outer := outer) T c hr
  refine ⟨_, pss_cons (ps_if (pw_or (pt_cmpR op_ne (pe_callB call_len_seq (by rfl) T.len PySem.boot_len (pa_cons (pv 6) pa_nil)) (pe_callB call_len_seq (by rfl) T.len PySem.boot_len (pa_cons (pv 5) pa_nil)) (nomark _))
      (pw_or (pt_cmpR op_lt (pe_callKD (minD_ok rfl) (by rfl) T.min boot_min (pa_cons (pv 6) pa_nil) pe_int) pe_int (nomark _))
      (pw_or1 (pt_cmpR op_gt (pe_callKD (maxD_ok rfl) (by rfl) T.max boot_max (pa_cons (pv 6) pa_nil) pe_int) (pv 4) (nomark _))))).pt
      (pss_one (ps_set (i := 7) scLw.nd rfl (Or.inl rfl) (pe_lst (pa_cons pe_bl (pa_cons pe_bl (pa_cons pe_bl (pa_cons pe_bl pa_nil))))))) pss_nil) h2, ?_⟩
  intro D a m2 r hp y sz lv l q du ns rs held as ds li o2 o8 o9 H kD hs hnl S hd8 hdu dok nd ap aw
  have el : ((as.map fun a => V.ref a.1).length : Int) = (ds.length : Int) := by rw [List.length_map, S.dr.len]
  have ell : ((iL li).length : Int) = (li.length : Int) := by rw [List.length_map]
  -- refused
  have bad : ¬ LineOk rs.length ds.length li → ∀ du2, H du2 = none → t2 D [some (.ref a), some (.ref m2), o2, some (.ref y), some (.int (rs.length : Int)), some (.ref l), some (.ref q), some (.ref du2), o8, o9] (upd H du2 (.lst [.bl false, .bl true, .bl true, .bl false])) := by
    intro nb du2 hdu2
    have s3 := same_upd (o := .lst [.bl false, .bl true, .bl true, .bl false]) hdu2
    exact k2 D a m2 r hp y sz lv l q du2 ns rs held as ds li [false, true, true, false] _ _ _ _ kD hs hnl (S.same s3) hd8 upd_same (.inr (.inl ⟨rfl, dok, nb⟩)) dok nd ap aw
  refine ⟨_, rfl, q, _, rfl, .inl (SqL.of S.ln), _, rfl, l, _, rfl, .inl (SqL.of S.dr.lst), rfl, _, rfl, ?_⟩
  refine ite2 (fun h1 => iteT ⟨(by show 4 ≤ sizeLine; decide), fun du2 hdu2 => bad (fun z => ?_) du2 hdu2⟩) (fun h1 => ?_)
  · have := ne_t h1
    have := z.2
    omega
  have h1 : li.length = ds.length := by
    have := ne_f h1
    omega
  refine ⟨_, rfl, q, li, 0, rfl, rfl, SqL.of S.ln, fun mn m1 m2' => ⟨_, _, rfl, rfl, _, rfl, ?_⟩⟩
  refine ite2 (fun h3 => iteT ⟨(by show 4 ≤ sizeLine; decide), fun du2 hdu2 => bad (fun z => ?_) du2 hdu2⟩) (fun h3 => ?_)
  · have h3 := of_decide_eq_true h3
    by_cases he : li = []
    · have := m1 he
      omega
    · have := z.1 _ (m2' he).1
      omega
  have h3 : ¬ mn < 0 := fun z => h3 (decide_eq_true z)
  refine ⟨_, rfl, q, li, 0, rfl, rfl, SqL.of S.ln, fun mx x1 x2 => ⟨_, rfl, _, _, rfl, rfl, _, rfl, ?_⟩⟩
  refine ite2 (fun h4 => ⟨(by show 4 ≤ sizeLine; decide), fun du2 hdu2 => bad (fun z => ?_) du2 hdu2⟩) (fun h4 => ?_)
  · have h4 := of_decide_eq_true h4
    by_cases he : li = []
    · have := x1 he
      omega
    · have := z.1 _ (x2 he).1
      omega
  have h4 : ¬ (rs.length : Int) < mx := fun z => h4 (decide_eq_true z)
  refine k2 D a m2 r hp y sz lv l q du ns rs held as ds li [] _ _ _ H kD hs hnl S hd8 hdu (.inl ⟨rfl, dok, fun v hv => ?_, h1⟩) dok nd ap aw
  have he : li ≠ [] := fun z => by rw [z] at hv; simp at hv
  have a1 := (m2' he).2 v hv
  have a2 := (x2 he).2 v hv
  omega
theorem ok_lw {fY fB fL : Addr} {fd fdY fdB fdL : FuncData} (F : Fun K "law" "law" sLaw f fd) (T : Txt K mg C cY cB cD cL cT) (c : Cs P w K mg base C fD fLs fSp fCo fT fR fWt fWi fWa fdD fdLs fdSp fdCo fdT fdR fdWt fdWi fdWa)
    (FY : Fun K "_law_yard_by" "_law_yard_by" sYardBy fY fdY) (bY : Binds K fdY ["script", "base"] []) (mY : mg "_law_yard_by" = some (.ref fY)) (GY : FnOk P w K mg base CX0 2 fY fdY ["script", "base"] (spYardBy K))
    (FB : Fun K "_law_days_by" "_law_days_by" sDaysBy fB fdB) (bB : Binds K fdB ["script", "base", "many", "bound"] []) (mB : mg "_law_days_by" = some (.ref fB)) (GB : FnOk P w K mg base CX0 2 fB fdB ["script", "base", "many", "bound"] (spDaysBy K))
    (FL : Fun K "_law_lived" "_law_lived" sLived fL fdL) (bL : Binds K fdL ["script", "rooms", "waters"] []) (mL : mg "_law_lived" = some (.ref fL)) (GL : FnOk P w K mg base CX0 6 fL fdL ["script", "rooms", "waters"] (spLived K C)) :
    FnOk P w K mg base CX0 8 f fd ["script"] (spLaw K) := by
  refine F.ok scLw (fun vs H Q E h => ?_) (fun cdv A outer s H vs Q E hr h => ?_)
  · obtain ⟨a, ns, rfl, _⟩ := h
    rfl
  · obtain ⟨a, ns, rfl, hs, hl, k⟩ := h
    have hr1 := hr.mono (show 1 ≤ 7 by decide)
    have hr2 := hr.mono (show 2 ≤ 7 by decide)
    have hr6 := hr.mono (show 6 ≤ 7 by decide)
    obtain ⟨t9, h9, k9⟩ := tl9 (f := f) (H0 := H) (E := E) (outer := outer) T c hr
    refine ⟨_, pss_cons (ps_set (i := 1) scLw.nd rfl (Or.inl rfl) (pe_call GY hr2 (by rfl) mY FY.kp bY .nil pass0 (pa_cons (pv 0) (pa_cons pe_int pa_nil))))
      (pss_cons (ps_set (i := 2) scLw.nd rfl (Or.inl rfl) (pe_call GL hr6 (by rfl) mL FL.kp bL .nil pass0 (pa_cons (pv 0) (pa_cons (pe_ix ix_tup (pv 1) pe_int (fun _ _ => rfl)) (pa_cons (pe_ix ix_tup (pv 1) pe_int (fun _ _ => rfl)) pa_nil)))))
      (pss_cons (ps_set (i := 1) scLw.nd rfl (Or.inl rfl) (pe_tup (pa_cons (pe_ix ix_tup (pv 1) pe_int (fun _ _ => rfl)) (pa_cons (pe_ix ix_tup (pv 2) pe_int (fun _ _ => rfl)) pa_nil))))
      (pss_cons (ps_set (i := 3) scLw.nd rfl (Or.inr rfl) (pe_ix ix_tup (pv 2) pe_int (fun _ _ => rfl)))
      (pss_cons (ps_set (i := 4) scLw.nd rfl (Or.inr rfl) (pe_callB call_len_seq (by rfl) T.len PySem.boot_len (pa_cons (pe_ix ix_tup (pv 1) pe_int (fun _ _ => rfl)) pa_nil)))
      (pss_cons (ps_set (i := 5) scLw.nd rfl (Or.inl rfl) (pe_call GB hr2 (by rfl) mB FB.kp bB .nil pass0 (pa_cons (pv 0) (pa_cons pe_int (pa_cons (pv 4) (pa_cons pe_int pa_nil))))))
      (pss_cons (ps_setC (i := 6) scLw.nd rfl (Or.inl rfl) (N := ["k", "script", "many"]) (cap := [none, some 0, some 4]) rfl (.of (by rfl)) (pi_range1 (by rfl) T.range (pa_cons (pe_callB call_len_seq (by rfl) T.len PySem.boot_len (pa_cons (pv 5) pa_nil)) pa_nil))
          (fun _ _ _ _ => pg_name (i := 0) ndL rfl (Or.inl rfl)) (fun _ _ _ _ => pts_nil)
          (fun _ _ _ _ => pe_call c.GD hr1 (by rfl) c.mD c.FD.kp c.bD .nil pass0 (pa_cons (pv 1) (pa_cons (pe_op op_add pe_int (pv 0)) (pa_cons (pe_op op_add (pv 2) pe_int) pa_nil)))))
      (pss_cons (ps_set (i := 7) scLw.nd rfl (Or.inl rfl) (pe_lst pa_nil))
      (pss_cons (ps_if (pt_cmpR op_eq (pe_call c.GD hr1 (by rfl) c.mD c.FD.kp c.bD .nil pass0 (pa_cons (pv 0) (pa_cons pe_int (pa_cons pe_int pa_nil)))) pe_int (nomark _)) (pss_one (ps_expr (pe_call c.GLs hr2 (by rfl) c.mLs c.FLs.kp c.bLs .nil pass0 (pa_cons (pv 0) (pa_cons (pv 6) (pa_cons (pv 4) pa_nil)))))) pss_nil)
      h9)))))))), ?_⟩
    -- made
    refine ⟨_, rfl, a, ns, 0, rfl, hs, hl, by decide, by decide, fun m r u rs ws H1 fm fr fu nru hm hr0 hu0 g0 s1 => ?_⟩
    -- lived
    refine ⟨_, rfl, _, rfl, m, _, _, _, rfl, rfl, SqT.of hm, atI_nat (j := 0) rfl, _, rfl, m, _, _, _, rfl, rfl, SqT.of hm, atI_nat (j := 1) rfl, a, r, u, ns, rs, ws, rfl, s1.seq hs, hl, hr0, hu0, g0, fun t y sz lv hp held H2 ft ht Y hh g s2 => ?_⟩
    -- made
    refine ⟨_, rfl, m, _, _, _, rfl, rfl, SqT.of (s2 _ _ hm), atI_nat (j := 0) rfl, _, rfl, t, _, _, _, rfl, rfl, SqT.of ht, atI_nat (j := 1) rfl, (by show 2 ≤ sizeLine; decide), fun m2 hm2 => ?_⟩
    have s3 := same_upd (o := .tup [.ref r, .ref hp]) hm2
    have hm2' : (upd H2 m2 (.tup [.ref r, .ref hp])) m2 = some (.tup [.ref r, .ref hp]) := upd_same
    have ht3 := s3 _ _ ht
    have Y3 := Y.same s3
    have hh3 := s3 _ _ hh
    have hr3 := s3 _ _ (s2 _ _ hr0)
    have s13 := s1.trans (s2.trans s3)
    generalize upd H2 m2 (.tup [.ref r, .ref hp]) = H3 at s3 hm2' ht3 Y3 hh3 hr3 s13 ⊢
    -- yard, many
    refine ⟨_, rfl, t, _, _, _, rfl, rfl, SqT.of ht3, atI_nat (j := 0) rfl, ?_⟩
    refine ⟨_, rfl, m2, _, _, _, rfl, rfl, SqT.of hm2', atI_nat (j := 0) rfl, r, _, rfl, .inl (SqL.of hr3), ?_⟩
    rw [List.length_map]
    have hn4 := g.n4
    have hn1 := g.n1
    -- days
    refine ⟨_, rfl, _, rfl, a, ns, 20, rs.length, 8, rfl, s13.seq hs, hl, by decide, by decide, hn4, by decide, fun l as ds H4 fl0 fas ln DA hdl dok s4 => ?_⟩
    have s14 := s13.trans s4
    have el : ((as.map fun a => V.ref a.1).length : Int) = (ds.length : Int) := by rw [List.length_map, DA.len]
    -- line
    refine ⟨_, rfl, l, _, rfl, .inl (SqL.of DA.lst), _, rfl, by omega, by omega, fun q hq => ?_⟩
    have en : ((as.map fun a => V.ref a.1).length : Int).toNat = ds.length := by omega
    rw [en]
    refine comp_by ds.length (sz100 (by omega)) (fun j ys τ H5 => j ≤ ds.length ∧ (∃ li : List Int, ys = iL li ∧ li.length = j) ∧ H5 = upd H4 q (.lst ys) ∧ ∃ o, τ = [o, some (.ref a), some (.int (rs.length : Int))]) ?_ ?_ ?_ ?_
    · exact ⟨Nat.zero_le _, ⟨[], rfl, rfl⟩, rfl, none, rfl⟩
    · rintro j ys τ H5 ⟨hj, ⟨li, rfl, hrl⟩, rfl, _⟩
      exact ⟨upd_same, by rw [List.length_map, hrl]; exact Nat.le_refl _⟩
    · rintro j ys τ H5 hj ⟨_, ⟨li, rfl, hrl⟩, rfl, o, rfl⟩
      refine ⟨hj, ?_⟩
      rintro x H6 ⟨rfl, rfl⟩
      refine name_yes_if ?_
      refine ⟨_, rfl, _, rfl, _, _, rfl, rfl, _, rfl, _, _, rfl, rfl, a, ns, _, _, rfl, (same_upd hq).seq (s14.seq hs), hl, by omega, by omega, by omega, fun v v0 v1 => ⟨upd_same, hj, ⟨li ++ [v], iL_snoc li v, ?_⟩, ?_, _, rfl⟩⟩
      · rw [List.length_append, hrl]
        rfl
      · rw [upd_upd]
    rintro ys τ H5 ⟨_, ⟨li, rfl, hll⟩, rfl, o, rfl⟩
    refine ⟨Nat.le_refl _, ?_⟩
    have s5 := same_upd (o := .lst (iL li)) hq
    have hq5 : (upd H4 q (.lst (iL li))) q = some (.lst (iL li)) := upd_same
    generalize upd H4 q (.lst (iL li)) = H5 at s5 hq5 ⊢
    have s15 := s14.trans s5
    have s35 := s4.trans s5
    -- due
    refine ⟨Nat.zero_le _, fun du hdu => ?_⟩
    have s6 := same_upd (o := .lst []) hdu
    have hdu6 : (upd H5 du (.lst [])) du = some (.lst []) := upd_same
    have nqdu : q ≠ du := ne_of_none hq5 hdu
    generalize upd H5 du (.lst []) = H6 at s6 hdu6 ⊢
    have s16 := s15.trans s6
    have s36 := s35.trans s6
    have hq6 := s6 _ _ hq5
    have DA6 := (DA.same s5).same s6
    have rowH3 : ∀ b ∈ rowsOf as, H3 b = none := fun b hb => by
      obtain ⟨x, hx, e⟩ := mem_rows.mp hb
      rcases e with rfl | rfl
      · exact (fas x hx).2.1
      · exact (fas x hx).2.2
    have S6 : S4 C H H6 a m2 r hp y sz lv l q rs held as ds li := by
      refine ⟨fun o z => s16 _ _ z, s36 _ _ hm2', s36 _ _ hr3, s36 _ _ hh3, Y3.same s36, g, DA6.r, hq6, by omega, fun d hd => ?_⟩
      have h1 := (dok d hd).1.1
      have h2 := (dok d hd).2.1
      omega
    have aw : ∀ b ∈ rowsOf as, H b = none ∧ b ≠ r ∧ b ≠ hp ∧ b ≠ sz ∧ b ≠ lv ∧ b ≠ q := fun b hb => by
      have h3 := rowH3 b hb
      obtain ⟨vs, hv⟩ := DA.rowIn hb
      exact ⟨s13.free h3, (ne_of_none hr3 h3).symm, (ne_of_none hh3 h3).symm, (ne_of_none Y3.sz h3).symm, (ne_of_none Y3.lv h3).symm, ne_of_none hv hq⟩
    refine ⟨_, rfl, a, ns, _, _, rfl, s16.seq hs, hl, by decide, by decide, by decide, fun cc c0 c1 => ⟨rfl, _, rfl, ?_⟩⟩
    refine ite2 (fun hsp => ?_) (fun hsp => k9 _ a m2 r hp y sz lv l q du ns rs held as ds li _ _ _ H6 k hs hl S6 hdl hdu6 ⟨hdl, dok⟩ DA.nd ln aw)
    refine ⟨_, rfl, _, rfl, _, rfl, a, q, ns, li, rs.length, rfl, s16.seq hs, hl, hq6, by omega, fun li' H7 hq7 hl7 kp => ?_⟩
    have nqa : ∀ b o, H4 b = some o → b ≠ q := fun b o z => ne_of_none z hq
    have S7 : S4 C H H7 a m2 r hp y sz lv l q rs held as ds li' := by
      obtain ⟨dy, hy⟩ := Y3.ob
      refine ⟨fun o z => kp _ _ (s16 _ _ z) (nqa _ _ (s14 _ _ z)), kp _ _ (s36 _ _ hm2') (nqa _ _ (s4 _ _ hm2')), kp _ _ (s36 _ _ hr3) (nqa _ _ (s4 _ _ hr3)), kp _ _ (s36 _ _ hh3) (nqa _ _ (s4 _ _ hh3)), ⟨⟨dy, kp _ _ (s36 _ _ hy) (nqa _ _ (s4 _ _ hy))⟩, kp _ _ (s36 _ _ Y3.sz) (nqa _ _ (s4 _ _ Y3.sz)), kp _ _ (s36 _ _ Y3.lv) (nqa _ _ (s4 _ _ Y3.lv))⟩, g, ?_, hq7, hl7, S6.row⟩
      refine ⟨DA.len, kp _ _ DA6.lst (nqa _ _ DA.lst), fun x hx => kp _ _ (DA6.tup x hx) (nqa _ _ (DA.tup x hx)), fun i x d e1 e2 => ?_⟩
      have r6 := DA6.row i x d e1 e2
      have r4 := DA.row i x d e1 e2
      exact ⟨kp _ _ r6.1 (nqa _ _ r4.1), kp _ _ r6.2 (nqa _ _ r4.2)⟩
    exact k9 _ a m2 r hp y sz lv l q du ns rs held as ds li' _ _ _ H7 k hs hl S7 hdl (kp _ _ hdu6 nqdu.symm) ⟨hdl, dok⟩ DA.nd ln aw
end
end Z

set_option Elab.async false
set_option linter.all false
set_option maxRecDepth 100000
set_option maxHeartbeats 8000000
namespace Z
open PySem L2
theorem all_mk {l : PySem.W.OpenLaw} {w : World} {K : PySem.W.Frag} {h : Heap} {mg : Str → Option Value} {fa C cY cB cD cL cT : Addr} (X : K.In h) (G : h.Ns mainGlobals mg) (hfa : mg "law" = some (.ref fa))
    {f_is_whole f_are_whole f_check_day f_check_days f_check_line f_check_days_and_line f_water_above f_wishes_above f_check_yard f_m_init f_m_rooms f_m_waters f_m_day f_law_drawn f_law_whole f_law_row f_law_yard_by f_law_days_by f_law_copied f_law_run f_law_lived f_law_water f_law_wishes f_law_told f_law_spoilt f_law_line_spoilt f_law : Addr} {od_is_whole an_is_whole od_are_whole an_are_whole od_check_day an_check_day od_check_days an_check_days od_check_line an_check_line od_check_days_and_line an_check_days_and_line od_water_above an_water_above od_wishes_above an_wishes_above od_check_yard an_check_yard od_m_init an_m_init od_m_rooms an_m_rooms od_m_waters an_m_waters od_m_day an_m_day od_law_drawn an_law_drawn od_law_whole an_law_whole od_law_row an_law_row od_law_yard_by an_law_yard_by od_law_days_by an_law_days_by od_law_copied an_law_copied od_law_run an_law_run od_law_lived an_law_lived od_law_water an_law_water od_law_wishes an_law_wishes od_law_told an_law_told od_law_spoilt an_law_spoilt od_law_line_spoilt an_law_line_spoilt od_law an_law : Option Addr} {sl_is_whole sl_are_whole sl_check_day sl_check_days sl_check_line sl_check_days_and_line sl_water_above sl_wishes_above sl_check_yard sl_m_init sl_m_rooms sl_m_waters sl_m_day sl_law_drawn sl_law_whole sl_law_row sl_law_yard_by sl_law_days_by sl_law_copied sl_law_run sl_law_lived sl_law_water sl_law_wishes sl_law_told sl_law_spoilt sl_law_line_spoilt sl_law : Array (Option Value)} {oc_is_whole kV_is_whole dc_is_whole pm_is_whole cd_is_whole ct_is_whole oc_are_whole kV_are_whole dc_are_whole pm_are_whole cd_are_whole ct_are_whole oc_check_day kV_check_day dc_check_day pm_check_day cd_check_day ct_check_day oc_check_days kV_check_days dc_check_days pm_check_days cd_check_days ct_check_days oc_check_line kV_check_line dc_check_line pm_check_line cd_check_line ct_check_line oc_check_days_and_line kV_check_days_and_line dc_check_days_and_line pm_check_days_and_line cd_check_days_and_line ct_check_days_and_line oc_water_above kV_water_above dc_water_above pm_water_above cd_water_above ct_water_above oc_wishes_above kV_wishes_above dc_wishes_above pm_wishes_above cd_wishes_above ct_wishes_above oc_check_yard kV_check_yard dc_check_yard pm_check_yard cd_check_yard ct_check_yard oc_m_init kV_m_init dc_m_init pm_m_init cd_m_init ct_m_init oc_m_rooms kV_m_rooms dc_m_rooms pm_m_rooms cd_m_rooms ct_m_rooms oc_m_waters kV_m_waters dc_m_waters pm_m_waters cd_m_waters ct_m_waters oc_m_day kV_m_day dc_m_day pm_m_day cd_m_day ct_m_day oc_law_drawn kV_law_drawn dc_law_drawn pm_law_drawn cd_law_drawn ct_law_drawn oc_law_whole kV_law_whole dc_law_whole pm_law_whole cd_law_whole ct_law_whole oc_law_row kV_law_row dc_law_row pm_law_row cd_law_row ct_law_row oc_law_yard_by kV_law_yard_by dc_law_yard_by pm_law_yard_by cd_law_yard_by ct_law_yard_by oc_law_days_by kV_law_days_by dc_law_days_by pm_law_days_by cd_law_days_by ct_law_days_by oc_law_copied kV_law_copied dc_law_copied pm_law_copied cd_law_copied ct_law_copied oc_law_run kV_law_run dc_law_run pm_law_run cd_law_run ct_law_run oc_law_lived kV_law_lived dc_law_lived pm_law_lived cd_law_lived ct_law_lived oc_law_water kV_law_water dc_law_water pm_law_water cd_law_water ct_law_water oc_law_wishes kV_law_wishes dc_law_wishes pm_law_wishes cd_law_wishes ct_law_wishes oc_law_told kV_law_told dc_law_told pm_law_told cd_law_told ct_law_told oc_law_spoilt kV_law_spoilt dc_law_spoilt pm_law_spoilt cd_law_spoilt ct_law_spoilt oc_law_line_spoilt kV_law_line_spoilt dc_law_line_spoilt pm_law_line_spoilt cd_law_line_spoilt ct_law_line_spoilt oc_law kV_law dc_law pm_law cd_law ct_law : Value} {t_m50 t_m4 t_m30 t_m8 : Tok} {cdD cdL : ClassData}
    (aC : PySem.W.nsIn K mainGlobals "Yard" = some (some (.ref C)))
    (acY : PySem.W.nsIn K mainGlobals "YardError" = some (some (.ref cY)))
    (acB : PySem.W.nsIn K mainGlobals "BadYard" = some (some (.ref cB)))
    (acD : PySem.W.nsIn K mainGlobals "BadDays" = some (some (.ref cD)))
    (acL : PySem.W.nsIn K mainGlobals "BadLine" = some (some (.ref cL)))
    (a_m50 : PySem.W.nsIn K mainGlobals "MOST_ROOM" = some (some (.int 50 t_m50)))
    (a_m4 : PySem.W.nsIn K mainGlobals "MOST_TANKS" = some (some (.int 4 t_m4)))
    (a_m30 : PySem.W.nsIn K mainGlobals "MOST_IN_A_DAY" = some (some (.int 30 t_m30)))
    (a_m8 : PySem.W.nsIn K mainGlobals "MOST_DAYS" = some (some (.int 8 t_m8)))
    (a_is_whole : PySem.W.nsIn K mainGlobals "is_whole" = some (some (.ref f_is_whole)))
    (l_is_whole : K.lookup f_is_whole = some ⟨oc_is_whole, od_is_whole, .func (PySem.W.fnOf "is_whole" "is_whole" (defArgs sIsWhole) (defBody sIsWhole) (defScope sIsWhole) .none kV_is_whole dc_is_whole pm_is_whole an_is_whole cd_is_whole ct_is_whole), sl_is_whole⟩)
    (c_is_whole : PySem.W.codeIn K cd_is_whole "is_whole" = true)
    (k_is_whole : PySem.W.keepIn K (.ref f_is_whole) = true)
    (a_are_whole : PySem.W.nsIn K mainGlobals "are_whole" = some (some (.ref f_are_whole)))
    (l_are_whole : K.lookup f_are_whole = some ⟨oc_are_whole, od_are_whole, .func (PySem.W.fnOf "are_whole" "are_whole" (defArgs sAreWhole) (defBody sAreWhole) (defScope sAreWhole) .none kV_are_whole dc_are_whole pm_are_whole an_are_whole cd_are_whole ct_are_whole), sl_are_whole⟩)
    (c_are_whole : PySem.W.codeIn K cd_are_whole "are_whole" = true)
    (k_are_whole : PySem.W.keepIn K (.ref f_are_whole) = true)
    (a_check_day : PySem.W.nsIn K mainGlobals "check_day" = some (some (.ref f_check_day)))
    (l_check_day : K.lookup f_check_day = some ⟨oc_check_day, od_check_day, .func (PySem.W.fnOf "check_day" "check_day" (defArgs sCheckDay) (defBody sCheckDay) (defScope sCheckDay) .none kV_check_day dc_check_day pm_check_day an_check_day cd_check_day ct_check_day), sl_check_day⟩)
    (c_check_day : PySem.W.codeIn K cd_check_day "check_day" = true)
    (k_check_day : PySem.W.keepIn K (.ref f_check_day) = true)
    (a_check_days : PySem.W.nsIn K mainGlobals "check_days" = some (some (.ref f_check_days)))
    (l_check_days : K.lookup f_check_days = some ⟨oc_check_days, od_check_days, .func (PySem.W.fnOf "check_days" "check_days" (defArgs sCheckDays) (defBody sCheckDays) (defScope sCheckDays) .none kV_check_days dc_check_days pm_check_days an_check_days cd_check_days ct_check_days), sl_check_days⟩)
    (c_check_days : PySem.W.codeIn K cd_check_days "check_days" = true)
    (k_check_days : PySem.W.keepIn K (.ref f_check_days) = true)
    (a_check_line : PySem.W.nsIn K mainGlobals "check_line" = some (some (.ref f_check_line)))
    (l_check_line : K.lookup f_check_line = some ⟨oc_check_line, od_check_line, .func (PySem.W.fnOf "check_line" "check_line" (defArgs sCheckLine) (defBody sCheckLine) (defScope sCheckLine) .none kV_check_line dc_check_line pm_check_line an_check_line cd_check_line ct_check_line), sl_check_line⟩)
    (c_check_line : PySem.W.codeIn K cd_check_line "check_line" = true)
    (k_check_line : PySem.W.keepIn K (.ref f_check_line) = true)
    (a_check_days_and_line : PySem.W.nsIn K mainGlobals "check_days_and_line" = some (some (.ref f_check_days_and_line)))
    (l_check_days_and_line : K.lookup f_check_days_and_line = some ⟨oc_check_days_and_line, od_check_days_and_line, .func (PySem.W.fnOf "check_days_and_line" "check_days_and_line" (defArgs sCheckDL) (defBody sCheckDL) (defScope sCheckDL) .none kV_check_days_and_line dc_check_days_and_line pm_check_days_and_line an_check_days_and_line cd_check_days_and_line ct_check_days_and_line), sl_check_days_and_line⟩)
    (c_check_days_and_line : PySem.W.codeIn K cd_check_days_and_line "check_days_and_line" = true)
    (k_check_days_and_line : PySem.W.keepIn K (.ref f_check_days_and_line) = true)
    (a_water_above : PySem.W.nsIn K mainGlobals "water_above" = some (some (.ref f_water_above)))
    (l_water_above : K.lookup f_water_above = some ⟨oc_water_above, od_water_above, .func (PySem.W.fnOf "water_above" "water_above" (defArgs sWater) (defBody sWater) (defScope sWater) .none kV_water_above dc_water_above pm_water_above an_water_above cd_water_above ct_water_above), sl_water_above⟩)
    (c_water_above : PySem.W.codeIn K cd_water_above "water_above" = true)
    (k_water_above : PySem.W.keepIn K (.ref f_water_above) = true)
    (a_wishes_above : PySem.W.nsIn K mainGlobals "wishes_above" = some (some (.ref f_wishes_above)))
    (l_wishes_above : K.lookup f_wishes_above = some ⟨oc_wishes_above, od_wishes_above, .func (PySem.W.fnOf "wishes_above" "wishes_above" (defArgs sWishes) (defBody sWishes) (defScope sWishes) .none kV_wishes_above dc_wishes_above pm_wishes_above an_wishes_above cd_wishes_above ct_wishes_above), sl_wishes_above⟩)
    (c_wishes_above : PySem.W.codeIn K cd_wishes_above "wishes_above" = true)
    (k_wishes_above : PySem.W.keepIn K (.ref f_wishes_above) = true)
    (a_check_yard : PySem.W.nsIn K mainGlobals "check_yard" = some (some (.ref f_check_yard)))
    (l_check_yard : K.lookup f_check_yard = some ⟨oc_check_yard, od_check_yard, .func (PySem.W.fnOf "check_yard" "check_yard" (defArgs sCheck) (defBody sCheck) (defScope sCheck) .none kV_check_yard dc_check_yard pm_check_yard an_check_yard cd_check_yard ct_check_yard), sl_check_yard⟩)
    (c_check_yard : PySem.W.codeIn K cd_check_yard "check_yard" = true)
    (k_check_yard : PySem.W.keepIn K (.ref f_check_yard) = true)
    (a_m_init : PySem.W.findIn K (.ref C) "__init__" = some (some (.ref f_m_init)))
    (i_m_init : PySem.W.isFn K (.ref f_m_init) = true)
    (l_m_init : K.lookup f_m_init = some ⟨oc_m_init, od_m_init, .func (PySem.W.fnOf "__init__" "Yard.__init__" (defArgs sInit) (defBody sInit) (defScope sInit) .none kV_m_init dc_m_init pm_m_init an_m_init cd_m_init ct_m_init), sl_m_init⟩)
    (c_m_init : PySem.W.codeIn K cd_m_init "Yard.__init__" = true)
    (k_m_init : PySem.W.keepIn K (.ref f_m_init) = true)
    (a_m_rooms : PySem.W.findIn K (.ref C) "rooms" = some (some (.ref f_m_rooms)))
    (i_m_rooms : PySem.W.isFn K (.ref f_m_rooms) = true)
    (l_m_rooms : K.lookup f_m_rooms = some ⟨oc_m_rooms, od_m_rooms, .func (PySem.W.fnOf "rooms" "Yard.rooms" (defArgs sRooms) (defBody sRooms) (defScope sRooms) .none kV_m_rooms dc_m_rooms pm_m_rooms an_m_rooms cd_m_rooms ct_m_rooms), sl_m_rooms⟩)
    (c_m_rooms : PySem.W.codeIn K cd_m_rooms "Yard.rooms" = true)
    (k_m_rooms : PySem.W.keepIn K (.ref f_m_rooms) = true)
    (a_m_waters : PySem.W.findIn K (.ref C) "waters" = some (some (.ref f_m_waters)))
    (i_m_waters : PySem.W.isFn K (.ref f_m_waters) = true)
    (l_m_waters : K.lookup f_m_waters = some ⟨oc_m_waters, od_m_waters, .func (PySem.W.fnOf "waters" "Yard.waters" (defArgs sWaters) (defBody sWaters) (defScope sWaters) .none kV_m_waters dc_m_waters pm_m_waters an_m_waters cd_m_waters ct_m_waters), sl_m_waters⟩)
    (c_m_waters : PySem.W.codeIn K cd_m_waters "Yard.waters" = true)
    (k_m_waters : PySem.W.keepIn K (.ref f_m_waters) = true)
    (a_m_day : PySem.W.findIn K (.ref C) "day" = some (some (.ref f_m_day)))
    (i_m_day : PySem.W.isFn K (.ref f_m_day) = true)
    (l_m_day : K.lookup f_m_day = some ⟨oc_m_day, od_m_day, .func (PySem.W.fnOf "day" "Yard.day" (defArgs sDay) (defBody sDay) (defScope sDay) .none kV_m_day dc_m_day pm_m_day an_m_day cd_m_day ct_m_day), sl_m_day⟩)
    (c_m_day : PySem.W.codeIn K cd_m_day "Yard.day" = true)
    (k_m_day : PySem.W.keepIn K (.ref f_m_day) = true)
    (a_law_drawn : PySem.W.nsIn K mainGlobals "_law_drawn" = some (some (.ref f_law_drawn)))
    (l_law_drawn : K.lookup f_law_drawn = some ⟨oc_law_drawn, od_law_drawn, .func (PySem.W.fnOf "_law_drawn" "_law_drawn" (defArgs sDrawn) (defBody sDrawn) (defScope sDrawn) .none kV_law_drawn dc_law_drawn pm_law_drawn an_law_drawn cd_law_drawn ct_law_drawn), sl_law_drawn⟩)
    (c_law_drawn : PySem.W.codeIn K cd_law_drawn "_law_drawn" = true)
    (k_law_drawn : PySem.W.keepIn K (.ref f_law_drawn) = true)
    (a_law_whole : PySem.W.nsIn K mainGlobals "_law_whole" = some (some (.ref f_law_whole)))
    (l_law_whole : K.lookup f_law_whole = some ⟨oc_law_whole, od_law_whole, .func (PySem.W.fnOf "_law_whole" "_law_whole" (defArgs sWhole) (defBody sWhole) (defScope sWhole) .none kV_law_whole dc_law_whole pm_law_whole an_law_whole cd_law_whole ct_law_whole), sl_law_whole⟩)
    (c_law_whole : PySem.W.codeIn K cd_law_whole "_law_whole" = true)
    (k_law_whole : PySem.W.keepIn K (.ref f_law_whole) = true)
    (a_law_row : PySem.W.nsIn K mainGlobals "_law_row" = some (some (.ref f_law_row)))
    (l_law_row : K.lookup f_law_row = some ⟨oc_law_row, od_law_row, .func (PySem.W.fnOf "_law_row" "_law_row" (defArgs sRow) (defBody sRow) (defScope sRow) .none kV_law_row dc_law_row pm_law_row an_law_row cd_law_row ct_law_row), sl_law_row⟩)
    (c_law_row : PySem.W.codeIn K cd_law_row "_law_row" = true)
    (k_law_row : PySem.W.keepIn K (.ref f_law_row) = true)
    (a_law_yard_by : PySem.W.nsIn K mainGlobals "_law_yard_by" = some (some (.ref f_law_yard_by)))
    (l_law_yard_by : K.lookup f_law_yard_by = some ⟨oc_law_yard_by, od_law_yard_by, .func (PySem.W.fnOf "_law_yard_by" "_law_yard_by" (defArgs sYardBy) (defBody sYardBy) (defScope sYardBy) .none kV_law_yard_by dc_law_yard_by pm_law_yard_by an_law_yard_by cd_law_yard_by ct_law_yard_by), sl_law_yard_by⟩)
    (c_law_yard_by : PySem.W.codeIn K cd_law_yard_by "_law_yard_by" = true)
    (k_law_yard_by : PySem.W.keepIn K (.ref f_law_yard_by) = true)
    (a_law_days_by : PySem.W.nsIn K mainGlobals "_law_days_by" = some (some (.ref f_law_days_by)))
    (l_law_days_by : K.lookup f_law_days_by = some ⟨oc_law_days_by, od_law_days_by, .func (PySem.W.fnOf "_law_days_by" "_law_days_by" (defArgs sDaysBy) (defBody sDaysBy) (defScope sDaysBy) .none kV_law_days_by dc_law_days_by pm_law_days_by an_law_days_by cd_law_days_by ct_law_days_by), sl_law_days_by⟩)
    (c_law_days_by : PySem.W.codeIn K cd_law_days_by "_law_days_by" = true)
    (k_law_days_by : PySem.W.keepIn K (.ref f_law_days_by) = true)
    (a_law_copied : PySem.W.nsIn K mainGlobals "_law_copied" = some (some (.ref f_law_copied)))
    (l_law_copied : K.lookup f_law_copied = some ⟨oc_law_copied, od_law_copied, .func (PySem.W.fnOf "_law_copied" "_law_copied" (defArgs sCopied) (defBody sCopied) (defScope sCopied) .none kV_law_copied dc_law_copied pm_law_copied an_law_copied cd_law_copied ct_law_copied), sl_law_copied⟩)
    (c_law_copied : PySem.W.codeIn K cd_law_copied "_law_copied" = true)
    (k_law_copied : PySem.W.keepIn K (.ref f_law_copied) = true)
    (a_law_run : PySem.W.nsIn K mainGlobals "_law_run" = some (some (.ref f_law_run)))
    (l_law_run : K.lookup f_law_run = some ⟨oc_law_run, od_law_run, .func (PySem.W.fnOf "_law_run" "_law_run" (defArgs sRun) (defBody sRun) (defScope sRun) .none kV_law_run dc_law_run pm_law_run an_law_run cd_law_run ct_law_run), sl_law_run⟩)
    (c_law_run : PySem.W.codeIn K cd_law_run "_law_run" = true)
    (k_law_run : PySem.W.keepIn K (.ref f_law_run) = true)
    (a_law_lived : PySem.W.nsIn K mainGlobals "_law_lived" = some (some (.ref f_law_lived)))
    (l_law_lived : K.lookup f_law_lived = some ⟨oc_law_lived, od_law_lived, .func (PySem.W.fnOf "_law_lived" "_law_lived" (defArgs sLived) (defBody sLived) (defScope sLived) .none kV_law_lived dc_law_lived pm_law_lived an_law_lived cd_law_lived ct_law_lived), sl_law_lived⟩)
    (c_law_lived : PySem.W.codeIn K cd_law_lived "_law_lived" = true)
    (k_law_lived : PySem.W.keepIn K (.ref f_law_lived) = true)
    (a_law_water : PySem.W.nsIn K mainGlobals "_law_water" = some (some (.ref f_law_water)))
    (l_law_water : K.lookup f_law_water = some ⟨oc_law_water, od_law_water, .func (PySem.W.fnOf "_law_water" "_law_water" (defArgs sLWater) (defBody sLWater) (defScope sLWater) .none kV_law_water dc_law_water pm_law_water an_law_water cd_law_water ct_law_water), sl_law_water⟩)
    (c_law_water : PySem.W.codeIn K cd_law_water "_law_water" = true)
    (k_law_water : PySem.W.keepIn K (.ref f_law_water) = true)
    (a_law_wishes : PySem.W.nsIn K mainGlobals "_law_wishes" = some (some (.ref f_law_wishes)))
    (l_law_wishes : K.lookup f_law_wishes = some ⟨oc_law_wishes, od_law_wishes, .func (PySem.W.fnOf "_law_wishes" "_law_wishes" (defArgs sLWishes) (defBody sLWishes) (defScope sLWishes) .none kV_law_wishes dc_law_wishes pm_law_wishes an_law_wishes cd_law_wishes ct_law_wishes), sl_law_wishes⟩)
    (c_law_wishes : PySem.W.codeIn K cd_law_wishes "_law_wishes" = true)
    (k_law_wishes : PySem.W.keepIn K (.ref f_law_wishes) = true)
    (a_law_told : PySem.W.nsIn K mainGlobals "_law_told" = some (some (.ref f_law_told)))
    (l_law_told : K.lookup f_law_told = some ⟨oc_law_told, od_law_told, .func (PySem.W.fnOf "_law_told" "_law_told" (defArgs sTold) (defBody sTold) (defScope sTold) .none kV_law_told dc_law_told pm_law_told an_law_told cd_law_told ct_law_told), sl_law_told⟩)
    (c_law_told : PySem.W.codeIn K cd_law_told "_law_told" = true)
    (k_law_told : PySem.W.keepIn K (.ref f_law_told) = true)
    (a_law_spoilt : PySem.W.nsIn K mainGlobals "_law_spoilt" = some (some (.ref f_law_spoilt)))
    (l_law_spoilt : K.lookup f_law_spoilt = some ⟨oc_law_spoilt, od_law_spoilt, .func (PySem.W.fnOf "_law_spoilt" "_law_spoilt" (defArgs sSpoilt) (defBody sSpoilt) (defScope sSpoilt) .none kV_law_spoilt dc_law_spoilt pm_law_spoilt an_law_spoilt cd_law_spoilt ct_law_spoilt), sl_law_spoilt⟩)
    (c_law_spoilt : PySem.W.codeIn K cd_law_spoilt "_law_spoilt" = true)
    (k_law_spoilt : PySem.W.keepIn K (.ref f_law_spoilt) = true)
    (a_law_line_spoilt : PySem.W.nsIn K mainGlobals "_law_line_spoilt" = some (some (.ref f_law_line_spoilt)))
    (l_law_line_spoilt : K.lookup f_law_line_spoilt = some ⟨oc_law_line_spoilt, od_law_line_spoilt, .func (PySem.W.fnOf "_law_line_spoilt" "_law_line_spoilt" (defArgs sLineSpoilt) (defBody sLineSpoilt) (defScope sLineSpoilt) .none kV_law_line_spoilt dc_law_line_spoilt pm_law_line_spoilt an_law_line_spoilt cd_law_line_spoilt ct_law_line_spoilt), sl_law_line_spoilt⟩)
    (c_law_line_spoilt : PySem.W.codeIn K cd_law_line_spoilt "_law_line_spoilt" = true)
    (k_law_line_spoilt : PySem.W.keepIn K (.ref f_law_line_spoilt) = true)
    (a_law : PySem.W.nsIn K mainGlobals "law" = some (some (.ref f_law)))
    (l_law : K.lookup f_law = some ⟨oc_law, od_law, .func (PySem.W.fnOf "law" "law" (defArgs sLaw) (defBody sLaw) (defScope sLaw) .none kV_law dc_law pm_law an_law cd_law ct_law), sl_law⟩)
    (c_law : PySem.W.codeIn K cd_law "law" = true)
    (k_law : PySem.W.keepIn K (.ref f_law) = true)
    (pg : PySem.W.plainGet K C Str.empty = true)
    (hd : PySem.W.hasDictIn K C = true)
    (po : PySem.W.plainOver K C = true)
    (sa : PySem.W.findIn K (.ref C) "__setattr__" = some (some (.builtin "object.__setattr__")))
    (nS : PySem.W.findIn K (.ref C) "sizes" = some none)
    (nL : PySem.W.findIn K (.ref C) "levels" = some none)
    (yB : PySem.W.excIn K cB [.type "ValueError", .type "Exception", .type "BaseException", .type "object"] "ValueError.__new__" = true)
    (yD : PySem.W.excIn K cD [.type "ValueError", .type "Exception", .type "BaseException", .type "object"] "ValueError.__new__" = true)
    (yL : PySem.W.excIn K cL [.type "ValueError", .type "Exception", .type "BaseException", .type "object"] "ValueError.__new__" = true)
    (xclD : PySem.W.clsIn K cD = some cdD)
    (xgaD : PySem.W.findIn K (.ref cD) "__getattribute__" = some (some (.builtin "BaseException.__getattribute__")))
    (xghD : PySem.W.findIn K (.ref cD) "__getattr__" = some none)
    (xcaD : PySem.W.findIn K (.ref cD) "__class__" = some (some (.builtin "object.__class__")))
    (xgtD : PySem.W.specialIn K (.builtin "object.__class__") "__get__" = some (some (.builtin "getset_descriptor.__get__")))
    (xtkD : PySem.W.takesIn K (.builtin "object.__class__") = some true)
    (xmoD : PySem.W.mroIn K cD (.type "object") = some true)
    (xmbD : PySem.W.mroIn K cD (.type "BaseException") = some true)
    (xeD : PySem.W.exmOne K (.ref cD) (.ref cY) = some true)
    (iDB : PySem.W.kitOne K (.ref cD) (.ref cB) = some false)
    (iDD : PySem.W.kitOne K (.ref cD) (.ref cD) = some true)
    (iDL : PySem.W.kitOne K (.ref cD) (.ref cL) = some false)
    (iDV : PySem.W.kitOne K (.ref cD) (.type "ValueError") = some true)
    (xclL : PySem.W.clsIn K cL = some cdL)
    (xgaL : PySem.W.findIn K (.ref cL) "__getattribute__" = some (some (.builtin "BaseException.__getattribute__")))
    (xghL : PySem.W.findIn K (.ref cL) "__getattr__" = some none)
    (xcaL : PySem.W.findIn K (.ref cL) "__class__" = some (some (.builtin "object.__class__")))
    (xgtL : PySem.W.specialIn K (.builtin "object.__class__") "__get__" = some (some (.builtin "getset_descriptor.__get__")))
    (xtkL : PySem.W.takesIn K (.builtin "object.__class__") = some true)
    (xmoL : PySem.W.mroIn K cL (.type "object") = some true)
    (xmbL : PySem.W.mroIn K cL (.type "BaseException") = some true)
    (xeL : PySem.W.exmOne K (.ref cL) (.ref cY) = some true)
    (iLB : PySem.W.kitOne K (.ref cL) (.ref cB) = some false)
    (iLD : PySem.W.kitOne K (.ref cL) (.ref cD) = some false)
    (iLL : PySem.W.kitOne K (.ref cL) (.ref cL) = some true)
    (iLV : PySem.W.kitOne K (.ref cL) (.type "ValueError") = some true)
    (z_len : PySem.W.nsIn K mainGlobals "len" = some none)
    (z_range : PySem.W.nsIn K mainGlobals "range" = some none)
    (z_isi : PySem.W.nsIn K mainGlobals "isinstance" = some none)
    (z_list : PySem.W.nsIn K mainGlobals "list" = some none)
    (z_all : PySem.W.nsIn K mainGlobals "all" = some none)
    (z_any : PySem.W.nsIn K mainGlobals "any" = some none)
    (z_zip : PySem.W.nsIn K mainGlobals "zip" = some none)
    (z_int : PySem.W.nsIn K mainGlobals "int" = some none)
    (z_bool : PySem.W.nsIn K mainGlobals "bool" = some none)
    (z_ve : PySem.W.nsIn K mainGlobals "ValueError" = some none)
    (z_min : PySem.W.nsIn K mainGlobals "min" = some none)
    (z_tup : PySem.W.nsIn K mainGlobals "tuple" = some none)
    (z_max : PySem.W.nsIn K mainGlobals "max" = some none)
    (z_sum : PySem.W.nsIn K mainGlobals "sum" = some none)
    (z_enu : PySem.W.nsIn K mainGlobals "enumerate" = some none)
    (z_str : PySem.W.nsIn K mainGlobals "str" = some none)
    (ki : PySem.W.kitOne K (.type "int") (.type "int") = some true)
    (kib : PySem.W.kitOne K (.type "int") (.type "bool") = some false)
    (kll : PySem.W.kitOne K (.type "list") (.type "list") = some true)
    (ktt : PySem.W.kitOne K (.type "tuple") (.type "tuple") = some true)
    (kbb : PySem.W.kitOne K (.type "bool") (.type "bool") = some true)
    (kss : PySem.W.kitOne K (.type "str") (.type "str") = some true)
    (mk : PySem.W.makesIn K C = true)
    (kc : PySem.W.keepIn K (.ref C) = true)
    : ∃ fd : FuncData, (∀ (s : Shared) (v : Value), BindsTo s fd ⟨[v], []⟩ [("script", v)]) ∧ ∀ base : Heap, K.In base → base.Ns mainGlobals mg → FnOk l.prog w K mg base CX0 8 fa fd ["script"] (spLaw K) := by
  have e := hfa.symm.trans (PySem.W.mg_of X G a_law)
  cases e
  have T : Txt K mg C cY cB cD cL cT := {
    cl := ⟨pg, hd, po, sa⟩
    nS := nS
    nL := nL
    mgC := PySem.W.mg_of X G aC
    mgY := PySem.W.mg_of X G acY
    exB := ⟨PySem.W.mg_of X G acB, yB⟩
    exD := ⟨PySem.W.mg_of X G acD, yD⟩
    exL := ⟨PySem.W.mg_of X G acL, yL⟩
    kD := ⟨by rw [xclD]; rfl, xgaD, xghD, xcaD, xgtD, xtkD, xmoD, xmbD⟩
    exmD := xeD
    iDB := iDB
    iDD := iDD
    iDL := iDL
    iDV := iDV
    kL := ⟨by rw [xclL]; rfl, xgaL, xghL, xcaL, xgtL, xtkL, xmoL, xmbL⟩
    exmL := xeL
    iLB := iLB
    iLD := iLD
    iLL := iLL
    iLV := iLV
    len := PySem.W.mg_none_of X G z_len
    range := PySem.W.mg_none_of X G z_range
    isi := PySem.W.mg_none_of X G z_isi
    list := PySem.W.mg_none_of X G z_list
    all := PySem.W.mg_none_of X G z_all
    any := PySem.W.mg_none_of X G z_any
    zip := PySem.W.mg_none_of X G z_zip
    int := PySem.W.mg_none_of X G z_int
    bool := PySem.W.mg_none_of X G z_bool
    ve := PySem.W.mg_none_of X G z_ve
    min := PySem.W.mg_none_of X G z_min
    tup := PySem.W.mg_none_of X G z_tup
    max := PySem.W.mg_none_of X G z_max
    sum := PySem.W.mg_none_of X G z_sum
    enu := PySem.W.mg_none_of X G z_enu
    str := PySem.W.mg_none_of X G z_str
    m50 := ⟨_, PySem.W.mg_of X G a_m50⟩
    m4 := ⟨_, PySem.W.mg_of X G a_m4⟩
    m30 := ⟨_, PySem.W.mg_of X G a_m30⟩
    m8 := ⟨_, PySem.W.mg_of X G a_m8⟩
    ki := ki
    kib := kib
    kll := kll
    ktt := ktt
    kbb := kbb
    kss := kss }
  have F_is_whole := fun_mk (st := sIsWhole) l_is_whole c_is_whole k_is_whole
  have b_is_whole := F_is_whole.binds (ps := ["value", "most"]) fun _ _ _ _ _ _ us hl => match us, hl with | [_, _], _ => rfl
  have g_is_whole := PySem.W.mg_of X G a_is_whole
  have F_are_whole := fun_mk (st := sAreWhole) l_are_whole c_are_whole k_are_whole
  have b_are_whole := F_are_whole.binds (ps := ["values", "most"]) fun _ _ _ _ _ _ us hl => match us, hl with | [_, _], _ => rfl
  have g_are_whole := PySem.W.mg_of X G a_are_whole
  have F_check_day := fun_mk (st := sCheckDay) l_check_day c_check_day k_check_day
  have b_check_day := F_check_day.binds (ps := ["tanks", "rain", "wishes"]) fun _ _ _ _ _ _ us hl => match us, hl with | [_, _, _], _ => rfl
  have g_check_day := PySem.W.mg_of X G a_check_day
  have F_check_days := fun_mk (st := sCheckDays) l_check_days c_check_days k_check_days
  have b_check_days := F_check_days.binds (ps := ["tanks", "days"]) fun _ _ _ _ _ _ us hl => match us, hl with | [_, _], _ => rfl
  have g_check_days := PySem.W.mg_of X G a_check_days
  have F_check_line := fun_mk (st := sCheckLine) l_check_line c_check_line k_check_line
  have b_check_line := F_check_line.binds (ps := ["tanks", "days", "line"]) fun _ _ _ _ _ _ us hl => match us, hl with | [_, _, _], _ => rfl
  have g_check_line := PySem.W.mg_of X G a_check_line
  have F_check_days_and_line := fun_mk (st := sCheckDL) l_check_days_and_line c_check_days_and_line k_check_days_and_line
  have b_check_days_and_line := F_check_days_and_line.binds (ps := ["yard", "days", "line"]) fun _ _ _ _ _ _ us hl => match us, hl with | [_, _, _], _ => rfl
  have g_check_days_and_line := PySem.W.mg_of X G a_check_days_and_line
  have F_water_above := fun_mk (st := sWater) l_water_above c_water_above k_water_above
  have b_water_above := F_water_above.binds (ps := ["yard", "days", "line"]) fun _ _ _ _ _ _ us hl => match us, hl with | [_, _, _], _ => rfl
  have g_water_above := PySem.W.mg_of X G a_water_above
  have F_wishes_above := fun_mk (st := sWishes) l_wishes_above c_wishes_above k_wishes_above
  have b_wishes_above := F_wishes_above.binds (ps := ["yard", "days", "line"]) fun _ _ _ _ _ _ us hl => match us, hl with | [_, _, _], _ => rfl
  have g_wishes_above := PySem.W.mg_of X G a_wishes_above
  have F_check_yard := fun_mk (st := sCheck) l_check_yard c_check_yard k_check_yard
  have b_check_yard := F_check_yard.binds (ps := ["rooms", "waters"]) fun _ _ _ _ _ _ us hl => match us, hl with | [_, _], _ => rfl
  have g_check_yard := PySem.W.mg_of X G a_check_yard
  have F_m_init := fun_mk (st := sInit) l_m_init c_m_init k_m_init
  have b_m_init := F_m_init.binds (ps := ["self", "rooms", "waters"]) fun _ _ _ _ _ _ us hl => match us, hl with | [_, _, _], _ => rfl
  have M : Mk K C f_m_init := ⟨mk, a_m_init, i_m_init, kc⟩
  have F_m_rooms := fun_mk (st := sRooms) l_m_rooms c_m_rooms k_m_rooms
  have b_m_rooms := F_m_rooms.binds (ps := ["self"]) fun _ _ _ _ _ _ us hl => match us, hl with | [_], _ => rfl
  have e_m_rooms : Meth K C "rooms" f_m_rooms := ⟨a_m_rooms, i_m_rooms, k_m_rooms⟩
  have F_m_waters := fun_mk (st := sWaters) l_m_waters c_m_waters k_m_waters
  have b_m_waters := F_m_waters.binds (ps := ["self"]) fun _ _ _ _ _ _ us hl => match us, hl with | [_], _ => rfl
  have e_m_waters : Meth K C "waters" f_m_waters := ⟨a_m_waters, i_m_waters, k_m_waters⟩
  have F_m_day := fun_mk (st := sDay) l_m_day c_m_day k_m_day
  have b_m_day := F_m_day.binds (ps := ["self", "rain", "wishes"]) fun _ _ _ _ _ _ us hl => match us, hl with | [_, _, _], _ => rfl
  have e_m_day : Meth K C "day" f_m_day := ⟨a_m_day, i_m_day, k_m_day⟩
  have F_law_drawn := fun_mk (st := sDrawn) l_law_drawn c_law_drawn k_law_drawn
  have b_law_drawn := F_law_drawn.binds (ps := ["script", "k", "many"]) fun _ _ _ _ _ _ us hl => match us, hl with | [_, _, _], _ => rfl
  have g_law_drawn := PySem.W.mg_of X G a_law_drawn
  have F_law_whole := fun_mk (st := sWhole) l_law_whole c_law_whole k_law_whole
  have b_law_whole := F_law_whole.binds (ps := ["found"]) fun _ _ _ _ _ _ us hl => match us, hl with | [_], _ => rfl
  have g_law_whole := PySem.W.mg_of X G a_law_whole
  have F_law_row := fun_mk (st := sRow) l_law_row c_law_row k_law_row
  have b_law_row := F_law_row.binds (ps := ["found", "due"]) fun _ _ _ _ _ _ us hl => match us, hl with | [_, _], _ => rfl
  have g_law_row := PySem.W.mg_of X G a_law_row
  have F_law_yard_by := fun_mk (st := sYardBy) l_law_yard_by c_law_yard_by k_law_yard_by
  have b_law_yard_by := F_law_yard_by.binds (ps := ["script", "base"]) fun _ _ _ _ _ _ us hl => match us, hl with | [_, _], _ => rfl
  have g_law_yard_by := PySem.W.mg_of X G a_law_yard_by
  have F_law_days_by := fun_mk (st := sDaysBy) l_law_days_by c_law_days_by k_law_days_by
  have b_law_days_by := F_law_days_by.binds (ps := ["script", "base", "many", "bound"]) fun _ _ _ _ _ _ us hl => match us, hl with | [_, _, _, _], _ => rfl
  have g_law_days_by := PySem.W.mg_of X G a_law_days_by
  have F_law_copied := fun_mk (st := sCopied) l_law_copied c_law_copied k_law_copied
  have b_law_copied := F_law_copied.binds (ps := ["days"]) fun _ _ _ _ _ _ us hl => match us, hl with | [_], _ => rfl
  have g_law_copied := PySem.W.mg_of X G a_law_copied
  have F_law_run := fun_mk (st := sRun) l_law_run c_law_run k_law_run
  have b_law_run := F_law_run.binds (ps := ["rooms", "waters", "days"]) fun _ _ _ _ _ _ us hl => match us, hl with | [_, _, _], _ => rfl
  have g_law_run := PySem.W.mg_of X G a_law_run
  have F_law_lived := fun_mk (st := sLived) l_law_lived c_law_lived k_law_lived
  have b_law_lived := F_law_lived.binds (ps := ["script", "rooms", "waters"]) fun _ _ _ _ _ _ us hl => match us, hl with | [_, _, _], _ => rfl
  have g_law_lived := PySem.W.mg_of X G a_law_lived
  have F_law_water := fun_mk (st := sLWater) l_law_water c_law_water k_law_water
  have b_law_water := F_law_water.binds (ps := ["rooms", "waters", "days", "line"]) fun _ _ _ _ _ _ us hl => match us, hl with | [_, _, _, _], _ => rfl
  have g_law_water := PySem.W.mg_of X G a_law_water
  have F_law_wishes := fun_mk (st := sLWishes) l_law_wishes c_law_wishes k_law_wishes
  have b_law_wishes := F_law_wishes.binds (ps := ["days", "line"]) fun _ _ _ _ _ _ us hl => match us, hl with | [_, _], _ => rfl
  have g_law_wishes := PySem.W.mg_of X G a_law_wishes
  have F_law_told := fun_mk (st := sTold) l_law_told c_law_told k_law_told
  have b_law_told := F_law_told.binds (ps := ["yard", "days", "line", "way"]) fun _ _ _ _ _ _ us hl => match us, hl with | [_, _, _, _], _ => rfl
  have g_law_told := PySem.W.mg_of X G a_law_told
  have F_law_spoilt := fun_mk (st := sSpoilt) l_law_spoilt c_law_spoilt k_law_spoilt
  have b_law_spoilt := F_law_spoilt.binds (ps := ["script", "numbers"]) fun _ _ _ _ _ _ us hl => match us, hl with | [_, _], _ => rfl
  have g_law_spoilt := PySem.W.mg_of X G a_law_spoilt
  have F_law_line_spoilt := fun_mk (st := sLineSpoilt) l_law_line_spoilt c_law_line_spoilt k_law_line_spoilt
  have b_law_line_spoilt := F_law_line_spoilt.binds (ps := ["script", "line", "many"]) fun _ _ _ _ _ _ us hl => match us, hl with | [_, _, _], _ => rfl
  have g_law_line_spoilt := PySem.W.mg_of X G a_law_line_spoilt
  have F_law := fun_mk (st := sLaw) l_law c_law k_law
  have g_law := PySem.W.mg_of X G a_law
  refine ⟨PySem.W.fnOf "law" "law" (defArgs sLaw) (defBody sLaw) (defScope sLaw) .none kV_law dc_law pm_law an_law cd_law ct_law, fun s v => .of_eq rfl, fun base _ _ => ?_⟩
  have GCk := ok_ck (P := l.prog) (w := w) (base := base) F_check_yard T F_are_whole b_are_whole g_are_whole F_is_whole b_is_whole g_is_whole
  have GI := ok_in F_m_init T F_check_yard b_check_yard g_check_yard GCk
  have GCd := ok_cd (P := l.prog) (w := w) (base := base) F_check_day T F_are_whole b_are_whole g_are_whole F_is_whole b_is_whole g_is_whole
  have GDy := ok_dy F_m_day T F_check_day b_check_day g_check_day GCd
  have GCs := ok_cs F_check_days T F_check_day b_check_day g_check_day GCd
  have GCl := ok_cl (P := l.prog) (w := w) (base := base) F_check_line T F_are_whole b_are_whole g_are_whole F_is_whole b_is_whole g_is_whole
  have GDl := ok_cdl F_check_days_and_line T F_check_days b_check_days g_check_days GCs F_check_line b_check_line g_check_line GCl e_m_rooms b_m_rooms (ok_ro F_m_rooms T)
  have GWr := ok_wr F_water_above T F_check_days_and_line b_check_days_and_line g_check_days_and_line GDl e_m_rooms b_m_rooms (ok_ro F_m_rooms T) e_m_waters b_m_waters (ok_wa F_m_waters T)
  have GWs := ok_ws F_wishes_above T F_check_days_and_line b_check_days_and_line g_check_days_and_line GDl
  have cc : Cs l.prog w K mg base C f_law_drawn f_law_line_spoilt f_law_spoilt f_law_copied f_law_told f_law_row f_law_water f_law_wishes f_m_waters _ _ _ _ _ _ _ _ _ := {
    FD := F_law_drawn, bD := b_law_drawn, mD := g_law_drawn, GD := ok_dr F_law_drawn T
    FLs := F_law_line_spoilt, bLs := b_law_line_spoilt, mLs := g_law_line_spoilt, GLs := ok_ls F_law_line_spoilt T F_law_drawn b_law_drawn g_law_drawn
    FSp := F_law_spoilt, bSp := b_law_spoilt, mSp := g_law_spoilt, GSp := ok_sp F_law_spoilt T F_law_drawn b_law_drawn g_law_drawn
    FCo := F_law_copied, bCo := b_law_copied, mCo := g_law_copied, GCo := ok_co F_law_copied T
    FT := F_law_told, bT := b_law_told, mT := g_law_told, GT := ok_to F_law_told T F_water_above b_water_above g_water_above GWr F_wishes_above b_wishes_above g_wishes_above GWs
    FR := F_law_row, bR := b_law_row, mR := g_law_row, GR := ok_rw F_law_row T F_law_whole b_law_whole g_law_whole
    FWt := F_law_water, bWt := b_law_water, mWt := g_law_water, GWt := ok_lwa F_law_water T
    FWi := F_law_wishes, bWi := b_law_wishes, mWi := g_law_wishes, GWi := ok_lwi F_law_wishes T
    eWa := e_m_waters, bWa := b_m_waters, GWa := ok_wa F_m_waters T }
  exact ok_lw F_law T cc F_law_yard_by b_law_yard_by g_law_yard_by (ok_yb F_law_yard_by T F_law_drawn b_law_drawn g_law_drawn) F_law_days_by b_law_days_by g_law_days_by (ok_db F_law_days_by T F_law_drawn b_law_drawn g_law_drawn)
    F_law_lived b_law_lived g_law_lived (ok_li F_law_lived T F_law_drawn b_law_drawn g_law_drawn M GI b_m_init e_m_day b_m_day GDy F_law_run b_law_run g_law_run)
theorem walk {l : PySem.W.OpenLaw} {q : Program} {loose : List Str} {XP : (Str → Option Value) → Heap → Prop} {YP : World → Heap → Prop} {d : DefRec} {K : Params → PySem.W.Frag} (hn : l.most = some 63) (hdf : d.params.defaults = [])
    (hY : ∀ (w : World) (h : Heap), YP w h → (K w.params).In h)
    (F : ∀ (w : World) (mg : Str → Option Value) (fa : Addr) (h : Heap), (K w.params).In h → h.Ns mainGlobals mg → mg d.name = some (.ref fa) →
      ∃ fd : FuncData, (∀ (s : Shared) (u : Value), BindsTo s fd ⟨[u], []⟩ [("script", u)]) ∧ ∀ base : Heap, (K w.params).In base → base.Ns mainGlobals mg → FnOk l.prog w (K w.params) mg base CX0 8 fa fd ["script"] (spLaw (K w.params))) :
    PySem.W.WalkO q loose XP YP l.row.toRowW d [] (fun f vs => PySem.call f vs) :=
  L2.walk_of (n := 63) (k := 8) (x := "script") (CX := fun _ => CX0) (sp := fun w => spLaw (K w.params)) hn (by decide) hdf ⟨rfl, by decide, by decide⟩ hY F (fun _ _ a ns hl _ hS => ⟨a, ns, rfl, hS, hl, fun _ => rfl⟩) fun _ _ _ _ _ z => z
end Z
def PySem.W.Fast.tw16865549609790687836 : Unit := ()
def PySem.W.Fast.tw12069181899918488396 : Unit := ()
def PySem.W.Fast.tw17500264980588046879 : Unit := ()
def PySem.W.Fast.tw134193913958852010 : Unit := ()
def PySem.W.Fast.tw15279549611808886674 : Unit := ()
def PySem.W.Fast.tw3658819056767789523 : Unit := ()
def PySem.W.Fast.tw16789279729042225842 : Unit := ()
def PySem.W.Fast.tw16769506449691587263 : Unit := ()
def PySem.W.Fast.tw3144139788456467625 : Unit := ()
def PySem.W.Fast.tw10617830017418232610 : Unit := ()
def PySem.W.Fast.tw16529533483171819505 : Unit := ()
def PySem.W.Fast.tw18053846839519246786 : Unit := ()
def PySem.W.Fast.tw8700182623741131059 : Unit := ()
def PySem.W.Fast.tw5655574612962905671 : Unit := ()
def PySem.W.Fast.tw3978650206991369499 : Unit := ()
def PySem.W.Fast.tw15942344034195595417 : Unit := ()
def PySem.W.Fast.tw405776325586082602 : Unit := ()
def PySem.W.Fast.tw5055513248791538973 : Unit := ()
def PySem.W.Fast.tw17571765225749632344 : Unit := ()
def PySem.W.Fast.tw14982669407122202723 : Unit := ()
def PySem.W.Fast.tw12971636934649292304 : Unit := ()
def PySem.W.Fast.tw5748517441499148613 : Unit := ()
def PySem.W.Fast.tw9103649960470319830 : Unit := ()
def PySem.W.Fast.tw2757070648168499249 : Unit := ()
def PySem.W.Fast.tw2021450762426163021 : Unit := ()
def PySem.W.Fast.tw4673359332592811608 : Unit := ()
def PySem.W.Fast.tw16032584599084209377 : Unit := ()
def PySem.W.Fast.tw13923597854872367470 : Unit := ()
def PySem.W.Fast.tw373156165261695567 : Unit := ()
def PySem.W.Fast.tw5743825731656680759 : Unit := ()
def PySem.W.Fast.tw12149308128748039811 : Unit := ()
def PySem.W.Fast.tw5630064520634204105 : Unit := ()
def PySem.W.Fast.tw12076291944741324267 : Unit := ()
def PySem.W.Fast.tw350460360059091977 : Unit := ()
def PySem.W.Fast.tw10768474913247517038 : Unit := ()
def PySem.W.Fast.tw11081995364534781726 : Unit := ()
def PySem.W.Fast.tw9892814672695305316 : Unit := ()
def PySem.W.Fast.tw12634444242060491085 : Unit := ()
def PySem.W.Fast.tw9182029558349451643 : Unit := ()
def PySem.W.Fast.tw3215133100015529592 : Unit := ()
def PySem.W.Fast.tw5697771609722004411 : Unit := ()
def PySem.W.Fast.tw5323722580325119703 : Unit := ()
def PySem.W.Fast.tw1701374704884414149 : Unit := ()
def PySem.W.Fast.tw11761876356408292905 : Unit := ()
def PySem.W.Fast.tw18207895835011326324 : Unit := ()
def PySem.W.Fast.tw13571277767449193504 : Unit := ()
def PySem.W.Fast.tw3266986664320250243 : Unit := ()
def PySem.W.Fast.tw12519273669360547268 : Unit := ()
def PySem.W.Fast.tw4729269393607694026 : Unit := ()
def PySem.W.Fast.tw18253498169121183423 : Unit := ()
def PySem.W.Fast.tw12441533633911634321 : Unit := ()
def PySem.W.Fast.tw10771313602455170607 : Unit := ()
def PySem.W.Fast.tw8872145052080308246 : Unit := ()
def PySem.W.Fast.tw17469109967795952278 : Unit := ()
def PySem.W.Fast.tw11069682084190139742 : Unit := ()
def PySem.W.Fast.tw14765111329288511629 : Unit := ()
def PySem.W.Fast.tw8128419240486305243 : Unit := ()
def PySem.W.Fast.tw8540787965855565766 : Unit := ()
def PySem.W.Fast.tw3899666848290601599 : Unit := ()
def PySem.W.Fast.tw14780351573661119236 : Unit := ()
def PySem.W.Fast.tw15259338144678403116 : Unit := ()
def PySem.W.Fast.tw1371927127125136082 : Unit := ()
def PySem.W.Fast.tw11518162085517778608 : Unit := ()
def PySem.W.Fast.tw104915489767505074 : Unit := ()
def PySem.W.Fast.tw6630252610128751305 : Unit := ()
def PySem.W.Fast.tw4103690658660911721 : Unit := ()
def PySem.W.Fast.tw12171989566667167177 : Unit := ()
def PySem.W.Fast.tw604200339820829496 : Unit := ()
def PySem.W.Fast.tw1831450275804391788 : Unit := ()
def PySem.W.Fast.tw2278565569991325959 : Unit := ()
def PySem.W.Fast.tw7480801932801666284 : Unit := ()
def PySem.W.Fast.tw6276236579869959556 : Unit := ()
def PySem.W.Fast.tw1763993076957735741 : Unit := ()
def PySem.W.Fast.tw8997878493598756271 : Unit := ()
def PySem.W.Fast.tw7119044673389153426 : Unit := ()
def PySem.W.Fast.tw2313433356668145983 : Unit := ()
def PySem.W.Fast.tw10237087059087347540 : Unit := ()
def PySem.W.Fast.tw7393613389927733854 : Unit := ()
def PySem.W.Fast.tw9198239188154782143 : Unit := ()
def PySem.W.Fast.tw10629334853524971277 : Unit := ()
def PySem.W.Fast.tw1377489384374025257 : Unit := ()
def PySem.W.Fast.tw11685126198664233828 : Unit := ()
def PySem.W.Fast.tw4914889137136367336 : Unit := ()
def PySem.W.Fast.tw11827923992757048671 : Unit := ()
def PySem.W.Fast.tw7728240564814449516 : Unit := ()
def PySem.W.Fast.tw10568792287160541418 : Unit := ()
def PySem.W.Fast.tw11953044647163470168 : Unit := ()
def PySem.W.Fast.tw16471244184953846910 : Unit := ()
def PySem.W.Fast.tw462572729968256194 : Unit := ()
def PySem.W.Fast.tw17013532927297710676 : Unit := ()
def PySem.W.Fast.tw9241824339696644804 : Unit := ()
def PySem.W.Fast.tw10624703025478418206 : Unit := ()
def PySem.W.Fast.tw5624957409814539496 : Unit := ()
def PySem.W.Fast.tw11844424211429106059 : Unit := ()
def PySem.W.Fast.tw13390235915849627194 : Unit := ()
def PySem.W.Fast.tw14133776861656598592 : Unit := ()
def PySem.W.Fast.tw2042026188674392921 : Unit := ()
def PySem.W.Fast.tw12391399707940572459 : Unit := ()
def PySem.W.Fast.tw10771242040724502986 : Unit := ()
def PySem.W.Fast.tw1530754013266695333 : Unit := ()
def PySem.W.Fast.tw9256799326031594411 : Unit := ()
def PySem.W.Fast.tw14447998316656755320 : Unit := ()
def PySem.W.Fast.tw1255482485707184020 : Unit := ()
def PySem.W.Fast.tw1688360792471734491 : Unit := ()
def PySem.W.Fast.tw7017426325266064490 : Unit := ()
def PySem.W.Fast.tw11275808326740350338 : Unit := ()
def PySem.W.Fast.tw8573024472877290091 : Unit := ()
def PySem.W.Fast.tw11614569588634586218 : Unit := ()
def PySem.W.Fast.tw8584412078112734393 : Unit := ()
def PySem.W.Fast.tw11597231822844123439 : Unit := ()
def PySem.W.Fast.tw6309961352368197271 : Unit := ()
def PySem.W.Fast.tw2152683790607495957 : Unit := ()
def PySem.W.Fast.tw7552082943319025246 : Unit := ()
def PySem.W.Fast.tw1190836338307911933 : Unit := ()
def PySem.W.Fast.tw12421703028490410312 : Unit := ()
def PySem.W.Fast.tw8872798583031927841 : Unit := ()
def PySem.W.Fast.tw16646718540395718760 : Unit := ()
def PySem.W.Fast.tw11325477947257829100 : Unit := ()
def PySem.W.Fast.tw9202108675653663247 : Unit := ()
def PySem.W.Fast.tw4677434998440208819 : Unit := ()
def PySem.W.Fast.tw3609051460462978568 : Unit := ()
def PySem.W.Fast.tw4412525614243556416 : Unit := ()
def PySem.W.Fast.tw17833639450389802994 : Unit := ()
def PySem.W.Fast.tw17355908347158965317 : Unit := ()
def PySem.W.Fast.tw13232994913324907874 : Unit := ()
def PySem.W.Fast.tw15358741323497774540 : Unit := ()
def PySem.W.Fast.tw17848835051118195487 : Unit := ()
def PySem.W.Fast.tw17601788011454538117 : Unit := ()
def PySem.W.Fast.tw2622182098759381873 : Unit := ()
def PySem.W.Fast.tw13416877878265216236 : Unit := ()
def PySem.W.Fast.tw736759022821009413 : Unit := ()
def PySem.W.Fast.tw6490896581254890769 : Unit := ()
def PySem.W.Fast.tw7324329498285267322 : Unit := ()
def PySem.W.Fast.tw3748486941294694607 : Unit := ()
def PySem.W.Fast.tw7466706810620011373 : Unit := ()
def PySem.W.Fast.tw2536892194571380350 : Unit := ()
def PySem.W.Fast.tw10438698601686933863 : Unit := ()
def PySem.W.Fast.tw2253297624505378015 : Unit := ()
def PySem.W.Fast.tw12066909118441377565 : Unit := ()
def PySem.W.Fast.tw17381975410736258744 : Unit := ()
def PySem.W.Fast.tw16523014318311310221 : Unit := ()
def PySem.W.Fast.tw15441832922502557660 : Unit := ()
def PySem.W.Fast.tw244736054692381313 : Unit := ()
def PySem.W.Fast.tw652766828330994072 : Unit := ()
def PySem.W.Fast.tw845882330372660452 : Unit := ()
def PySem.W.Fast.tw18075764186167760284 : Unit := ()
def PySem.W.Fast.tw18248793480755301063 : Unit := ()
def PySem.W.Fast.tw4545802091170864523 : Unit := ()
def PySem.W.Fast.tw8818280643990082154 : Unit := ()
def PySem.W.Fast.tw646033647477742939 : Unit := ()
def PySem.W.Fast.tw14001355018326398852 : Unit := ()
def PySem.W.Fast.tw9704930815734948626 : Unit := ()
def PySem.W.Fast.tw303084158623735610 : Unit := ()
def PySem.W.Fast.tw14805353137655671000 : Unit := ()
def PySem.W.Fast.tw6456962968811640411 : Unit := ()
def PySem.W.Fast.tw9241710062607632958 : Unit := ()
def PySem.W.Fast.tw508884261106879411 : Unit := ()
def PySem.W.Fast.tw7894180535079946323 : Unit := ()
def PySem.W.Fast.tw13793761497001594676 : Unit := ()
def PySem.W.Fast.tw2781623153832650383 : Unit := ()
def PySem.W.Fast.tw5044338642575342386 : Unit := ()
def PySem.W.Fast.tw15511299706806989279 : Unit := ()
def PySem.W.Fast.tw11552815827590850277 : Unit := ()
def PySem.W.Fast.tw14954538079170280079 : Unit := ()
def PySem.W.Fast.tw7600632000221741691 : Unit := ()
def PySem.W.Fast.tw6645309014874533104 : Unit := ()
def PySem.W.Fast.tw14250033314746650084 : Unit := ()
def PySem.W.Fast.tw18260313930957097867 : Unit := ()
def PySem.W.Fast.tw6555896845187918544 : Unit := ()
def PySem.W.Fast.tw8634364499615891815 : Unit := ()
def PySem.W.Fast.tw14336821457081484145 : Unit := ()
def PySem.W.Fast.tw9520694663452406020 : Unit := ()
def PySem.W.Fast.tw15098964445308729506 : Unit := ()
def PySem.W.Fast.tw16884858363430887895 : Unit := ()
def PySem.W.Fast.tw9197144009056830302 : Unit := ()
def PySem.W.Fast.tw3475019705696289923 : Unit := ()
def PySem.W.Fast.tw10870767023589572969 : Unit := ()
def PySem.W.Fast.tw6142554687175223143 : Unit := ()
def PySem.W.Fast.tw12495462274536549204 : Unit := ()
def PySem.W.Fast.tw15091483219731499826 : Unit := ()
def PySem.W.Fast.tw10114568919692375677 : Unit := ()
def PySem.W.Fast.tw11308420325418087520 : Unit := ()
def PySem.W.Fast.tw17337859085935175388 : Unit := ()
def PySem.W.Fast.tw17777579665551497243 : Unit := ()
def PySem.W.Fast.tw16146576147396992999 : Unit := ()
def PySem.W.Fast.tw18254113580977963569 : Unit := ()
def PySem.W.Fast.tw14253143148398110756 : Unit := ()
def PySem.W.Fast.tw12253436520216135374 : Unit := ()
def PySem.W.Fast.tw4542662113119425854 : Unit := ()
def PySem.W.Fast.tw6443194511518180191 : Unit := ()
def PySem.W.Fast.tw1377921744066115777 : Unit := ()
def PySem.W.Fast.tw6585915550676649108 : Unit := ()
def PySem.W.Fast.tw2240693252813178844 : Unit := ()
def PySem.W.Fast.tw870761164355910968 : Unit := ()
def PySem.W.Fast.tw1907703475393535629 : Unit := ()
def PySem.W.Fast.tw3940407528233918558 : Unit := ()
def PySem.W.Fast.tw17756942416016973413 : Unit := ()
def PySem.W.Fast.tw13111040866002921393 : Unit := ()
def PySem.W.Fast.tw4547717768242784170 : Unit := ()
def PySem.W.Fast.tw16144663825818381693 : Unit := ()
def PySem.W.Fast.tw4835696905266844187 : Unit := ()
def PySem.W.Fast.tw14902451007130641028 : Unit := ()
def PySem.W.Fast.tw11577708182784602645 : Unit := ()
def PySem.W.Fast.tw17254449760879021795 : Unit := ()
def PySem.W.Fast.tw598430704095171639 : Unit := ()
def PySem.W.Fast.tw9722031349218782589 : Unit := ()
def PySem.W.Fast.tw1561602631536038898 : Unit := ()
def PySem.W.Fast.tw16600178530950731067 : Unit := ()
def PySem.W.Fast.tw2231678286982587213 : Unit := ()
def PySem.W.Fast.tw460625600677423443 : Unit := ()
def PySem.W.Fast.tw3490871535502536101 : Unit := ()
def PySem.W.Fast.tw4853157822832979990 : Unit := ()
def PySem.W.Fast.tw16037154981185779722 : Unit := ()
def PySem.W.Fast.tw17803750691825360885 : Unit := ()
def PySem.W.Fast.tw12895796953960854225 : Unit := ()
def PySem.W.Fast.tw6975036658562929397 : Unit := ()
def PySem.W.Fast.tw8523524801131099222 : Unit := ()
def PySem.W.Fast.tw16975536327866871925 : Unit := ()
def PySem.W.Fast.tw15850271580032350099 : Unit := ()
def PySem.W.Fast.tw4597740112079250937 : Unit := ()
def PySem.W.Fast.tw11813761172171063647 : Unit := ()
def PySem.W.Fast.tw2075072211285280366 : Unit := ()
def PySem.W.Fast.tw2363102762610371120 : Unit := ()
def PySem.W.Fast.tw5766739733622353167 : Unit := ()
def PySem.W.Fast.tw11399617544455094554 : Unit := ()
def PySem.W.Fast.tw18312295200924560102 : Unit := ()
def PySem.W.Fast.tw4030559808285847381 : Unit := ()
def PySem.W.Fast.tw10895810769904593154 : Unit := ()
def PySem.W.Fast.tw11704529627139628756 : Unit := ()
def PySem.W.Fast.tw13165144569815019807 : Unit := ()
def PySem.W.Fast.tw12321113105250902159 : Unit := ()
def PySem.W.Fast.tw14119712319211954605 : Unit := ()
def PySem.W.Fast.tw621137157404626080 : Unit := ()
def PySem.W.Fast.tw18030787642569672350 : Unit := ()
def PySem.W.Fast.tw16614058396074056848 : Unit := ()
def PySem.W.Fast.tw18437919280350746740 : Unit := ()
def PySem.W.Fast.tw6251214667975375895 : Unit := ()
def PySem.W.Fast.tw4643997395802213435 : Unit := ()
def PySem.W.Fast.tw12903789994490828862 : Unit := ()
def PySem.W.Fast.tw2281074764044613468 : Unit := ()
def PySem.W.Fast.tw12085704313730850748 : Unit := ()
def PySem.W.Fast.tw12002945774493792463 : Unit := ()
def PySem.W.Fast.tw14863784633409069779 : Unit := ()
def PySem.W.Fast.tw13326674542698938952 : Unit := ()
def PySem.W.Fast.tw9355407365524152646 : Unit := ()
def PySem.W.Fast.tw13362412809040186172 : Unit := ()
def PySem.W.Fast.tw11775173380760066970 : Unit := ()
def PySem.W.Fast.tw17102039253383904042 : Unit := ()
def PySem.W.Fast.tw269009767217848238 : Unit := ()
def PySem.W.Fast.tw10593978590704139850 : Unit := ()
def PySem.W.Fast.tw14943786286124260730 : Unit := ()
def PySem.W.Fast.tw776912128398364921 : Unit := ()
def PySem.W.Fast.tw18165037996907896644 : Unit := ()
def PySem.W.Fast.tw16801853600504038622 : Unit := ()
open PySem PySem.W PyProof.Rows
set_option maxRecDepth 100000 in
set_option maxHeartbeats 0 in
theorem PySem.Challenge.cw_cisternyard_k04_water_above_lines_holds : PySem.Challenge.rw_cisternyard_k04_water_above_lines.Holds := by
  w_on; o_law; k_head; (case hw => w_witness2)
  k_fill
  refine Z.walk (l := PySem.Challenge.rw_cisternyard_k04_water_above_lines) rfl rfl (fun w h Y => PySem.W.kIn_of Y) ?F
  case F =>
    intro w mg fa h KX G hmg
    refine' Z.all_mk (cT := 0) KX G hmg ?aC ?acY ?acB ?acD ?acL ?a_m50 ?a_m4 ?a_m30 ?a_m8 ?a_is_whole ?l_is_whole ?c_is_whole ?k_is_whole ?a_are_whole ?l_are_whole ?c_are_whole ?k_are_whole ?a_check_day ?l_check_day ?c_check_day ?k_check_day ?a_check_days ?l_check_days ?c_check_days ?k_check_days ?a_check_line ?l_check_line ?c_check_line ?k_check_line ?a_check_days_and_line ?l_check_days_and_line ?c_check_days_and_line ?k_check_days_and_line ?a_water_above ?l_water_above ?c_water_above ?k_water_above ?a_wishes_above ?l_wishes_above ?c_wishes_above ?k_wishes_above ?a_check_yard ?l_check_yard ?c_check_yard ?k_check_yard ?a_m_init ?i_m_init ?l_m_init ?c_m_init ?k_m_init ?a_m_rooms ?i_m_rooms ?l_m_rooms ?c_m_rooms ?k_m_rooms ?a_m_waters ?i_m_waters ?l_m_waters ?c_m_waters ?k_m_waters ?a_m_day ?i_m_day ?l_m_day ?c_m_day ?k_m_day ?a_law_drawn ?l_law_drawn ?c_law_drawn ?k_law_drawn ?a_law_whole ?l_law_whole ?c_law_whole ?k_law_whole ?a_law_row ?l_law_row ?c_law_row ?k_law_row ?a_law_yard_by ?l_law_yard_by ?c_law_yard_by ?k_law_yard_by ?a_law_days_by ?l_law_days_by ?c_law_days_by ?k_law_days_by ?a_law_copied ?l_law_copied ?c_law_copied ?k_law_copied ?a_law_run ?l_law_run ?c_law_run ?k_law_run ?a_law_lived ?l_law_lived ?c_law_lived ?k_law_lived ?a_law_water ?l_law_water ?c_law_water ?k_law_water ?a_law_wishes ?l_law_wishes ?c_law_wishes ?k_law_wishes ?a_law_told ?l_law_told ?c_law_told ?k_law_told ?a_law_spoilt ?l_law_spoilt ?c_law_spoilt ?k_law_spoilt ?a_law_line_spoilt ?l_law_line_spoilt ?c_law_line_spoilt ?k_law_line_spoilt ?a_law ?l_law ?c_law ?k_law ?pg ?hd ?po ?sa ?nS ?nL ?yB ?yD ?yL ?xclD ?xgaD ?xghD ?xcaD ?xgtD ?xtkD ?xmoD ?xmbD ?xeD ?iDB ?iDD ?iDL ?iDV ?xclL ?xgaL ?xghL ?xcaL ?xgtL ?xtkL ?xmoL ?xmbL ?xeL ?iLB ?iLD ?iLL ?iLV ?z_len ?z_range ?z_isi ?z_list ?z_all ?z_any ?z_zip ?z_int ?z_bool ?z_ve ?z_min ?z_tup ?z_max ?z_sum ?z_enu ?z_str ?ki ?kib ?kll ?ktt ?kbb ?kss ?mk ?kc
    (case aC => k_is)
    (case acY => k_is)
    (case acB => k_is)
    (case acD => k_is)
    (case acL => k_is)
    (case a_m50 => k_is)
    (case a_m4 => k_is)
    (case a_m30 => k_is)
    (case a_m8 => k_is)
    (case a_is_whole => k_is)
    (case l_is_whole => k_is)
    (case c_is_whole => k_is)
    (case k_is_whole => k_is)
    (case a_are_whole => k_is)
    (case l_are_whole => k_is)
    (case c_are_whole => k_is)
    (case k_are_whole => k_is)
    (case a_check_day => k_is)
    (case l_check_day => k_is)
    (case c_check_day => k_is)
    (case k_check_day => k_is)
    (case a_check_days => k_is)
    (case l_check_days => k_is)
    (case c_check_days => k_is)
    (case k_check_days => k_is)
    (case a_check_line => k_is)
    (case l_check_line => k_is)
    (case c_check_line => k_is)
    (case k_check_line => k_is)
    (case a_check_days_and_line => k_is)
    (case l_check_days_and_line => k_is)
    (case c_check_days_and_line => k_is)
    (case k_check_days_and_line => k_is)
    (case a_water_above => k_is)
    (case l_water_above => k_is)
    (case c_water_above => k_is)
    (case k_water_above => k_is)
    (case a_wishes_above => k_is)
    (case l_wishes_above => k_is)
    (case c_wishes_above => k_is)
    (case k_wishes_above => k_is)
    (case a_check_yard => k_is)
    (case l_check_yard => k_is)
    (case c_check_yard => k_is)
    (case k_check_yard => k_is)
    (case a_m_init => k_is)
    (case i_m_init => k_is)
    (case l_m_init => k_is)
    (case c_m_init => k_is)
    (case k_m_init => k_is)
    (case a_m_rooms => k_is)
    (case i_m_rooms => k_is)
    (case l_m_rooms => k_is)
    (case c_m_rooms => k_is)
    (case k_m_rooms => k_is)
    (case a_m_waters => k_is)
    (case i_m_waters => k_is)
    (case l_m_waters => k_is)
    (case c_m_waters => k_is)
    (case k_m_waters => k_is)
    (case a_m_day => k_is)
    (case i_m_day => k_is)
    (case l_m_day => k_is)
    (case c_m_day => k_is)
    (case k_m_day => k_is)
    (case a_law_drawn => k_is)
    (case l_law_drawn => k_is)
    (case c_law_drawn => k_is)
    (case k_law_drawn => k_is)
    (case a_law_whole => k_is)
    (case l_law_whole => k_is)
    (case c_law_whole => k_is)
    (case k_law_whole => k_is)
    (case a_law_row => k_is)
    (case l_law_row => k_is)
    (case c_law_row => k_is)
    (case k_law_row => k_is)
    (case a_law_yard_by => k_is)
    (case l_law_yard_by => k_is)
    (case c_law_yard_by => k_is)
    (case k_law_yard_by => k_is)
    (case a_law_days_by => k_is)
    (case l_law_days_by => k_is)
    (case c_law_days_by => k_is)
    (case k_law_days_by => k_is)
    (case a_law_copied => k_is)
    (case l_law_copied => k_is)
    (case c_law_copied => k_is)
    (case k_law_copied => k_is)
    (case a_law_run => k_is)
    (case l_law_run => k_is)
    (case c_law_run => k_is)
    (case k_law_run => k_is)
    (case a_law_lived => k_is)
    (case l_law_lived => k_is)
    (case c_law_lived => k_is)
    (case k_law_lived => k_is)
    (case a_law_water => k_is)
    (case l_law_water => k_is)
    (case c_law_water => k_is)
    (case k_law_water => k_is)
    (case a_law_wishes => k_is)
    (case l_law_wishes => k_is)
    (case c_law_wishes => k_is)
    (case k_law_wishes => k_is)
    (case a_law_told => k_is)
    (case l_law_told => k_is)
    (case c_law_told => k_is)
    (case k_law_told => k_is)
    (case a_law_spoilt => k_is)
    (case l_law_spoilt => k_is)
    (case c_law_spoilt => k_is)
    (case k_law_spoilt => k_is)
    (case a_law_line_spoilt => k_is)
    (case l_law_line_spoilt => k_is)
    (case c_law_line_spoilt => k_is)
    (case k_law_line_spoilt => k_is)
    (case a_law => k_is)
    (case l_law => k_is)
    (case c_law => k_is)
    (case k_law => k_is)
    (case pg => k_is)
    (case hd => k_is)
    (case po => k_is)
    (case sa => k_is)
    (case nS => k_is)
    (case nL => k_is)
    (case yB => k_exc)
    (case yD => k_exc)
    (case yL => k_exc)
    (case xclD => k_is)
    (case xgaD => k_is)
    (case xghD => k_is)
    (case xcaD => k_is)
    (case xgtD => k_is)
    (case xtkD => k_is)
    (case xmoD => k_is)
    (case xmbD => k_is)
    (case xeD => kts_exm)
    (case iDB => kit_is)
    (case iDD => kit_is)
    (case iDL => kit_is)
    (case iDV => kit_is)
    (case xclL => k_is)
    (case xgaL => k_is)
    (case xghL => k_is)
    (case xcaL => k_is)
    (case xgtL => k_is)
    (case xtkL => k_is)
    (case xmoL => k_is)
    (case xmbL => k_is)
    (case xeL => kts_exm)
    (case iLB => kit_is)
    (case iLD => kit_is)
    (case iLL => kit_is)
    (case iLV => kit_is)
    (case z_len => k_is)
    (case z_range => k_is)
    (case z_isi => k_is)
    (case z_list => k_is)
    (case z_all => k_is)
    (case z_any => k_is)
    (case z_zip => k_is)
    (case z_int => k_is)
    (case z_bool => k_is)
    (case z_ve => k_is)
    (case z_min => k_is)
    (case z_tup => k_is)
    (case z_max => k_is)
    (case z_sum => k_is)
    (case z_enu => k_is)
    (case z_str => k_is)
    (case ki => kit_is)
    (case kib => kit_is)
    (case kll => kit_is)
    (case ktt => kit_is)
    (case kbb => kit_is)
    (case kss => kit_is)
    (case mk => k_is)
    (case kc => k_is)
