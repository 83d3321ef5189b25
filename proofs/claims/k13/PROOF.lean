import PyProof.Rows.All
import Wide.All
import OpenK.AllK
import Wide.FinOn
import Lean
import PyProof.EqAt
import PyProof.EqKinds
import PyProof.TupleCall
import PyProof.NeKinds
import PyProof.ZipIter
import PyProof.EnumFor
import PyProof.EnumMake
import PyProof.StrCalls2
import PyProof.StrLawsTight
import PyProof.Rows.FStrParts
import PyProof.Rows.StrNews
import PySem.Challenge.RW_cisternyard_k13_texts_refused
-- CHANGE: your row's module here, as the last of these rows
set_option Elab.async false
set_option linter.all false
set_option maxRecDepth 100000
/-! THE HAND LAYER, for ints, bools, texts, own classes, LISTS and tuples (index, slices, in, append, pop ..), calls, loops. Paste it whole ahead of your own text; what your proof does not reach may be deleted. -/
namespace L2
open PySem PySem.Spec PyProof.Rows

/-- a key: an int or a str -/
abbrev Key := Sum Int Str
def keyIs : Key → Value → Bool
  | .inl k, v => Value.isInt k v
  | .inr x, v => Value.isStrOf x v
def keyH (w : World) : Key → Int
  | .inl k => hashInt k
  | .inr x => hashStr w x
theorem keyIs_shape : ∀ {k : Key} {v : Value}, keyIs k v = true → (∃ i t, k = Sum.inl i ∧ v = Value.int i t) ∨ (∃ x t, k = Sum.inr x ∧ v = Value.str x t)
  | .inl i, v, h => by
    obtain ⟨t, e⟩ := Value.isInt_shape (k := i) (v := v) h
    exact .inl ⟨i, t, rfl, e⟩
  | .inr x, v, h => by
    obtain ⟨t, e⟩ := Value.isStrOf_shape (x := x) (v := v) h
    exact .inr ⟨x, t, rfl, e⟩
theorem key_ll (a b : Int) : decide ((Sum.inl a : Key) = Sum.inl b) = (a == b) := by
  by_cases e : a = b
  · subst e; simp
  · have h : ¬ (Sum.inl a : Key) = Sum.inl b := fun q => e (Sum.inl.inj q)
    rw [decide_eq_false h]
    exact (beq_eq_false_iff_ne.mpr e).symm
theorem key_rr (a b : Str) : decide ((Sum.inr a : Key) = Sum.inr b) = decide (a = b) := by
  by_cases e : a = b
  · subst e; simp
  · have h : ¬ (Sum.inr a : Key) = Sum.inr b := fun q => e (Sum.inr.inj q)
    rw [decide_eq_false h, decide_eq_false e]
theorem key_lr (a : Int) (b : Str) : decide ((Sum.inl a : Key) = Sum.inr b) = false := decide_eq_false (fun q => nomatch q)
theorem key_rl (a : Str) (b : Int) : decide ((Sum.inr a : Key) = Sum.inl b) = false := decide_eq_false (fun q => nomatch q)

def mixKind (prog : Program) (w : World) : PySem.KeyKind prog w Key where
  is := keyIs
  hash := keyH w
  inj := fun v a b ha hb => by
    rcases keyIs_shape ha with ⟨i, t, rfl, rfl⟩ | ⟨x, t, rfl, rfl⟩
    · rcases keyIs_shape hb with ⟨j, u, rfl, e⟩ | ⟨y, u, rfl, e⟩
      · injection e with e1 _; rw [e1]
      · exact nomatch e
    · rcases keyIs_shape hb with ⟨j, u, rfl, e⟩ | ⟨y, u, rfl, e⟩
      · exact nomatch e
      · injection e with e1 _; rw [e1]
  byValue := fun k v h => by
    rcases keyIs_shape h with ⟨i, t, rfl, rfl⟩ | ⟨x, t, rfl, rfl⟩ <;> rfl
  pyHash := fun hv h => by
    rcases keyIs_shape hv with ⟨i, t, rfl, rfl⟩ | ⟨x, t, rfl, rfl⟩
    · exact wpAny_pyHash_int h
    · exact wpAny_pyHash_str h
  eqBool := fun hu hv h => by
    rcases keyIs_shape hu with ⟨i, t, rfl, rfl⟩ | ⟨x, t, rfl, rfl⟩
    · rcases keyIs_shape hv with ⟨j, u, rfl, rfl⟩ | ⟨y, u, rfl, rfl⟩
      · rw [key_ll] at h; exact wpAny_eqBool_int h
      · rw [key_lr] at h; exact SeqAt.EqAt.int_str i t y u _ _ _ _ h
    · rcases keyIs_shape hv with ⟨j, u, rfl, rfl⟩ | ⟨y, u, rfl, rfl⟩
      · rw [key_rl] at h; exact SeqAt.EqAt.str_int x t j u _ _ _ _ h
      · rw [key_rr] at h; exact wpAny_eqBool_str h
  «strs» := fun k x t v h => by
    rcases keyIs_shape h with ⟨i, u, rfl, e⟩ | ⟨y, u, rfl, e⟩
    · exact nomatch e
    · injection e with e1 _
      subst e1
      cases v <;> rfl

end L2

namespace L2
open PySem PySem.Spec PyProof.Rows

/-- a value, without the heap -/
inductive V where
  | non | bl (b : Bool) | int (i : Int) | str (x : Str) | byt (b : Array UInt8) | flt (b : UInt64) | ref (a : Addr) | ty (n : String)
  deriving DecidableEq

def RelV : V → Value → Prop
  | .non, u => u = Value.none
  | .bl b, u => u = Value.bool b
  | .int i, u => ∃ t, u = Value.int i t
  | .str x, u => ∃ t, u = Value.str x t
  | .byt b, u => ∃ t, u = Value.bytes b t
  | .flt b, u => ∃ t, u = Value.float b t
  | .ref a, u => u = Value.ref a
  | .ty n, u => u = Value.type n

abbrev Vals : List V → List Value → Prop := Paired RelV
theorem Vals.length {xs : List V} {us : List Value} (r : Vals xs us) : xs.length = us.length := Paired.length r
theorem Vals.get : ∀ {xs : List V} {us : List Value} {i : Nat} {x : V}, Vals xs us → xs[i]? = some x → ∃ u, us[i]? = some u ∧ RelV x u
  | _, _, _, _, .nil, e => by simp at e
  | _, _, 0, _, .cons r _, e => by simp at e; subst e; exact ⟨_, rfl, r⟩
  | _, _, i + 1, x, .cons _ t, e => by
    obtain ⟨u, h1, h2⟩ := Vals.get (i := i) (x := x) t (by simpa using e)
    exact ⟨u, by simpa using h1, h2⟩
theorem Vals.append : ∀ {xs ys : List V} {us ws : List Value}, Vals xs us → Vals ys ws → Vals (xs ++ ys) (us ++ ws)
  | _, _, _, _, .nil, s => s
  | _, _, _, _, .cons r t, s => .cons r (Vals.append t s)
theorem Vals.take : ∀ {xs : List V} {us : List Value} (n : Nat), Vals xs us → Vals (xs.take n) (us.take n)
  | _, _, 0, _ => .nil
  | _, _, _ + 1, .nil => .nil
  | _, _, n + 1, .cons r t => .cons r (Vals.take n t)
theorem Vals.drop : ∀ {xs : List V} {us : List Value} (n : Nat), Vals xs us → Vals (xs.drop n) (us.drop n)
  | _, _, 0, r => r
  | _, _, _ + 1, .nil => .nil
  | _, _, n + 1, .cons _ t => Vals.drop n t
def RelO : Option V → Option Value → Prop
  | some v, some u => RelV v u
  | none, none => True
  | _, _ => False
def KV {κ : Type} : List (κ × V) → List (κ × Value) → Prop := Paired fun (p : κ × V) (q : κ × Value) => p.1 = q.1 ∧ RelV p.2 q.2

/-- a key of a dict (00_mix): an int or a text -/
def kV : Key → V
  | .inl i => .int i
  | .inr x => .str x

/-- what stands at a tracked address -/
inductive HO where
  /-- a list -/
  | lst (xs : List V)
  /-- a tuple (never changes) -/
  | tup (xs : List V)
  /-- a dict whose keys are ints and texts; one whose keys are tuples of ints and texts (the empty one is both) -/
  | dK (kvs : List (Key × V)) | dT (kvs : List (List Key × V))
  /-- a set of ints: its members, its size -/
  | set (S : Int → Bool) (n : Nat)
  /-- an instance of the class at C, its dict at dx, its attributes -/
  | ins (C dx : Addr) (fs : List (Str × V))
  /-- the dict of the instance at x -/
  | own (x : Addr)
  /-- the dict of an exception -/
  | xd (fs : List (Str × V))
  /-- a bound method, f of x -/
  | met (f x : Addr)
  /-- a range object lo, lo + 1, .. below hi -/
  | rng (lo hi : Int)
  /-- a thing that is known to the object (the script; a dict while a loop walks it): read, never written while it is so -/
  | frz (o : Obj) (u : HO)
  /-- a code object's table -/
  | tbl (ps : Array Value)
  /-- any other thing, by what is true of its one object (a def of one's own: SetO a S n := HO.ext fun h => ..) -/
  | ext (φ : Heap → Prop)

abbrev Hp := Addr → Option HO
def upd (H : Hp) (a : Addr) (o : HO) : Hp := fun b => if b = a then some o else H b
theorem upd_same {H : Hp} {a : Addr} {o : HO} : upd H a o a = some o := by unfold upd; rw [if_pos rfl]
theorem upd_ne {H : Hp} {a b : Addr} {o : HO} (h : b ≠ a) : upd H a o b = H b := by unfold upd; rw [if_neg h]
theorem upd_upd {H : Hp} {a : Addr} {o u : HO} : upd (upd H a o) a u = upd H a u := by
  funext b; unfold upd; split <;> rfl
/-- two objects of different content stand apart -/
theorem ne_of {H : Hp} {a b : Addr} {o u : HO} (h : H a = some o) (h' : H b = some u) (d : o ≠ u) : a ≠ b := by
  intro e; subst e; rw [h] at h'; exact d (Option.some.inj h')
theorem ne_of_none {H : Hp} {a b : Addr} {o : HO} (h : H a = some o) (h' : H b = none) : a ≠ b := by
  intro e; subst e; rw [h] at h'; cases h'

section
variable (P : Program) (w : World)
def ObjOk (H : Hp) (h : Heap) (a : Addr) : HO → Prop
  | .lst xs => xs.length ≤ sizeLine ∧ ∃ (its : List Value) (n : Nat), Vals xs its ∧ h.get? a = some { cls := .type "list", data := .seq its.toArray n }
  | .tup xs => xs.length ≤ sizeLine ∧ ∃ its : List Value, Vals xs its ∧ IsTup h a its.toArray
  | .dK kvs => kvs.length ≤ sizeLine ∧ (a == sysModules) = false ∧ ∃ vs, KV kvs vs ∧ h.DictOf (mixKind P w) a vs
  | .dT kvs => kvs.length ≤ sizeLine ∧ (a == sysModules) = false ∧ ∃ xs : List (List Key × Addr × Value),
      Paired (fun (p : List Key × V) (q : List Key × Addr × Value) => p.1 = q.1 ∧ H q.2.1 = some (.tup (p.1.map kV)) ∧ RelV p.2 q.2.2) kvs xs ∧
      ∃ o es ep, h.get? a = some o ∧ o.ExactDict ∧ o.data = .dict es ep ∧ es.toList = xs.map (entryOfKey (tupleKind (mixKind P w))) ∧ (xs.map (·.1)).Nodup
  | .set S n => h.SetOf (intKind P w) a S n
  | .ins C dx fs => H dx = some (.own a) ∧ fs.length ≤ 1000 ∧ dx ≠ a ∧ h.get? a = some (PySem.W.instObj C dx) ∧
      ∃ mA, h.Ns1 dx mA ∧ (∀ f, RelO (fs.lookup f) (mA f)) ∧ PySem.Within mA (fs.map (·.1))
  | .own _ => ∃ o, h.get? a = some o
  | .xd fs => ∃ mA, h.Ns1 a mA ∧ ∀ f, RelO (fs.lookup f) (mA f)
  | .rng lo hi => ∃ t u v, h.get? a = some { cls := .type "range", data := .fields #[.int lo t, .int hi u, .int 1 v] }
  | .frz o u => h.get? a = some o ∧ ObjOk H h a u
  | .tbl ps => h.get? a = some { cls := .none, data := .fields ps }
  | .met f x => h.get? a = some (PySem.W.methodObj (.ref f) (.ref x))
  | .ext φ => φ h ∧ (∃ o, h.get? a = some o) ∧ ∀ h1 h2 : Heap, φ h1 → (∀ o, h1.get? a = some o → h2.get? a = some o) → φ h2
/-- the abstract heap is held -/
def HOk (H : Hp) (h : Heap) : Prop := ∀ a o, H a = some o → ObjOk P w H h a o
end

section
variable {P : Program} {w : World} {H H' : Hp} {h h' : Heap} {a : Addr} {o : HO}
theorem ObjOk.lt (x : ObjOk P w H h a o) : a < h.objs.size := by
  cases o with
  | lst xs => obtain ⟨_, _, _, _, e⟩ := x; exact Heap.lt_size e
  | tup xs => obtain ⟨_, _, _, p⟩ := x; exact p.lt
  | dK kvs => obtain ⟨_, _, _, _, o, _, _, e, _⟩ := x; exact Heap.lt_size e
  | dT kvs => obtain ⟨_, _, _, _, o, _, _, e, _⟩ := x; exact Heap.lt_size e
  | set S n => obtain ⟨o, _, _, _, e, _⟩ := x; exact Heap.lt_size e
  | ins C dx fs => obtain ⟨_, _, _, e, _⟩ := x; exact Heap.lt_size e
  | own y => obtain ⟨_, e⟩ := x; exact Heap.lt_size e
  | xd fs => obtain ⟨_, ⟨_, _, _, e, _⟩, _⟩ := x; exact Heap.lt_size e
  | rng lo hi => obtain ⟨_, _, _, e⟩ := x; exact Heap.lt_size e
  | frz ob u => obtain ⟨e, _⟩ := x; exact Heap.lt_size e
  | tbl ps => exact Heap.lt_size (show h.get? a = some _ from x)
  | met f y => exact Heap.lt_size (show h.get? a = some _ from x)
  | ext φ => obtain ⟨_, ⟨_, e⟩, _⟩ := x; exact Heap.lt_size e
theorem Paired.mapP {α β : Type} {F G : α → β → Prop} : ∀ {l₁ : List α} {l₂ : List β}, Paired F l₁ l₂ → (∀ a b, F a b → G a b) → Paired G l₁ l₂
  | _, _, .nil, _ => .nil
  | _, _, .cons r t, f => .cons (f _ _ r) (Paired.mapP t f)
/-- what an object's description leans on: its own object, its own dict, the tuples -/
theorem ObjOk.stay (x : ObjOk P w H h a o) (k : ∀ b u, (b = a ∨ H b = some (.own a)) → h.get? b = some u → h'.get? b = some u)
    (ho : ∀ b, H b = some (.own a) → H' b = some (.own a)) (ht : ∀ b xs, H b = some (.tup xs) → H' b = some (.tup xs)) : ObjOk P w H' h' a o := by
  induction o with
  | lst xs => obtain ⟨z, its, n, r, e⟩ := x; exact ⟨z, its, n, r, k _ _ (.inl rfl) e⟩
  | tup xs => obtain ⟨z, its, r, ob, e, c⟩ := x; exact ⟨z, its, r, ob, k _ _ (.inl rfl) e, c⟩
  | dK kvs => obtain ⟨z, y, vs, r, ob, es, ep, e, c⟩ := x; exact ⟨z, y, vs, r, ob, es, ep, k _ _ (.inl rfl) e, c⟩
  | dT kvs =>
    obtain ⟨z, y, xs, r, ob, es, ep, e, c⟩ := x
    exact ⟨z, y, xs, Paired.mapP r fun p q z => ⟨z.1, ht _ _ z.2.1, z.2.2⟩, ob, es, ep, k _ _ (.inl rfl) e, c⟩
  | set S n => obtain ⟨ob, es, ep, t, e, c⟩ := x; exact ⟨ob, es, ep, t, k _ _ (.inl rfl) e, c⟩
  | ins C dx fs =>
    obtain ⟨d, z, ne, e, mA, ⟨od, es, ep, e2, c⟩, r⟩ := x
    exact ⟨ho _ d, z, ne, k _ _ (.inl rfl) e, mA, ⟨od, es, ep, k _ _ (.inr d) e2, c⟩, r⟩
  | own y => obtain ⟨ob, e⟩ := x; exact ⟨ob, k _ _ (.inl rfl) e⟩
  | xd fs => obtain ⟨mA, ⟨od, es, ep, e, c⟩, r⟩ := x; exact ⟨mA, ⟨od, es, ep, k _ _ (.inl rfl) e, c⟩, r⟩
  | rng lo hi => obtain ⟨t, u, v, e⟩ := x; exact ⟨t, u, v, k _ _ (.inl rfl) e⟩
  | frz ob u ih => obtain ⟨e, q⟩ := x; exact ⟨k _ _ (.inl rfl) e, ih q⟩
  | tbl ps =>
    have e : h.get? a = some { cls := .none, data := .fields ps } := x
    show h'.get? a = some { cls := .none, data := .fields ps }
    exact k a _ (.inl rfl) e
  | met f y =>
    have e : h.get? a = some (PySem.W.methodObj (.ref f) (.ref y)) := x
    show h'.get? a = some (PySem.W.methodObj (.ref f) (.ref y))
    exact k a _ (.inl rfl) e
  | ext φ => obtain ⟨p, ⟨o, e⟩, st⟩ := x; exact ⟨st _ _ p fun o q => k _ _ (.inl rfl) q, ⟨o, k _ _ (.inl rfl) e⟩, st⟩
theorem HOk.lt (x : HOk P w H h) (e : H a = some o) : a < h.objs.size := (x a o e).lt
theorem HOk.fresh (x : HOk P w H h) (e : h.objs.size ≤ a) : H a = none := by
  cases q : H a with
  | none => rfl
  | some u => exact absurd (Nat.lt_of_lt_of_le (x.lt q) e) (Nat.lt_irrefl _)
/-- every object of the heap is kept -/
theorem HOk.kept (x : HOk P w H h) (k : ∀ b u, h.get? b = some u → h'.get? b = some u) : HOk P w H h' := fun a o e =>
  (x a o e).stay (fun b u _ q => k b u q) (fun _ q => q) fun _ _ q => q
/-- a new object is laid and tracked -/
theorem HOk.laid (x : HOk P w H h) (k : ∀ b u, h.get? b = some u → h'.get? b = some u) (hp : h.objs.size ≤ a) (new : ObjOk P w (upd H a o) h' a o) : HOk P w (upd H a o) h' := fun b u e => by
  have hn := x.fresh hp
  by_cases hb : b = a
  · subst hb; rw [upd_same] at e; cases e; exact new
  · rw [upd_ne hb] at e
    exact (x b u e).stay (fun c v _ q => k c v q) (fun c q => by rw [upd_ne (ne_of_none q hn)]; exact q) fun c xs q => by rw [upd_ne (ne_of_none q hn)]; exact q
end

/-- what may be read as u: it is u, or a known u -/
def Rd (H : Hp) (a : Addr) (u : HO) : Prop := H a = some u ∨ ∃ o, H a = some (.frz o u)
theorem Rd.ok {P : Program} {w : World} {H : Hp} {h : Heap} {a : Addr} {u : HO} (r : Rd H a u) (x : HOk P w H h) : ObjOk P w H h a u := by
  rcases r with r | ⟨o, r⟩
  · exact x a u r
  · obtain ⟨_, q⟩ := x a _ r
    exact q
/-- what may be written -/
def Mut : Option HO → Prop
  | some (.lst _) => True
  | some (.dK _) => True
  | some (.dT _) => True
  | some (.set _ _) => True
  | some (.ins _ _ _) => True
  | some (.ext _) => True
  | _ => False
section
variable {P : Program} {w : World} {H : Hp} {h h' : Heap} {x e : Addr} {o' : HO}
/-- the object at e is changed: x itself, or the dict of the instance x -/
theorem HOk.write (ok : HOk P w H h) (mu : Mut (H x)) (he : e = x ∨ H e = some (.own x)) (k : ∀ b u, b ≠ e → h.get? b = some u → h'.get? b = some u) (heo : ∃ u, h'.get? e = some u)
    (new : ObjOk P w (upd H x o') h' x o') : HOk P w (upd H x o') h' := fun b u q => by
  have nown : ∀ c y, H c = some (.own y) → c ≠ x := fun c y r z => by subst z; rw [r] at mu; exact mu
  have ntup : ∀ c xs, H c = some (.tup xs) → c ≠ x := fun c xs r z => by subst z; rw [r] at mu; exact mu
  by_cases hb : b = x
  · subst hb; rw [upd_same] at q; cases q; exact new
  · rw [upd_ne hb] at q
    by_cases hbe : b = e
    · have q' : H b = some (.own x) := by
        rcases he with z | z
        · exact absurd (hbe.trans z) hb
        · rw [hbe]; exact z
      rw [q] at q'; cases q'
      obtain ⟨v, hv⟩ := heo
      exact ⟨v, by rw [hbe]; exact hv⟩
    · refine (ok b u q).stay (fun c v hc r => k c v ?_ r) (fun c r => by rw [upd_ne (nown c b r)]; exact r) fun c xs r => by rw [upd_ne (ntup c xs r)]; exact r
      rcases hc with rfl | hc
      · exact hbe
      · rintro rfl
        rcases he with z | z
        · exact nown c b hc z
        · rw [hc] at z; cases z; exact hb rfl
end

/-! ### kept unless tracked; of the frames at fs (the callers') the slots may change (an exception that passes writes there); of the records at ex (iterators) nothing is said -/
structure Un (fs ex : List Addr) (H H' : Hp) (h h' : Heap) : Prop where
  keep : ∀ b o, h.get? b = some o → H b = none → b ∉ fs → b ∉ ex → h'.get? b = some o
  slot : ∀ b o, h.get? b = some o → H b = none → b ∈ fs → b ∉ ex → ∃ sl, h'.get? b = some { o with slots := sl }
  free : ∀ b o, h.get? b = some o → H b = none → b ∉ ex → H' b = none
  there : ∀ b o, h.get? b = some o → b ∉ ex → ∃ o', h'.get? b = some o'
  tups : ∀ b xs, H b = some (.tup xs) → H' b = some (.tup xs)
  frzs : ∀ b o u, H b = some (.frz o u) → H' b = some (.frz o u)
  tbls : ∀ b ps, H b = some (.tbl ps) → ∃ more, H' b = some (.tbl (ps ++ more))
section
variable {fs fs' ex ex' : List Addr} {H H1 H2 : Hp} {h h1 h2 h' : Heap} {a x e : Addr} {o : HO}
theorem Un.any (u : Un fs ex H H1 h h1) {b : Addr} {ob : Obj} (q : h.get? b = some ob) (n : H b = none) (hx : b ∉ ex) : ∃ sl, h1.get? b = some { ob with slots := sl } := by
  by_cases hb : b ∈ fs
  · exact u.slot b ob q n hb hx
  · exact ⟨ob.slots, u.keep b ob q n hb hx⟩
theorem Un.kept (k : ∀ b u, h.get? b = some u → h'.get? b = some u) : Un fs ex H H h h' :=
  ⟨fun b ob q _ _ _ => k b ob q, fun b ob q _ _ _ => ⟨ob.slots, k b ob q⟩, fun _ _ _ n _ => n, fun b ob q _ => ⟨ob, k b ob q⟩, fun _ _ q => q, fun _ _ _ q => q, fun _ ps q => ⟨#[], by rw [q]; simp⟩⟩
theorem Un.refl : Un fs ex H H h h := Un.kept fun _ _ q => q
theorem Un.laid (k : ∀ b u, h.get? b = some u → h'.get? b = some u) (hp : h.objs.size ≤ a) (hn : H a = none) : Un fs ex H (upd H a o) h h' where
  keep := fun b u q _ _ _ => k b u q
  slot := fun b u q _ _ _ => ⟨u.slots, k b u q⟩
  free := fun b u q n _ => by rw [upd_ne (Nat.ne_of_lt (Nat.lt_of_lt_of_le (Heap.lt_size q) hp))]; exact n
  there := fun b u q _ => ⟨u, k b u q⟩
  tups := fun b xs q => by rw [upd_ne (ne_of_none q hn)]; exact q
  frzs := fun b u xs q => by rw [upd_ne (ne_of_none q hn)]; exact q
  tbls := fun b ps q => ⟨#[], by rw [upd_ne (ne_of_none q hn), q]; simp⟩
theorem Un.write (mu : Mut (H x)) (he : e = x ∨ H e = some (.own x)) (k : ∀ b u, b ≠ e → h.get? b = some u → h'.get? b = some u) (heo : ∃ u, h'.get? e = some u) : Un fs ex H (upd H x o) h h' := by
  have hx : ∀ b, H b = none → b ≠ x := fun b n z => by subst z; rw [n] at mu; exact mu
  have hb : ∀ b, H b = none → b ≠ e := fun b n z => by
    subst z
    rcases he with r | r
    · exact hx b n r
    · rw [n] at r; cases r
  have hm : ∀ b u, H b = some u → ¬ Mut (some u) → b ≠ x := fun b u q nm z => by subst z; rw [q] at mu; exact nm mu
  refine ⟨fun b u q n _ _ => k b u (hb b n) q, fun b u q n _ _ => ⟨u.slots, k b u (hb b n) q⟩, fun b u q n _ => by rw [upd_ne (hx b n)]; exact n, fun b u q _ => ?_,
    fun b xs q => by rw [upd_ne (hm b _ q fun z => z)]; exact q, fun b u xs q => by rw [upd_ne (hm b _ q fun z => z)]; exact q, fun b ps q => ⟨#[], by rw [upd_ne (hm b _ q fun z => z), q]; simp⟩⟩
  by_cases hbe : b = e
  · subst hbe; exact heo
  · exact ⟨u, k b u hbe q⟩
end

/-! ### the heap without what is tracked -/
def trk (h : Heap) (H : Hp) : List Addr := (List.range h.objs.size).filter fun a => (H a).isSome
def hidT (h : Heap) (H : Hp) : Heap := PySem.W.hideAll h (trk h H)
theorem hidT_size (h : Heap) (H : Hp) : (hidT h H).objs.size = h.objs.size := PySem.W.hideAll_size _ _
theorem hidT_get {h : Heap} {H : Hp} {b : Addr} {o : Obj} (e : h.get? b = some o) (n : H b = none) : (hidT h H).get? b = some o :=
  PySem.W.hideAll_get _ e fun hm => by
    have q : (H b).isSome = true := (List.mem_filter.mp hm).2
    rw [n] at q; simp at q
theorem of_hidT {h : Heap} {H : Hp} {b : Addr} {o : Obj} (e : (hidT h H).get? b = some o) : h.get? b = some o ∧ H b = none := by
  have e' : h.get? b = some o := PySem.W.of_hideAll (trk h H) e
  refine ⟨e', ?_⟩
  cases q : H b with
  | none => rfl
  | some x =>
    have hm : b ∈ trk h H := List.mem_filter.mpr ⟨List.mem_range.mpr (Heap.lt_size e'), by simp [q]⟩
    have z : (hidT h H).get? b = none := PySem.W.hideAll_none (trk h H) hm
    rw [z] at e; cases e

/-! ### OpenK's ledger, filled with every new object but one -/
def allNews (g h : Heap) (L : Addr) : List (Addr × Obj) := (List.range h.objs.size).filterMap fun a => if a = L ∨ (g.get? a).isSome = true then none else (h.get? a).map fun o => (a, o)
def rest (g h : Heap) (L d : Addr) : List (Addr × Obj) := (allNews g h L).filter fun p => decide (p.1 ≠ d)
end L2

namespace L2
open PySem PySem.Spec PyProof.Rows

/-- the module's facts, over the base: the heap at the law's entry without what is tracked there -/
structure Mod (K : PySem.W.Frag) (mg : Str → Option Value) (base : Heap) : Prop where
  kin : K.In base
  glob : base.Ns mainGlobals mg
  blt : ∃ mb, base.Ns builtinsNs mb ∧ ∀ x : Str, x ≠ "__name__" → mb x = bootBuiltins x
  nolimit : base.NoLimit

/-- the context: a def's body (or a comprehension's block) running. base: fixed through the whole law; s₀, H₀: the entry; outer: the frames whose slots others may change (a def's callers); stack: all frames that run;
   ex: iterators that were made ahead of the entry and are walked here (a comprehension's); fn: the names whose cells were made at the entry (a def: all; a comprehension's block: its own); calm: not within an except suite; pn: pins that every state bears; xe: what is wanted of an exception that leaves the code -/
structure Cx where
  prog : Program
  w : World
  K : PySem.W.Frag
  mg : Str → Option Value
  base : Heap
  A : Around
  N : List Str
  s₀ : Shared
  H₀ : Hp
  env : Env
  outer : List Env
  stack : List Env
  ex : List Addr
  fn : Str → Bool
  calm : Bool
  pn : List (Addr × Obj)
  xe : Value → Shared → Prop
/-- the callers' frames -/
def frs (l : List Env) : List Addr := l.filterMap (·.frame)
abbrev Cx.fs (X : Cx) : List Addr := frs X.outer

def Vis (sc : Scope) (x : Str) : Prop := sc.names.lookup x = some .local ∨ sc.names.lookup x = some .cell ∨ sc.names.lookup x = some .free
def Loc (sc : Scope) (x : Str) : Prop := sc.names.lookup x = some .local ∨ sc.names.lookup x = some .cell
def Look (env : Env) (h : Heap) (m : Str → Option Value) (x : Str) (u : Value) : Prop :=
  (env.kindOf x = some .local ∧ m x = some u) ∨ ((env.kindOf x = some .cell ∨ env.kindOf x = some .free) ∧ ∃ c, env.cells.lookup x = some c ∧ h.IsCell c (some u))

structure Cx.Ok (X : Cx) : Prop where
  mod : Mod X.K X.mg X.base
  kind : X.env.scope.kind = .function
  glob : X.env.globals = mainGlobals
  blt : X.env.builtins = builtinsNs
  above : X.s₀.heap.objs.size ≤ X.env.locals
  inj : ∀ x y c, X.env.cells.lookup x = some c → X.env.cells.lookup y = some c → x = y
  has : ∀ x, (X.env.kindOf x = some .cell ∨ X.env.kindOf x = some .free) → ∃ c, X.env.cells.lookup x = some c
  cab : ∀ x c, X.fn x = true → X.env.cells.lookup x = some c → X.s₀.heap.objs.size ≤ c
  hd : X.calm = true → X.A.handled = none
  frames : X.A.frames = some X.stack
  stk : X.stack = X.outer ∨ (X.stack = X.env :: X.outer ∧ X.env.frame = some X.env.locals)
  exf : ∀ b ∈ X.ex, b ≠ X.env.locals ∧ ∀ x c, X.env.cells.lookup x = some c → c ≠ b
  bs : ∀ b o, X.base.get? b = some o → X.s₀.heap.get? b = some o ∧ X.H₀ b = none
  bsz : X.base.objs.size ≤ X.s₀.heap.objs.size
  noex : ∀ b o, X.base.get? b = some o → b ∉ X.ex
  exfs : ∀ b ∈ X.ex, b ∉ X.fs
  funs : X.s₀.heap.FunFrames X.base X.outer
  frf : ∀ b ∈ X.fs, X.H₀ b = none

structure Inv (X : Cx) (pins : List (Addr × Obj)) (σ : List (Option V)) (H : Hp) (s : Shared) : Prop where
  ok : X.Ok
  os : s.os = X.s₀.os
  bare : AllBare s.gens
  base : Un X.fs X.ex X.H₀ H X.s₀.heap s.heap
  loc : ∃ m, s.heap.Ns X.env.locals m ∧ ∀ (i : Nat) (x : Str) (v : V), X.N[i]? = some x → σ[i]? = some (some v) → Vis X.env.scope x → ∃ u, RelV v u ∧ Look X.env s.heap m x u
  cell : ∀ x c, X.env.cells.lookup x = some c → ∃ v, s.heap.IsCell c v
  free : H X.env.locals = none
  freeC : ∀ x c, X.env.cells.lookup x = some c → H c = none
  pin : ∀ p ∈ X.pn ++ pins, s.heap.get? p.1 = some p.2 ∧ H p.1 = none ∧ p.1 ≠ X.env.locals ∧ p.1 ∉ X.fs ∧ ∀ v, p.2.data ≠ .cell v
  hok : HOk X.prog X.w H s.heap
  len : σ.length = X.N.length

section
variable {X : Cx} {pins : List (Addr × Obj)} {σ : List (Option V)} {H H' : Hp} {s : Shared} {h' : Heap}

theorem Cx.Ok.nofr (ok : X.Ok) {b : Addr} {o : Obj} (e : X.base.get? b = some o) : b ∉ X.fs := fun hb => by
  have := (ok.funs.mem hb).1
  rw [e] at this; cases this
theorem Inv.bs (I : Inv X pins σ H s) : ∀ b o, X.base.get? b = some o → s.heap.get? b = some o ∧ H b = none := fun b o e =>
  ⟨I.base.keep b o (I.ok.bs b o e).1 (I.ok.bs b o e).2 (I.ok.nofr e) (I.ok.noex b o e), I.base.free b o (I.ok.bs b o e).1 (I.ok.bs b o e).2 (I.ok.noex b o e)⟩
theorem Inv.bk (I : Inv X pins σ H s) : ∀ b o, X.base.get? b = some o → s.heap.get? b = some o := fun b o e => (I.bs b o e).1
theorem Inv.mod (I : Inv X pins σ H s) : Mod X.K X.mg X.base := I.ok.mod
theorem Inv.kIn (I : Inv X pins σ H s) : X.K.In s.heap := I.ok.mod.kin.keeps I.bk
theorem Inv.lt (I : Inv X pins σ H s) : X.env.locals < s.heap.objs.size := let ⟨_, hn, _⟩ := I.loc; hn.lt
theorem Inv.sz (I : Inv X pins σ H s) : X.s₀.heap.objs.size ≤ s.heap.objs.size := Nat.le_trans I.ok.above (Nat.le_of_lt I.lt)
theorem Inv.nofs (I : Inv X pins σ H s) {a : Addr} (h : s.heap.objs.size ≤ a) : a ∉ X.fs := fun hb => by
  obtain ⟨_, o, ho, _⟩ := I.ok.funs.mem hb
  exact absurd (Nat.lt_of_lt_of_le (Heap.lt_size ho) (Nat.le_trans I.sz h)) (Nat.lt_irrefl _)
theorem Inv.cne (I : Inv X pins σ H s) : ∀ x c, X.env.cells.lookup x = some c → c ≠ X.env.locals := fun x c e z => by
  obtain ⟨v, o, ho, hd⟩ := I.cell x c e
  obtain ⟨m, ⟨o', es, ep, ho', hd', _⟩, _⟩ := I.loc
  rw [z, ho'] at ho; cases ho; rw [hd'] at hd; cases hd
theorem Inv.funs (I : Inv X pins σ H s) : s.heap.FunFrames X.base X.outer := by
  have all : ∀ (l : List Env), (∀ b ∈ frs l, b ∈ X.fs) → X.s₀.heap.FunFrames X.base l → s.heap.FunFrames X.base l := by
    intro l
    induction l with
    | nil => intro _ _; trivial
    | cons env r ih =>
      intro hs hl
      obtain ⟨hk, ⟨L, o, hf, hn, ho, hd⟩, hr⟩ := hl
      have hL : L ∈ X.fs := hs L (by unfold frs; rw [List.filterMap_cons, hf]; exact List.mem_cons_self)
      obtain ⟨sl, e⟩ := I.base.slot L o ho (I.ok.frf L hL) hL fun z => I.ok.exfs L z hL
      exact ⟨hk, ⟨L, _, hf, hn, e, hd⟩, ih (fun b hb => hs b (by unfold frs; rw [List.filterMap_cons, hf]; exact List.mem_cons_of_mem _ hb)) hr⟩
  exact all X.outer (fun _ hb => hb) I.ok.funs

/-- the frames that run, for a call -/
theorem Inv.stack (I : Inv X pins σ H s) : s.heap.FunFrames X.base X.stack := by
  rcases I.ok.stk with e | ⟨e, hf⟩
  · rw [e]; exact I.funs
  · rw [e]
    obtain ⟨m, hn, _⟩ := I.loc
    refine .cons (by rw [I.ok.kind]; decide) hf hn ?_ I.funs
    exact Heap.get?_none_of_le (Nat.le_trans I.ok.bsz I.ok.above)
theorem Inv.stkSub (I : Inv X pins σ H s) : ∀ b ∈ frs X.stack, b ∈ X.env.locals :: X.fs := fun b hb => by
  rcases I.ok.stk with e | ⟨e, hf⟩
  · rw [e] at hb; exact List.mem_cons_of_mem _ hb
  · rw [e] at hb
    unfold frs at hb
    rw [List.filterMap_cons, hf] at hb
    exact hb
theorem Inv.stkFree (I : Inv X pins σ H s) : ∀ b ∈ frs X.stack, H b = none := fun b hb => by
  rcases List.mem_cons.mp (I.stkSub b hb) with e | hb
  · rw [e]; exact I.free
  · obtain ⟨_, o, ho, _⟩ := I.ok.funs.mem hb
    exact I.base.free b o ho (I.ok.frf b hb) fun z => I.ok.exfs b z hb

/-- THE STEP: the untracked objects but the frame and the records at ch are kept (the callers' frames up to slots), the frame's map is kept, the new abstract heap is held -/
theorem Inv.step {g' : Array GenState} {t' : Nat} {d' : Drawn} {ch : List Addr} (I : Inv X pins σ H s)
    (hch : ∀ b ∈ ch, (b ∈ X.ex ∨ X.s₀.heap.objs.size ≤ b) ∧ b ≠ X.env.locals ∧ (∀ x c, X.env.cells.lookup x = some c → c ≠ b) ∧ ∀ p ∈ X.pn ++ pins, p.1 ≠ b)
    (keep : ∀ b o, b ≠ X.env.locals → b ∉ X.fs → b ∉ ch → s.heap.get? b = some o → H b = none → h'.get? b = some o)
    (slot : ∀ b o, b ≠ X.env.locals → b ∈ X.fs → b ∉ ch → s.heap.get? b = some o → H b = none → ∃ sl, h'.get? b = some { o with slots := sl }) (free : ∀ b o, b ∉ ch → s.heap.get? b = some o → H b = none → H' b = none)
    (there : ∀ b o, b ∉ ch → s.heap.get? b = some o → ∃ o', h'.get? b = some o')
    (tups : ∀ b xs, H b = some (.tup xs) → H' b = some (.tup xs)) (frzs : ∀ b o u, H b = some (.frz o u) → H' b = some (.frz o u)) (tbls : ∀ b ps, H b = some (.tbl ps) → ∃ more, H' b = some (.tbl (ps ++ more)))
    (ns : ∀ m, s.heap.Ns X.env.locals m → h'.Ns X.env.locals m) (hok : HOk X.prog X.w H' h') (hg : AllBare g') :
    Inv X pins σ H' { s with heap := h', gens := g', drawn := d', toks := t' } := by
  have neL : ∀ b o, X.s₀.heap.get? b = some o → b ≠ X.env.locals := fun b o e => Nat.ne_of_lt (Nat.lt_of_lt_of_le (Heap.lt_size e) I.ok.above)
  have neC : ∀ b o, X.s₀.heap.get? b = some o → b ∉ X.ex → b ∉ ch := fun b o e hx hb => by
    rcases (hch b hb).1 with z | z
    · exact hx z
    · exact absurd (Nat.lt_of_lt_of_le (Heap.lt_size e) z) (Nat.lt_irrefl _)
  have cellK : ∀ x c, X.env.cells.lookup x = some c → ∀ v, s.heap.IsCell c v → h'.IsCell c v := fun x c e v ⟨o, ho, hd⟩ => by
    have nch : c ∉ ch := fun z => (hch c z).2.2.1 x c e rfl
    by_cases hc : c ∈ X.fs
    · obtain ⟨sl, q⟩ := slot c o (I.cne x c e) hc nch ho (I.freeC x c e)
      exact ⟨_, q, hd⟩
    · exact ⟨o, keep c o (I.cne x c e) hc nch ho (I.freeC x c e), hd⟩
  refine ⟨I.ok, I.os, hg, ⟨fun b o e n hb hx => ?_, fun b o e n hb hx => ?_, fun b o e n hx => ?_, fun b o e hx => ?_, fun b xs e => tups b xs (I.base.tups b xs e), fun b o xs e => frzs b o xs (I.base.frzs b o xs e), fun b ps e => ?_⟩, ?_, fun x c e => ?_, ?_, fun x c e => ?_, fun p hp => ?_, hok, I.len⟩
  · exact keep b o (neL b o e) hb (neC b o e hx) (I.base.keep b o e n hb hx) (I.base.free b o e n hx)
  · obtain ⟨sl, e1⟩ := I.base.slot b o e n hb hx
    obtain ⟨sl', e2⟩ := slot b _ (neL b o e) hb (neC b o e hx) e1 (I.base.free b o e n hx)
    exact ⟨sl', e2⟩
  · obtain ⟨o', e1⟩ := I.base.there b o e hx
    exact free b o' (neC b o e hx) e1 (I.base.free b o e n hx)
  · obtain ⟨o', e1⟩ := I.base.there b o e hx
    exact there b o' (neC b o e hx) e1
  · obtain ⟨m1, e1⟩ := I.base.tbls b ps e
    obtain ⟨m2, e2⟩ := tbls b _ e1
    exact ⟨m1 ++ m2, by rw [e2, Array.append_assoc]⟩
  · obtain ⟨m, hn, hl⟩ := I.loc
    refine ⟨m, ns m hn, fun i x v e1 e2 e3 => ?_⟩
    obtain ⟨u, r, l⟩ := hl i x v e1 e2 e3
    refine ⟨u, r, ?_⟩
    rcases l with l | ⟨k, c, e, z⟩
    · exact .inl l
    · exact .inr ⟨k, c, e, cellK x c e _ z⟩
  · obtain ⟨v, z⟩ := I.cell x c e
    exact ⟨v, cellK x c e v z⟩
  · obtain ⟨m, ⟨o, _, _, ho, _⟩, _⟩ := I.loc
    exact free _ o (fun z => (hch _ z).2.1 rfl) ho I.free
  · obtain ⟨v, o, ho, hd⟩ := I.cell x c e
    exact free c o (fun z => (hch c z).2.2.1 x c e rfl) ho (I.freeC x c e)
  · obtain ⟨e, n, ne, nf, d⟩ := I.pin p hp
    have nch : p.1 ∉ ch := fun z => (hch p.1 z).2.2.2 p hp rfl
    exact ⟨keep p.1 p.2 ne nf nch e n, free p.1 p.2 nch e n, ne, nf, d⟩
/-- .. where the frame's own object is kept too -/
theorem Inv.un {t' : Nat} (I : Inv X pins σ H s) (u : Un X.fs [] H H' s.heap h') (hok : HOk X.prog X.w H' h') : Inv X pins σ H' { s with heap := h', toks := t' } := by
  obtain ⟨m, ⟨o, es, ep, ho, r⟩, _⟩ := id I.loc
  obtain ⟨sl, hL⟩ := u.any ho I.free (by simp)
  exact I.step (g' := s.gens) (d' := s.drawn) (ch := []) (fun _ z => nomatch z) (fun b o _ hb _ e n => u.keep b o e n hb (by simp)) (fun b o _ hb _ e n => u.slot b o e n hb (by simp)) (fun b o _ e n => u.free b o e n (by simp)) (fun b o _ e => u.there b o e (by simp)) u.tups u.frzs u.tbls (fun m' hm => by
    obtain ⟨o', es', ep', ho', r'⟩ := hm
    rw [ho] at ho'; cases ho'
    exact ⟨_, es', ep', hL, r'⟩) hok I.bare
/-- behind a call (or a comprehension's block): the slots of this frame may have changed too, the records at ch may have turned -/
theorem Inv.call {g' : Array GenState} {t' : Nat} {d' : Drawn} {ch : List Addr} (I : Inv X pins σ H s) (u : Un (frs X.stack) ch H H' s.heap h') (hok : HOk X.prog X.w H' h') (hg : AllBare g')
    (hch : ∀ b ∈ ch, (b ∈ X.ex ∨ X.s₀.heap.objs.size ≤ b) ∧ b ≠ X.env.locals ∧ (∀ x c, X.env.cells.lookup x = some c → c ≠ b) ∧ ∀ p ∈ X.pn ++ pins, p.1 ≠ b) :
    Inv X pins σ H' { s with heap := h', gens := g', drawn := d', toks := t' } := by
  obtain ⟨m, ⟨o, es, ep, ho, r⟩, _⟩ := id I.loc
  obtain ⟨sl, hL⟩ := u.any ho I.free fun z => (hch _ z).2.1 rfl
  exact I.step (ch := ch) hch (fun b o hL hb hc e n => u.keep b o e n (fun z => (List.mem_cons.mp (I.stkSub b z)).elim hL hb) hc) (fun b o _ _ hc e n => u.any e n hc) (fun b o hc e n => u.free b o e n hc) (fun b o hc e => u.there b o e hc) u.tups u.frzs u.tbls (fun m' hm => by
    obtain ⟨o', es', ep', ho', r'⟩ := hm
    rw [ho] at ho'; cases ho'
    exact ⟨_, es', ep', hL, r'⟩) hok hg
/-- an untracked record of ours (an iterator) has turned -/
theorem Inv.turned {t' : Nat} {it : Addr} (I : Inv X pins σ H s) (k : ∀ b o, b ≠ it → s.heap.get? b = some o → h'.get? b = some o) (hn : H it = none) (hL : it ≠ X.env.locals)
    (h1 : it ∈ X.ex ∨ X.s₀.heap.objs.size ≤ it) (h2 : ∀ x c, X.env.cells.lookup x = some c → c ≠ it) (h3 : ∀ p ∈ X.pn ++ pins, p.1 ≠ it) : Inv X pins σ H { s with heap := h', toks := t' } := by
  have nit : ∀ b u, H b = some u → b ≠ it := fun b u e z => by rw [z, hn] at e; cases e
  refine I.step (g' := s.gens) (d' := s.drawn) (ch := [it]) (fun b hb => ?_) (fun b o _ _ hc e _ => k b o (fun z => hc (by simp [z])) e) (fun b o _ _ hc e _ => ⟨o.slots, k b o (fun z => hc (by simp [z])) e⟩) (fun _ _ _ _ n => n)
    (fun b o hc e => ⟨o, k b o (fun z => hc (by simp [z])) e⟩) (fun _ _ e => e) (fun _ _ _ e => e) (fun b ps e => ⟨#[], by rw [e]; simp⟩) (fun m hm => ?_) (fun b u e => ?_) I.bare
  · have e : b = it := by simpa using hb
    subst e
    exact ⟨h1, hL, h2, h3⟩
  · obtain ⟨o, es, ep, ho, r⟩ := hm
    exact ⟨o, es, ep, k _ o (Ne.symm hL) ho, r⟩
  · refine (I.hok b u e).stay (fun c v hc q => k c v ?_ q) (fun _ q => q) fun _ _ q => q
    rcases hc with z | z
    · rw [z]; exact nit b u e
    · exact nit c _ z
theorem Inv.tok (I : Inv X pins σ H s) (t : Nat) : Inv X pins σ H { s with toks := t } := I.un (h' := s.heap) (t' := t) Un.refl I.hok
/-- all objects kept -/
theorem Inv.kept {t' : Nat} (I : Inv X pins σ H s) (k : ∀ b u, s.heap.get? b = some u → h'.get? b = some u) : Inv X pins σ H { s with heap := h', toks := t' } := I.un (Un.kept k) (I.hok.kept k)
/-- a new object laid and tracked -/
theorem Inv.laid {a : Addr} {o : HO} {t' : Nat} (I : Inv X pins σ H s) (k : ∀ b u, s.heap.get? b = some u → h'.get? b = some u) (hp : s.heap.objs.size ≤ a) (new : ObjOk X.prog X.w (upd H a o) h' a o) :
    Inv X pins σ (upd H a o) { s with heap := h', toks := t' } := I.un (Un.laid k hp (I.hok.fresh hp)) (I.hok.laid k hp new)
/-- an object written -/
theorem Inv.write {x e : Addr} {o : HO} {t' : Nat} (I : Inv X pins σ H s) (mu : Mut (H x)) (he : e = x ∨ H e = some (.own x)) (k : ∀ b u, b ≠ e → s.heap.get? b = some u → h'.get? b = some u) (heo : ∃ u, h'.get? e = some u)
    (new : ObjOk X.prog X.w (upd H x o) h' x o) : Inv X pins σ (upd H x o) { s with heap := h', toks := t' } := I.un (Un.write mu he k heo) (I.hok.write mu he k heo new)
theorem Inv.pins_of {pins' : List (Addr × Obj)} (I : Inv X pins σ H s) (h : ∀ p ∈ pins', s.heap.get? p.1 = some p.2 ∧ H p.1 = none ∧ p.1 ≠ X.env.locals ∧ p.1 ∉ X.fs ∧ ∀ v, p.2.data ≠ .cell v) : Inv X pins' σ H s :=
  ⟨I.ok, I.os, I.bare, I.base, I.loc, I.cell, I.free, I.freeC, fun p hp => (List.mem_append.mp hp).elim (fun z => I.pin p (List.mem_append_left _ z)) (h p), I.hok, I.len⟩

theorem nodup_ix {N : List Str} (hN : N.Nodup) {i j : Nat} {x : Str} (a : N[i]? = some x) (b : N[j]? = some x) : i = j := by
  obtain ⟨h1, e1⟩ := List.getElem?_eq_some_iff.mp a
  obtain ⟨h2, e2⟩ := List.getElem?_eq_some_iff.mp b
  exact (List.getElem_inj hN).mp (e1.trans e2.symm)

/-- a name is stored; what changed -/
theorem store_ok2 {M : Model} {A : Around} {E : Value → Shared → Prop} {i : Nat} {x : Str} {v : V} {u : Value} {Q : Unit → Shared → Prop} (I : Inv X pins σ H s) (hN : X.N.Nodup) (hi : X.N[i]? = some x) (hx : Loc X.env.scope x) (r : RelV v u)
    (h : ∀ s', Inv X pins (σ.set i (some v)) H s' → (∃ a, Heap.SameBut a s.heap s'.heap ∧ (a = X.env.locals ∨ X.env.cells.lookup x = some a)) → Q () s') (hf : X.fn x = true ∨ X.env.scope.names.lookup x = some .local := by first | exact .inl rfl | exact .inr rfl | assumption) : wpAny M A (storeName X.env x u) Q E s := by
  obtain ⟨m, hn, hl⟩ := id I.loc
  have hcls : (X.env.scope.kind == .class || (X.env.scope.kind == .module && X.env.locals != X.env.globals)) = false := by rw [I.ok.kind]; rfl
  have hiσ : i < σ.length := by rw [I.len]; exact (List.getElem?_eq_some_iff.mp hi).1
  have cne := I.cne
  have tracked : ∀ {a : Addr} {h' : Heap}, (∃ o, s.heap.get? a = some o ∧ H a = none) → Heap.SameBut a s.heap h' → HOk X.prog X.w H h' := fun {a h'} ha hs b ob e => by
    obtain ⟨_, _, hfree⟩ := ha
    refine (I.hok b ob e).stay (fun c w' hc q => (hs.2 c ?_).trans q) (fun _ q => q) fun _ _ q => q
    rintro rfl
    rcases hc with rfl | hc
    · rw [hfree] at e; cases e
    · rw [hfree] at hc; cases hc
  rcases hx with hk | hk
  · refine wpAny_storeName_local hk hn (fun h' hn' hs => ?_) hcls
    obtain ⟨oL, _, _, hoL, _⟩ := id hn
    refine h _ ⟨I.ok, I.os, I.bare, ⟨fun b o e n hb hx => ?_, fun b o e n hb hx => ?_, I.base.free, fun b o e hx => ?_, I.base.tups, I.base.frzs, I.base.tbls⟩, ⟨_, hn', fun j y v' e1 e2 e3 => ?_⟩, fun y c e => ?_, I.free, I.freeC, fun p hp => ?_, tracked ⟨oL, hoL, I.free⟩ hs, by simpa using I.len⟩ ⟨_, hs, .inl rfl⟩
    · exact (hs.2 b (Nat.ne_of_lt (Nat.lt_of_lt_of_le (Heap.lt_size e) I.ok.above))).trans (I.base.keep b o e n hb hx)
    · obtain ⟨sl, e1⟩ := I.base.slot b o e n hb hx
      exact ⟨sl, (hs.2 b (Nat.ne_of_lt (Nat.lt_of_lt_of_le (Heap.lt_size e) I.ok.above))).trans e1⟩
    · obtain ⟨o', e1⟩ := I.base.there b o e hx
      exact ⟨o', (hs.2 b (Nat.ne_of_lt (Nat.lt_of_lt_of_le (Heap.lt_size e) I.ok.above))).trans e1⟩
    · by_cases hj : j = i
      · subst hj
        rw [hi] at e1; cases e1
        rw [List.getElem?_set_self hiσ] at e2
        cases e2
        exact ⟨u, r, .inl ⟨hk, by simp⟩⟩
      · rw [List.getElem?_set_ne (Ne.symm hj)] at e2
        obtain ⟨u', r', q⟩ := hl j y v' e1 e2 e3
        refine ⟨u', r', ?_⟩
        rcases q with ⟨k, e⟩ | ⟨k, c, e, z⟩
        · refine .inl ⟨k, ?_⟩
          have : y ≠ x := fun e => hj (nodup_ix hN e1 (e ▸ hi))
          simp [this, e]
        · exact .inr ⟨k, c, e, z.sameBut hs (cne y c e)⟩
    · obtain ⟨w', z⟩ := I.cell y c e
      exact ⟨w', z.sameBut hs (cne y c e)⟩
    · obtain ⟨e, n, ne, nf, d⟩ := I.pin p hp
      exact ⟨(hs.2 p.1 ne).trans e, n, ne, nf, d⟩
  · have hfn : X.fn x = true := by
      rcases hf with z | z
      · exact z
      · rw [z] at hk; cases hk
    obtain ⟨c, hc⟩ := I.ok.has x (.inl hk)
    obtain ⟨w', z⟩ := I.cell x c hc
    refine wpAny_storeName_cell I.ok.kind hk hc z (fun h' hc' hs => ?_)
    obtain ⟨oc, hoc, hocd⟩ := id z
    refine h { s with heap := h' } ⟨I.ok, I.os, I.bare, ⟨fun b o e n hb hx => ?_, fun b o e n hb hx => ?_, I.base.free, fun b o e hx => ?_, I.base.tups, I.base.frzs, I.base.tbls⟩, ⟨m, hn.sameBut hs (Ne.symm (cne x c hc)), fun j y v' e1 e2 e3 => ?_⟩, fun y c' e => ?_, I.free, I.freeC, fun p hp => ?_, tracked ⟨oc, hoc, I.freeC x c hc⟩ hs, by simpa using I.len⟩ ⟨c, hs, .inr hc⟩
    · exact (hs.2 b (Nat.ne_of_lt (Nat.lt_of_lt_of_le (Heap.lt_size e) (I.ok.cab x c hfn hc)))).trans (I.base.keep b o e n hb hx)
    · obtain ⟨sl, e1⟩ := I.base.slot b o e n hb hx
      exact ⟨sl, (hs.2 b (Nat.ne_of_lt (Nat.lt_of_lt_of_le (Heap.lt_size e) (I.ok.cab x c hfn hc)))).trans e1⟩
    · obtain ⟨o', e1⟩ := I.base.there b o e hx
      exact ⟨o', (hs.2 b (Nat.ne_of_lt (Nat.lt_of_lt_of_le (Heap.lt_size e) (I.ok.cab x c hfn hc)))).trans e1⟩
    · by_cases hj : j = i
      · subst hj
        rw [hi] at e1; cases e1
        rw [List.getElem?_set_self hiσ] at e2
        cases e2
        exact ⟨u, r, .inr ⟨.inl hk, c, hc, hc'⟩⟩
      · rw [List.getElem?_set_ne (Ne.symm hj)] at e2
        obtain ⟨u', r', q⟩ := hl j y v' e1 e2 e3
        refine ⟨u', r', ?_⟩
        rcases q with q | ⟨k, c', e, z'⟩
        · exact .inl q
        · refine .inr ⟨k, c', e, z'.sameBut hs ?_⟩
          rintro rfl
          exact hj (nodup_ix hN e1 (I.ok.inj _ _ _ e hc ▸ hi))
    · by_cases hcc : c' = c
      · subst hcc; exact ⟨_, hc'⟩
      · obtain ⟨w2, z2⟩ := I.cell y c' e
        exact ⟨w2, z2.sameBut hs hcc⟩
    · obtain ⟨e, n, ne, nf, d⟩ := I.pin p hp
      refine ⟨(hs.2 p.1 ?_).trans e, n, ne, nf, d⟩
      intro q
      rw [q, hoc] at e
      have q' : oc = p.2 := Option.some.inj e
      exact d w' (by rw [← q']; exact hocd)
theorem store_ok {M : Model} {A : Around} {E : Value → Shared → Prop} {i : Nat} {x : Str} {v : V} {u : Value} {Q : Unit → Shared → Prop} (I : Inv X pins σ H s) (hN : X.N.Nodup) (hi : X.N[i]? = some x) (hx : Loc X.env.scope x) (r : RelV v u)
    (h : ∀ s', Inv X pins (σ.set i (some v)) H s' → Q () s') (hf : X.fn x = true ∨ X.env.scope.names.lookup x = some .local := by first | exact .inl rfl | exact .inr rfl | assumption) : wpAny M A (storeName X.env x u) Q E s :=
  store_ok2 I hN hi hx r (fun s' I' _ => h s' I') hf
/-- behind a call or a block, the state as it is -/
theorem Inv.call' {s' : Shared} {ch : List Addr} (I : Inv X pins σ H s) (ho : s'.os = s.os) (u : Un (frs X.stack) ch H H' s.heap s'.heap) (hok : HOk X.prog X.w H' s'.heap) (hg : AllBare s'.gens)
    (hch : ∀ b ∈ ch, (b ∈ X.ex ∨ X.s₀.heap.objs.size ≤ b) ∧ b ≠ X.env.locals ∧ (∀ x c, X.env.cells.lookup x = some c → c ≠ b) ∧ ∀ p ∈ X.pn ++ pins, p.1 ≠ b) : Inv X pins σ H' s' := by
  obtain ⟨h', g', d', t', o'⟩ := s'
  have e : o' = s.os := ho
  subst e
  exact I.call (g' := g') (t' := t') (d' := d') u hok hg hch
end

/-! ### the judgements -/
/-- an exception: its class, its own dict's address (where it has one), the abstract heap behind it -/
abbrev XK := Value → Option Addr → Hp → Prop
abbrev St := List (Option V)
abbrev VK := V → Hp → Prop
/-- an expression's reading; a test's; an argument list's -/
abbrev TE := St → Hp → VK → Prop
abbrev TT := St → Hp → (Bool → Hp → Prop) → Prop
abbrev TA := St → Hp → (List V → Hp → Prop) → Prop
/-- what is wanted behind a statement -/
structure Ends where
  nx : St → Hp → Prop
  rt : VK
  bk : St → Hp → Prop := fun _ _ => False
  ct : St → Hp → Prop := fun _ _ => False
abbrev TS := Ends → St → Hp → Prop

def EP (X : Cx) (pins : List (Addr × Obj)) (σ : St) (Q : VK) (u : Value) (s' : Shared) : Prop := ∃ v H', Inv X pins σ H' s' ∧ RelV v u ∧ Q v H'
def TP (X : Cx) (pins : List (Addr × Obj)) (σ : St) (Q : Bool → Hp → Prop) (b : Bool) (s' : Shared) : Prop := ∃ H', Inv X pins σ H' s' ∧ Q b H'
def AP (X : Cx) (pins : List (Addr × Obj)) (σ : St) (Q : List V → Hp → Prop) (us : List Value) (s' : Shared) : Prop := ∃ vs H', Inv X pins σ H' s' ∧ Vals vs us ∧ Q vs H'
def SP (X : Cx) (pins : List (Addr × Obj)) (D : Ends) (f : Flow) (s' : Shared) : Prop :=
  match f with
  | .next => ∃ σ' H', Inv X pins σ' H' s' ∧ D.nx σ' H'
  | .brk => ∃ σ' H', Inv X pins σ' H' s' ∧ D.bk σ' H'
  | .cont => ∃ σ' H', Inv X pins σ' H' s' ∧ D.ct σ' H'
  | .ret u => ∃ v σ' H', Inv X pins σ' H' s' ∧ RelV v u ∧ D.rt v H'

def PE (X : Cx) (e : Expr) (t : TE) : Prop :=
  ∀ (pins : List (Addr × Obj)) (s : Shared) (σ : St) (H : Hp) (Q : VK), Inv X pins σ H s → t σ H Q → wpAny (model X.prog X.w) X.A (eval e X.env) (EP X pins σ Q) X.xe s
def PT (X : Cx) (e : Expr) (t : TT) : Prop :=
  ∀ (pins : List (Addr × Obj)) (s : Shared) (σ : St) (H : Hp) (Q : Bool → Hp → Prop), Inv X pins σ H s → t σ H Q → wpAny (model X.prog X.w) X.A (isTrue e X.env (eval e X.env)) (TP X pins σ Q) X.xe s
/-- a test whatever its 'whole' is (and, or) -/
def PW (X : Cx) (e : Expr) (t : TT) : Prop :=
  ∀ (whole : Sem Value) (pins : List (Addr × Obj)) (s : Shared) (σ : St) (H : Hp) (Q : Bool → Hp → Prop), Inv X pins σ H s → t σ H Q → wpAny (model X.prog X.w) X.A (isTrue e X.env whole) (TP X pins σ Q) X.xe s
theorem PW.pt {X : Cx} {e : Expr} {t : TT} (h : PW X e t) : PT X e t := h _
/-- an argument list (no star), from the left -/
def PA (X : Cx) (es : List Expr) (t : TA) : Prop :=
  ∀ (pos : Pos) (pins : List (Addr × Obj)) (s : Shared) (σ : St) (H : Hp) (Q : List V → Hp → Prop), Inv X pins σ H s → t σ H Q → wpAny (model X.prog X.w) X.A (spliced (backTo pos (starEach es X.env))) (AP X pins σ Q) X.xe s
def PS (X : Cx) (st : Stmt) (t : TS) : Prop :=
  ∀ (pins : List (Addr × Obj)) (s : Shared) (σ : St) (H : Hp) (D : Ends), Inv X pins σ H s → t D σ H → wpAny (model X.prog X.w) X.A (exec st X.env) (SP X pins D) X.xe s
def PSs (X : Cx) (st : List Stmt) (t : TS) : Prop :=
  ∀ (pins : List (Addr × Obj)) (s : Shared) (σ : St) (H : Hp) (D : Ends), Inv X pins σ H s → t D σ H → wpAny (model X.prog X.w) X.A (execs st X.env) (SP X pins D) X.xe s
/-- weaken the end -/
theorem thn {α : Type} {t : Sem α} {Q Q' : α → Shared → Prop} {M : Model} {A : Around} {E : Value → Shared → Prop} {s : Shared} (h : wpAny M A t Q E s) (hQ : ∀ a s, Q a s → Q' a s) : wpAny M A t Q' E s := wpAny_mono h hQ fun _ _ x => x
end L2

namespace L2
open PySem PySem.Spec PyProof.Rows
section
variable {X : Cx}

/-- two expressions in a row -/
theorem bin {a b : Expr} {ta tb : TE} (ha : PE X a ta) (hb : PE X b tb) {pins : List (Addr × Obj)} {s : Shared} {σ : St} {H : Hp} {R : V → V → Hp → Prop} (I : Inv X pins σ H s) (h : ta σ H fun x H1 => tb σ H1 fun y H2 => R x y H2)
    {α : Type} {Q : α → Shared → Prop} {f : Value → Value → Sem α}
    (hf : ∀ v u s2 x y H2, Inv X pins σ H2 s2 → RelV x v → RelV y u → R x y H2 → wpAny (model X.prog X.w) X.A (f v u) Q X.xe s2) :
    wpAny (model X.prog X.w) X.A (eval a X.env) (fun v s₁ => wpAny (model X.prog X.w) X.A (eval b X.env) (fun u s₂ => wpAny (model X.prog X.w) X.A (f v u) Q X.xe s₂) X.xe s₁) X.xe s := by
  refine thn (ha pins s σ H _ I h) fun v s1 ⟨x, H1, I1, r1, q1⟩ => ?_
  refine thn (hb pins s1 σ H1 _ I1 q1) fun u s2 ⟨y, H2, I2, r2, q2⟩ => ?_
  exact hf v u s2 x y H2 I2 r1 r2 q2

/-! ### names and constants -/
def tVar (i : Nat) : TE := fun σ H Q => ∃ v, σ[i]? = some (some v) ∧ Q v H
def tC (v : V) : TE := fun _ H Q => Q v H
theorem pe_var {i : Nat} {x : Str} {pos : Pos} (hN : X.N[i]? = some x) (hv : Vis X.env.scope x) (hd : (x == ("__debug__" : Str)) = false := by decide) (hcd : (x == ("__classdict__" : Str)) = false := by decide) : PE X (.Name x pos) (tVar i) := by
  intro pins s σ H Q I h
  obtain ⟨v, e, h⟩ := h
  obtain ⟨m, hn, hl⟩ := I.loc
  obtain ⟨u, r, l⟩ := hl i x v hN e hv
  have fin : EP X pins σ Q u s := ⟨v, H, I, r, h⟩
  rcases l with ⟨hk, hm⟩ | ⟨hk, c, hc, hcell⟩
  · exact wpAny_Name (wpAny_loadName_local I.ok.kind hk hn hm fin) hd
  · rcases hk with hk | hk
    · exact wpAny_Name (wpAny_loadName_cell I.ok.kind hk hc hcell fin) hd
    · exact wpAny_Name (wpAny_loadName_free I.ok.kind hk hc hcell fin hcd) hd
theorem pe_int {i j pos} : PE X (.Constant (.int i) j pos) (tC (.int i)) := fun _ _ _ H _ I h => wpAny_Constant_int ⟨.int i, H, I.tok _, ⟨_, rfl⟩, h⟩
theorem pe_bl {b j pos} : PE X (.Constant (.bool b) j pos) (tC (.bl b)) := fun _ _ _ H _ I h => Constant_bool ⟨.bl b, H, I, rfl, h⟩
theorem pe_non {j pos} : PE X (.Constant .none j pos) (tC .non) := fun _ _ _ H _ I h => Constant_none ⟨.non, H, I, rfl, h⟩
theorem pe_str {x j pos} : PE X (.Constant (.str x) j pos) (tC (.str x)) := fun _ _ _ H _ I h => Calls.Constant_str ⟨.str x, H, I.tok _, ⟨_, rfl⟩, h⟩

/-- a global name of the def -/
def Gl (X : Cx) (x : Str) : Prop := X.env.kindOf x = some .globalImplicit
theorem ld_glob {E : Value → Shared → Prop} {pins : List (Addr × Obj)} {s : Shared} {σ : St} {H : Hp} {x : Str} {u : Value} {pos : Pos} {Q : Value → Shared → Prop} (I : Inv X pins σ H s) (hg : Gl X x) (hm : X.mg x = some u) (h : Q u s)
    (hd : (x == ("__debug__" : Str)) = false := by decide) : wpAny (model X.prog X.w) X.A (eval (.Name x pos) X.env) Q E s :=
  Calls.Name_function_global I.ok.kind hg (Calls.loadGlobal_global (by rw [I.ok.glob]; exact I.mod.glob.keeps I.bk) hm h) hd
theorem ld_blt {E : Value → Shared → Prop} {pins : List (Addr × Obj)} {s : Shared} {σ : St} {H : Hp} {x : Str} {u : Value} {pos : Pos} {Q : Value → Shared → Prop} (I : Inv X pins σ H s) (hg : Gl X x) (hm : X.mg x = none) (hv : bootBuiltins x = some u) (h : Q u s)
    (hn : x ≠ "__name__" := by decide) (hd : (x == ("__debug__" : Str)) = false := by decide) : wpAny (model X.prog X.w) X.A (eval (.Name x pos) X.env) Q E s := by
  obtain ⟨mb, h1, h2⟩ := I.mod.blt
  exact Calls.Name_function_global I.ok.kind hg (Calls.loadGlobal_builtin (by rw [I.ok.glob]; exact I.mod.glob.keeps I.bk) hm (by rw [I.ok.blt]; exact h1.keeps I.bk) ((h2 x hn).trans hv) h) hd
/-- a module's constant, a class, a function, as a value -/
theorem pe_glob {x : Str} {v : V} {u : Value} {pos : Pos} (hg : Gl X x) (hm : X.mg x = some u) (r : RelV v u) (hd : (x == ("__debug__" : Str)) = false := by decide) : PE X (.Name x pos) (tC v) :=
  fun _ _ _ H _ I h => ld_glob I hg hm ⟨v, H, I, r, h⟩ hd
theorem pe_bltn {x : Str} {v : V} {u : Value} {pos : Pos} (hg : Gl X x) (hm : X.mg x = none) (hv : bootBuiltins x = some u) (r : RelV v u) (hn : x ≠ "__name__" := by decide) (hd : (x == ("__debug__" : Str)) = false := by decide) : PE X (.Name x pos) (tC v) :=
  fun _ _ _ H _ I h => ld_blt I hg hm hv ⟨v, H, I, r, h⟩ hn hd

/-! ### arithmetic -/
/-- two ints -/
def t2I (ta tb : TE) (k : Int → Int → Hp → Prop) : St → Hp → Prop := fun σ H => ta σ H fun x H1 => tb σ H1 fun y H2 => ∃ i j, x = .int i ∧ y = .int j ∧ k i j H2
def tAdd (ta tb : TE) : TE := fun σ H Q => t2I ta tb (fun i j H2 => Q (.int (i + j)) H2) σ H
def tSub (ta tb : TE) : TE := fun σ H Q => t2I ta tb (fun i j H2 => Q (.int (i - j)) H2) σ H
/-- the left factor below 2^64 -/
def tMul (ta tb : TE) : TE := fun σ H Q => t2I ta tb (fun i j H2 => (-(2 ^ 64) < i ∧ i < 2 ^ 64) ∧ Q (.int (i * j)) H2) σ H
variable {a b : Expr} {ta tb : TE} {pos : Pos}
/-! ### comparisons -/
def PC (X : Cx) (op : CmpOp) (a b : Expr) (t : TE) : Prop :=
  ∀ (pins : List (Addr × Obj)) (s : Shared) (σ : St) (H : Hp) (Q : VK), Inv X pins σ H s → t σ H Q →
    wpAny (model X.prog X.w) X.A (eval a X.env) (fun v s₁ => wpAny (model X.prog X.w) X.A (eval b X.env) (fun u s₂ => wpAny (model X.prog X.w) X.A (compareOp op v u) (EP X pins σ Q) X.xe s₂) X.xe s₁) X.xe s
theorem nobehind (b : Expr) {op : CmpOp} (h : op ≠ .In) (h2 : op ≠ .NotIn) : behindInMarks op b = false := by
  have e1 : (op == CmpOp.In) = false := by cases op <;> first | rfl | exact absurd rfl h
  have e2 : (op == CmpOp.NotIn) = false := by cases op <;> first | rfl | exact absurd rfl h2
  cases b <;> simp [behindInMarks, e1, e2]
def tCmp (p : Int → Int → Bool) (ta tb : TE) : TE := fun σ H Q => t2I ta tb (fun i j H2 => Q (.bl (p i j)) H2) σ H
abbrev tLt : TE → TE → TE := tCmp fun i j => decide (i < j)
abbrev tLe : TE → TE → TE := tCmp fun i j => decide (i ≤ j)
abbrev tGt : TE → TE → TE := tCmp fun i j => decide (j < i)
abbrev tGe : TE → TE → TE := tCmp fun i j => decide (j ≤ i)
abbrev tEqI : TE → TE → TE := tCmp fun i j => decide (i = j)
abbrev tNeI : TE → TE → TE := tCmp fun i j => !decide (i = j)
/-- is None -/
def tIsN (ta : TE) : TE := fun σ H Q => ta σ H fun x H1 => Q (.bl (decide (x = .non))) H1
def tNotN (ta : TE) : TE := fun σ H Q => ta σ H fun x H1 => Q (.bl (!decide (x = .non))) H1
theorem RelV.none_iff {x : V} {v : Value} (r : RelV x v) : (v == Value.none) = decide (x = .non) := by
  cases x with
  | non => cases r; rfl
  | bl _ => cases r; rfl
  | int _ => obtain ⟨t, rfl⟩ := r; rfl
  | str _ => obtain ⟨t, rfl⟩ := r; rfl
  | byt _ => obtain ⟨t, rfl⟩ := r; rfl
  | flt _ => obtain ⟨t, rfl⟩ := r; rfl
  | ref _ => cases r; rfl
  | ty _ => cases r; rfl
theorem pc_isN {j pos'} (ha : PE X a ta) : PC X .Is a (.Constant .none j pos') (tIsN ta) := by
  intro pins s σ H Q I h
  refine thn (ha pins s σ H _ I h) fun v s1 ⟨x, H1, I1, r1, q1⟩ => ?_
  exact Constant_none (is_none_gen ⟨.bl _, H1, I1, by rw [r1.none_iff]; rfl, q1⟩)
theorem pc_notN {j pos'} (ha : PE X a ta) : PC X .IsNot a (.Constant .none j pos') (tNotN ta) := by
  intro pins s σ H Q I h
  refine thn (ha pins s σ H _ I h) fun v s1 ⟨x, H1, I1, r1, q1⟩ => ?_
  exact Constant_none (isnot_none_gen ⟨.bl _, H1, I1, by rw [r1.none_iff]; rfl, q1⟩)
/-- a comparison as a value, as a test -/
def tB (t : TE) : TT := fun σ H Q => t σ H fun x H1 => ∃ c, x = .bl c ∧ Q c H1
theorem pe_cmp {op : CmpOp} {t : TE} (h : PC X op a b t) (h1 : behindInMarks op b = false := by first | exact nobehind _ (by decide) (by decide) | rfl) : PE X (.Compare a [op] [b] pos) t := fun pins s σ H Q I hw => wpAny_Compare1 (h pins s σ H Q I hw) h1
theorem pt_cmp {op : CmpOp} {t : TE} (h : PC X op a b t) (h1 : behindInMarks op b = false := by first | exact nobehind _ (by decide) (by decide) | rfl) : PT X (.Compare a [op] [b] pos) (tB t) := by
  intro pins s σ H Q I hw
  refine wpAny_isTrue_Compare1 (thn (h pins s σ H _ I hw) fun v s1 h1 => thn h1 fun u s2 h2 => thn h2 fun c s3 ⟨x, H1, I1, r1, q1⟩ => ?_) h1
  obtain ⟨d, rfl, q⟩ := q1
  cases r1
  exact wpAny_truthy_bool ⟨H1, I1, q⟩
/-- an expression whose value is a bool, as a test -/
theorem pt_val {e : Expr} {t : TE} (h : PE X e t) (he : ∀ whole, isTrue e X.env whole = (do let v ← whole; standAt e.pos; holding [v] (truthy v)) := by intro _; rfl) : PT X e (tB t) := by
  intro pins s σ H Q I hw
  refine isTrue_plain (thn (h pins s σ H _ I hw) fun v s1 ⟨x, H1, I1, r1, q1⟩ => ?_) (he _)
  obtain ⟨d, rfl, q⟩ := q1
  cases r1
  exact wpAny_truthy_bool ⟨H1, I1, q⟩

/-! ### and, or, not -/
variable {tA tB' : TT} {rest : List Expr}
def tAnd (t u : TT) : TT := fun σ H Q => t σ H fun c H1 => if c = true then u σ H1 Q else Q false H1
def tOr (t u : TT) : TT := fun σ H Q => t σ H fun c H1 => if c = true then Q true H1 else u σ H1 Q
def tNot (t : TT) : TT := fun σ H Q => t σ H fun c H1 => Q (!c) H1
theorem pw_and1 (ha : PT X a tA) : PW X (.BoolOp .And [a] pos) tA := by
  intro wh pins s σ H Q I h
  refine isTrue_and (thn (ha pins s σ H Q I h) fun c s1 e => ?_)
  cases c with
  | true => exact isTrue_and_nil e
  | false => exact e
theorem pw_or1 (ha : PT X a tA) : PW X (.BoolOp .Or [a] pos) tA := by
  intro wh pins s σ H Q I h
  refine isTrue_or (thn (ha pins s σ H Q I h) fun c s1 e => ?_)
  cases c with
  | false => exact isTrue_or_nil e
  | true => exact e
theorem pw_and (ha : PT X a tA) (hb : PW X (.BoolOp .And (b :: rest) pos) tB') : PW X (.BoolOp .And (a :: b :: rest) pos) (tAnd tA tB') := by
  intro wh pins s σ H Q I h
  refine isTrue_and (thn (ha pins s σ H _ I h) fun c s1 ⟨H1, I1, q1⟩ => ?_)
  cases c with
  | true => exact hb wh pins s1 σ H1 Q I1 q1
  | false => exact ⟨H1, I1, q1⟩
theorem pw_or (ha : PT X a tA) (hb : PW X (.BoolOp .Or (b :: rest) pos) tB') : PW X (.BoolOp .Or (a :: b :: rest) pos) (tOr tA tB') := by
  intro wh pins s σ H Q I h
  refine isTrue_or (thn (ha pins s σ H _ I h) fun c s1 ⟨H1, I1, q1⟩ => ?_)
  cases c with
  | true => exact ⟨H1, I1, q1⟩
  | false => exact hb wh pins s1 σ H1 Q I1 q1
theorem pt_not (ha : PT X a tA) : PT X (.UnaryOp .Not a pos) (tNot tA) := by
  intro pins s σ H Q I h
  exact isTrue_not (ha pins s σ H (fun c H1 => Q (!c) H1) I h)
/-- .. as values (bools) -/
def tAndV (ta tb : TE) : TE := fun σ H Q => ta σ H fun x H1 => ∃ c, x = .bl c ∧ if c = true then tb σ H1 Q else Q (.bl false) H1
def tOrV (ta tb : TE) : TE := fun σ H Q => ta σ H fun x H1 => ∃ c, x = .bl c ∧ if c = true then Q (.bl true) H1 else tb σ H1 Q
def tNotV (ta : TE) : TE := fun σ H Q => ta σ H fun x H1 => ∃ c, x = .bl c ∧ Q (.bl (!c)) H1
theorem pe_one {op} {t : TE} (h : PE X a t) : PE X (.BoolOp op [a] pos) t := fun pins s σ H Q I hw => BoolOp_one (h pins s σ H Q I hw)
theorem pe_and (ha : PE X a ta) (hb : PE X (.BoolOp .And (b :: rest) pos) tb) : PE X (.BoolOp .And (a :: b :: rest) pos) (tAndV ta tb) := by
  intro pins s σ H Q I h
  refine BoolOp_and (thn (ha pins s σ H _ I h) fun v s1 ⟨x, H1, I1, r1, q1⟩ => ?_)
  obtain ⟨c, rfl, q1⟩ := q1
  cases r1
  refine wpAny_truthy_bool ?_
  cases c with
  | true => exact hb pins s1 σ H1 Q I1 q1
  | false => exact ⟨.bl false, H1, I1, rfl, q1⟩
theorem pe_not (ha : PE X a ta) : PE X (.UnaryOp .Not a pos) (tNotV ta) := by
  intro pins s σ H Q I h
  refine UnaryOp_ (thn (ha pins s σ H _ I h) fun v s1 ⟨x, H1, I1, r1, q1⟩ => ?_)
  obtain ⟨c, rfl, q1⟩ := q1
  cases r1
  exact not_of (wpAny_truthy_bool ⟨.bl (!c), H1, I1, rfl, q1⟩)
/-- a if t else b -/
def tIf (t : TT) (ta tb : TE) : TE := fun σ H Q => t σ H fun c H1 => if c = true then ta σ H1 Q else tb σ H1 Q
end
end L2

namespace L2
open PySem PySem.Spec PyProof.Rows

/-! ### a list, a tuple that is read: tracked, frozen, or an object of the module -/
def SqL (K : PySem.W.Frag) (H : Hp) (a : Addr) (xs : List V) : Prop :=
  Rd H a (.lst xs) ∨
    ∃ (o : Obj) (its : Array Value) (n : Nat), K.lookup a = some o ∧ o.cls = .type "list" ∧ o.dict = none ∧ o.data = .seq its n ∧ its.size ≤ sizeLine ∧ Vals xs its.toList
def SqT (K : PySem.W.Frag) (H : Hp) (a : Addr) (xs : List V) : Prop :=
  Rd H a (.tup xs) ∨
    ∃ (o : Obj) (its : Array Value) (n : Nat), K.lookup a = some o ∧ o.cls = .type "tuple" ∧ o.data = .seq its n ∧ its.size ≤ sizeLine ∧ Vals xs its.toList
def absV : Value → Option V
  | .none => some .non
  | .bool b => some (.bl b)
  | .int i _ => some (.int i)
  | .str x _ => some (.str x)
  | .bytes b _ => some (.byt b)
  | .float b _ => some (.flt b)
  | .ref a => some (.ref a)
  | .type n => some (.ty n)
  | _ => none
theorem RelV.abs {x : V} {u : Value} (r : RelV x u) : absV u = some x := by
  cases x with
  | non => cases r; rfl
  | bl _ => cases r; rfl
  | int _ => obtain ⟨t, rfl⟩ := r; rfl
  | str _ => obtain ⟨t, rfl⟩ := r; rfl
  | byt _ => obtain ⟨t, rfl⟩ := r; rfl
  | flt _ => obtain ⟨t, rfl⟩ := r; rfl
  | ref _ => cases r; rfl
  | ty _ => cases r; rfl
theorem RelV.inj {x y : V} {u : Value} (r : RelV x u) (q : RelV y u) : x = y := Option.some.inj (r.abs.symm.trans q.abs)
theorem Vals.inj : ∀ {xs ys : List V} {us : List Value}, Vals xs us → Vals ys us → xs = ys
  | _, _, _, .nil, .nil => rfl
  | _, _, _, .cons r t, .cons r' t' => by rw [r.inj r', Vals.inj t t']
section
variable {X : Cx} {pins : List (Addr × Obj)} {σ : St} {H : Hp} {s : Shared} {a : Addr} {xs ys : List V}
theorem SqL.of {K : PySem.W.Frag} (h : H a = some (.lst xs)) : SqL K H a xs := .inl (.inl h)
theorem SqT.of {K : PySem.W.Frag} (h : H a = some (.tup xs)) : SqT K H a xs := .inl (.inl h)
theorem Inv.list (I : Inv X pins σ H s) (h : SqL X.K H a xs) : ∃ its : List Value, Vals xs its ∧ PlainL s.heap a its.toArray ∧ xs.length ≤ sizeLine := by
  rcases h with h | ⟨o, its, n, hk, hc, hd, hs, hz, r⟩
  · obtain ⟨z, its, n, r, e⟩ := h.ok I.hok
    exact ⟨its, r, ⟨_, n, e, rfl, rfl, rfl⟩, z⟩
  · refine ⟨its.toList, r, ⟨o, n, I.kIn a o hk, hc, hd, by simpa using hs⟩, ?_⟩
    have e := r.length
    simp only [Array.length_toList] at e
    omega
theorem Inv.tuple (I : Inv X pins σ H s) (h : SqT X.K H a xs) : ∃ its : List Value, Vals xs its ∧ IsTup s.heap a its.toArray ∧ xs.length ≤ sizeLine := by
  rcases h with h | ⟨o, its, n, hk, hc, hs, hz, r⟩
  · obtain ⟨z, its, r, p⟩ := h.ok I.hok
    exact ⟨its, r, p, z⟩
  · refine ⟨its.toList, r, ⟨o, I.kIn a o hk, hc, n, by simpa using hs⟩, ?_⟩
    have e := r.length
    simp only [Array.length_toList] at e
    omega
theorem Inv.list_inj (I : Inv X pins σ H s) (h : SqL X.K H a xs) (h' : SqL X.K H a ys) : xs = ys := by
  obtain ⟨its, r, ⟨o, n, e, _, _, d⟩, _⟩ := I.list h
  obtain ⟨its', r', ⟨o', n', e', _, _, d'⟩, _⟩ := I.list h'
  rw [e] at e'; cases e'
  rw [d] at d'
  injection d' with d1 _
  have : its = its' := by simpa using congrArg Array.toList d1
  subst this
  exact r.inj r'
end

/-! ### another wish about exceptions -/
abbrev Cx.wish (X : Cx) (E : Value → Shared → Prop) : Cx := { X with xe := E }
/-- no exception leaves -/
abbrev Cx.nox (X : Cx) : Cx := X.wish fun _ _ => False
theorem Cx.Ok.wish {X : Cx} (ok : X.Ok) (E : Value → Shared → Prop) : (X.wish E).Ok :=
  ⟨ok.mod, ok.kind, ok.glob, ok.blt, ok.above, ok.inj, ok.has, ok.cab, ok.hd, ok.frames, ok.stk, ok.exf, ok.bs, ok.bsz, ok.noex, ok.exfs, ok.funs, ok.frf⟩
theorem Cx.Ok.unwish {X : Cx} {E : Value → Shared → Prop} (ok : (X.wish E).Ok) : X.Ok :=
  ⟨ok.mod, ok.kind, ok.glob, ok.blt, ok.above, ok.inj, ok.has, ok.cab, ok.hd, ok.frames, ok.stk, ok.exf, ok.bs, ok.bsz, ok.noex, ok.exfs, ok.funs, ok.frf⟩
section
variable {X : Cx} {pins : List (Addr × Obj)} {σ : St} {H : Hp} {s : Shared} {E : Value → Shared → Prop}
theorem Inv.wish (I : Inv X pins σ H s) (E : Value → Shared → Prop) : Inv (X.wish E) pins σ H s := ⟨I.ok.wish E, I.os, I.bare, I.base, I.loc, I.cell, I.free, I.freeC, I.pin, I.hok, I.len⟩
theorem Inv.unwish (I : Inv (X.wish E) pins σ H s) : Inv X pins σ H s := ⟨I.ok.unwish, I.os, I.bare, I.base, I.loc, I.cell, I.free, I.freeC, I.pin, I.hok, I.len⟩
theorem SP.unwish {D : Ends} {f : Flow} {s' : Shared} (h : SP (X.wish E) pins D f s') : SP X pins D f s' := by
  cases f with
  | next => obtain ⟨σ', H', I, q⟩ := h; exact ⟨σ', H', I.unwish, q⟩
  | brk => obtain ⟨σ', H', I, q⟩ := h; exact ⟨σ', H', I.unwish, q⟩
  | cont => obtain ⟨σ', H', I, q⟩ := h; exact ⟨σ', H', I.unwish, q⟩
  | ret u => obtain ⟨v, σ', H', I, r, q⟩ := h; exact ⟨v, σ', H', I.unwish, r, q⟩
theorem PSs.nox {st : List Stmt} {t : TS} (h : PSs X.nox st t) : PSs X st t := fun pins s σ H D I hw =>
  wpAny_mono (h pins s σ H D (I.wish _) hw) (fun _ _ q => q.unwish) fun _ _ z => False.elim z
end

/-! ### blocks and small statements -/
section
variable {X : Cx} {st : Stmt} {rest : List Stmt} {t u : TS} {e : Expr} {te : TE} {pos : Pos}
def tNext : TS := fun D σ H => D.nx σ H
def tSeq (t u : TS) : TS := fun D σ H => t { D with nx := u D } σ H
theorem pss_nil : PSs X [] tNext := fun _ _ σ H _ I h => wpAny_execs_nil ⟨σ, H, I, h⟩
theorem pss_cons (h1 : PS X st t) (h2 : PSs X rest u) : PSs X (st :: rest) (tSeq t u) := by
  intro pins s σ H D I h
  refine wpAny_execs_cons (thn (h1 pins s σ H { D with nx := u D } I h) fun f s1 q => ?_)
  cases f with
  | next =>
    obtain ⟨σ', H', I', q⟩ := q
    exact h2 pins s1 σ' H' D I' q
  | ret v => exact q
  | brk => exact q
  | cont => exact q
theorem pss_one (h1 : PS X st t) : PSs X [st] t := by
  intro pins s σ H D I h
  refine wpAny_execs_cons (thn (h1 pins s σ H D I h) fun f s1 q => ?_)
  cases f with
  | next => exact wpAny_execs_nil q
  | ret v => exact q
  | brk => exact q
  | cont => exact q
def tBreak : TS := fun D σ H => D.bk σ H
def tCont : TS := fun D σ H => D.ct σ H
/-- in a def's body nothing is shown -/
theorem Inv.quiet {pins : List (Addr × Obj)} {σ : St} {H : Hp} {s : Shared} (I : Inv X pins σ H s) : interactive X.env = false := by simp [interactive, I.ok.kind]
/-- an expression whose value is dropped -/
def tDrop (te : TE) : TS := fun D σ H => te σ H fun _ H1 => D.nx σ H1
theorem ps_expr (he : PE X e te) (hs : swapsWith e none pos.line X.env = pure false := by rfl) : PS X (.Expr e pos) (tDrop te) := by
  intro pins s σ H D I h
  exact wpAny_Expr_any (thn (he pins s σ H _ I h) fun v s1 ⟨x, H1, I1, r1, q1⟩ => ⟨σ, H1, I1, q1⟩) I.quiet hs
def tRet (te : TE) : TS := fun D σ H => te σ H D.rt
theorem ps_ret (he : PE X e te) : PS X (.Return (some e) pos) (tRet te) := by
  intro pins s σ H D I h
  exact wpAny_Return_some (thn (he pins s σ H _ I h) fun v s1 ⟨x, H1, I1, r1, q1⟩ => ⟨x, σ, H1, I1, r1, q1⟩)
def tRetN : TS := fun D _ H => D.rt .non H
def tIfS (c : TT) (t u : TS) : TS := fun D σ H => c σ H fun b H1 => if b = true then t D σ H1 else u D σ H1
theorem ps_if {c : Expr} {a b : List Stmt} {tc : TT} (hc : PT X c tc) (ha : PSs X a t) (hb : PSs X b u) : PS X (.If c a b pos) (tIfS tc t u) := by
  intro pins s σ H D I h
  refine wpAny_If (thn (hc pins s σ H _ I h) fun d s1 ⟨H1, I1, q1⟩ => ?_)
  cases d with
  | true => exact ha pins s1 σ H1 D I1 q1
  | false => exact hb pins s1 σ H1 D I1 q1
/-- code that the proof never comes to -/
def tNever : TS := fun _ _ _ => False
end

/-! ### targets -/
abbrev TG := V → St → Hp → (St → Hp → Prop) → Prop
abbrev TGs := List V → St → Hp → (St → Hp → Prop) → Prop
def PG (X : Cx) (target : Expr) (t : TG) : Prop :=
  ∀ (pins : List (Addr × Obj)) (s : Shared) (σ : St) (H : Hp) (v : V) (u : Value) (Q : St → Hp → Prop), Inv X pins σ H s → RelV v u → t v σ H Q →
    wpAny (model X.prog X.w) X.A (assign target X.env u) (fun _ s' => ∃ σ' H', Inv X pins σ' H' s' ∧ Q σ' H') X.xe s
/-- several targets, one after another -/
def PGs (X : Cx) (ts : List Expr) (t : TGs) : Prop :=
  ∀ (pins : List (Addr × Obj)) (s : Shared) (σ : St) (H : Hp) (vs : List V) (us : List Value) (Q : St → Hp → Prop), Inv X pins σ H s → Vals vs us → t vs σ H Q →
    wpAny (model X.prog X.w) X.A (assignInOrder ((assignEach ts X.env).map (·.2)) us) (fun _ s' => ∃ σ' H', Inv X pins σ' H' s' ∧ Q σ' H') X.xe s
/-- o[i] = v, by values -/
abbrev TSet := V → V → V → Hp → (Hp → Prop) → Prop
def PSet (X : Cx) (t : TSet) : Prop :=
  ∀ (pins : List (Addr × Obj)) (s : Shared) (σ : St) (H : Hp) (o i v : V) (ov iv u : Value) (Q : Hp → Prop), Inv X pins σ H s → RelV o ov → RelV i iv → RelV v u → t o i v H Q →
    wpAny (model X.prog X.w) X.A (setItem ov iv u) (fun _ s' => ∃ H', Inv X pins σ H' s' ∧ Q H') X.xe s
/-- a op= b, by values -/
abbrev TIp := V → V → Hp → VK → Prop
def PIp (X : Cx) (op : Operator) (t : TIp) : Prop :=
  ∀ (pins : List (Addr × Obj)) (s : Shared) (σ : St) (H : Hp) (x y : V) (v u : Value) (Q : VK), Inv X pins σ H s → RelV x v → RelV y u → t x y H Q →
    wpAny (model X.prog X.w) X.A (inplaceOp op v u) (EP X pins σ Q) X.xe s
section
variable {X : Cx} {pos : Pos}
def gName (i : Nat) : TG := fun v σ H Q => Q (σ.set i (some v)) H
theorem pg_name {i : Nat} {x : Str} (hN : X.N.Nodup) (hi : X.N[i]? = some x) (hx : Loc X.env.scope x) (hf : X.fn x = true ∨ X.env.scope.names.lookup x = some .local := by first | exact .inl rfl | exact .inr rfl | assumption) : PG X (.Name x pos) (gName i) := by
  intro pins s σ H v u Q I r h
  exact wpAny_assign_Name (store_ok I hN hi hx r (fun s' I' => ⟨_, H, I', h⟩) hf)
def gNil : TGs := fun vs σ H Q => vs = [] ∧ Q σ H
def gCons (t : TG) (u : TGs) : TGs := fun vs σ H Q => ∃ v r, vs = v :: r ∧ t v σ H fun σ' H' => u r σ' H' Q
theorem pgs_nil : PGs X [] gNil := by
  intro pins s σ H vs us Q I r h
  obtain ⟨e, h⟩ := h
  subst e
  cases r
  exact assignInOrder_nil ⟨σ, H, I, h⟩
theorem pgs_cons {e : Expr} {es : List Expr} {t : TG} {u : TGs} (h1 : PG X e t) (h2 : PGs X es u)
    (hs : (assignEach (e :: es) X.env).map (·.2) = assign e X.env :: (assignEach es X.env).map (·.2) := by rfl) : PGs X (e :: es) (gCons t u) := by
  intro pins s σ H vs us Q I r h
  obtain ⟨v, vr, e1, h⟩ := h
  subst e1
  cases r with
  | cons r rr =>
    rw [hs]
    refine assignInOrder_cons (thn (h1 pins s σ H _ _ _ I r h) fun _ s1 ⟨σ1, H1, I1, q1⟩ => ?_)
    exact h2 pins s1 σ1 H1 _ _ Q I1 rr q1
/-- (a, b, ..) = a tuple of that length -/
def gTup (K : PySem.W.Frag) (n : Nat) (t : TGs) : TG := fun v σ H Q => ∃ a xs, v = .ref a ∧ SqT K H a xs ∧ xs.length = n ∧ t xs σ H Q
theorem pg_tup {es : List Expr} {k : Nat} {t : TGs} {n : Nat} (hc : X.calm = true) (h : PGs X es t)
    (hn : (assignEach es X.env).length = n := by rfl) (hst : (assignEach es X.env).findIdx? (·.1) = none := by rfl) : PG X (.Tuple es k pos) (gTup X.K n t) := by
  intro pins s σ H v u Q I r hw
  obtain ⟨a, xs, e1, hq, hl, hw⟩ := hw
  subst e1
  cases r
  obtain ⟨its, rv, ht, hz⟩ := I.tuple hq
  refine assign_Tuple_tuple (I.ok.hd hc) ht (by simp [hn, ← hl, rv.length]) hst fun h' hx => ?_
  have I1 : Inv X pins σ H { s with heap := h' } := I.kept (t' := s.toks) fun b o e => hx b o (Nat.ne_of_lt (Heap.lt_size e)) e
  exact h pins _ σ H xs _ Q I1 (by simpa using rv) hw
/-- o[i] = .. -/
def gSub (to ti : TE) (t : TSet) : TG := fun v σ H Q => to σ H fun o H1 => ti σ H1 fun i H2 => t o i v H2 fun H3 => Q σ H3
/-- target = value -/
def tAsg (te : TE) (g : TG) : TS := fun D σ H => te σ H fun x H1 => g x σ H1 D.nx
/-- name = value -/
theorem ps_set {i : Nat} {x : Str} {e : Expr} {te : TE} {pos' : Pos} (hN : X.N.Nodup) (hi : X.N[i]? = some x) (hx : Loc X.env.scope x) (he : PE X e te) (hs : swapsWith e (some (.Name x pos')) pos.line X.env = pure false := by rfl) (hf : X.fn x = true ∨ X.env.scope.names.lookup x = some .local := by first | exact .inl rfl | exact .inr rfl | assumption) :
    PS X (.Assign [.Name x pos'] e pos) (tAsg te (gName i)) := by
  intro pins s σ H D I h
  refine wpAny_Assign_Name (thn (he pins s σ H _ I h) fun v s1 ⟨y, H1, I1, r1, q1⟩ => ?_) hs
  exact store_ok I1 hN hi hx r1 (fun s2 I2 => ⟨_, H1, I2, q1⟩) hf
/-- a, b = x, y with plain local names: stored from the right; the pair itself is not tracked (the opening rows as in PyProof/Rows/TupAssign.lean:23) -/
def tPar (i j : Nat) (ta : TA) : TS := fun D σ H => ta σ H fun vs H1 => ∃ v w, vs = [v, w] ∧ D.nx ((σ.set i (some v)).set j (some w)) H1
/-- name op= e -/
def tAug (i : Nat) (te : TE) (ti : TIp) : TS := fun D σ H => ∃ x, σ[i]? = some (some x) ∧ te σ H fun y H1 => ti x y H1 fun z H2 => D.nx (σ.set i (some z)) H2
/-- o[i] op= e -/
def tAugS (to ti te : TE) (tget : V → V → Hp → VK → Prop) (tip : TIp) (tset : TSet) : TS := fun D σ H => to σ H fun o H1 => ti σ H1 fun i H2 => tget o i H2 fun x H3 => te σ H3 fun y H4 => tip x y H4 fun z H5 => tset o i z H5 fun H6 => D.nx σ H6
/-- o[i], by values -/
def PGet (X : Cx) (t : V → V → Hp → VK → Prop) : Prop :=
  ∀ (pins : List (Addr × Obj)) (s : Shared) (σ : St) (H : Hp) (o i : V) (ov iv : Value) (Q : VK), Inv X pins σ H s → RelV o ov → RelV i iv → t o i H Q →
    wpAny (model X.prog X.w) X.A (getItem ov iv) (EP X pins σ Q) X.xe s
/-- ints -/
def ipI (f : Int → Int → Int) : TIp := fun x y H Q => ∃ i j, x = .int i ∧ y = .int j ∧ Q (.int (f i j)) H
end

/-! ### while -/
section
variable {X : Cx} {pos : Pos}
/-- the invariant W with its measure -/
def tWhile (c : TT) (tb : TS) : TS := fun D σ H => ∃ W : Nat → St → Hp → Prop, (∃ m, W m σ H) ∧ ∀ m σ H, W m σ H →
  c σ H fun b H1 => if b = true then ∃ N : St → Hp → Prop, (∀ σ' H', N σ' H' → ∃ m', m' < m ∧ W m' σ' H') ∧ tb { D with nx := N, ct := N, bk := D.nx } σ H1 else D.nx σ H1
end

/-! ### what a loop or a comprehension walks -/
/-- at turn i: it yields x (the heap may grow), or it stops -/
structure It where
  go : Nat → Hp → Prop
  yld : Nat → Hp → V → Hp → Prop
  stop : Nat → Hp → Prop
/-- the iterator's own objects may turn: they are not the frame's, not pinned, younger than the entry (or a comprehension's own) -/
def FpOk (X : Cx) (pins : List (Addr × Obj)) (H : Hp) (b : Addr) : Prop :=
  H b = none ∧ b ≠ X.env.locals ∧ b ∉ X.fs ∧ (b ∈ X.ex ∨ X.s₀.heap.objs.size ≤ b) ∧ (∀ x c, X.env.cells.lookup x = some c → c ≠ b) ∧ ∀ p ∈ X.pn ++ pins, p.1 ≠ b
theorem Inv.fpOk {X : Cx} {pins : List (Addr × Obj)} {σ : St} {H H' : Hp} {s : Shared} {b : Addr} (I : Inv X pins σ H s) (hb : s.heap.objs.size ≤ b) (hn : H' b = none) : FpOk X pins H' b := by
  refine ⟨hn, Nat.ne_of_gt (Nat.lt_of_lt_of_le I.lt hb), I.nofs hb, .inr (Nat.le_trans I.sz hb), fun x c e z => ?_, fun p hp z => ?_⟩
  · obtain ⟨v, q⟩ := I.cell x c e
    exact absurd (Nat.lt_of_lt_of_le q.lt (by rw [z]; exact hb)) (Nat.lt_irrefl _)
  · exact absurd (Nat.lt_of_lt_of_le (Heap.lt_size (I.pin p hp).1) (by rw [z]; exact hb)) (Nat.lt_irrefl _)
structure Turn (P : Program) (w : World) (K : PySem.W.Frag) (tg : Expr) (J : It) (fp : List Addr) (it : Addr) (tn : Nat → Heap → Prop) : Prop where
  mem : it ∈ fp
  obj : ∀ i h, tn i h → ∀ b ∈ fp, ∃ o, h.get? b = some o ∧ ∀ v, o.data ≠ .cell v
  keep : ∀ i h h', tn i h → (∀ b ∈ fp, ∀ o, h.get? b = some o → h'.get? b = some o) → tn i h'
  item : ∀ (X : Cx), X.prog = P → X.w = w → X.K = K → X.calm = true → ∀ (i : Nat) (pins : List (Addr × Obj)) (s : Shared) (σ : St) (H : Hp) (E : Value → Shared → Prop), Inv X pins σ H s → (∀ b ∈ fp, FpOk X pins H b) → tn i s.heap → J.go i H →
    wpAny (model P w) X.A (pyNext (.ref it)) (fun r s1 => ∃ u, r = some u ∧
      wpAny (model P w) X.A (letOwnedTupleGo tg (.ref it) u) (fun _ s2 => ∃ x H', Inv X pins σ H' s2 ∧ RelV x u ∧ J.yld i H x H' ∧ tn (i + 1) s2.heap ∧ ∀ b ∈ fp, H' b = none) E s1) E s
  done : ∀ (X : Cx), X.prog = P → X.w = w → X.K = K → X.calm = true → ∀ (i : Nat) (pins : List (Addr × Obj)) (s : Shared) (σ : St) (H : Hp) (E : Value → Shared → Prop), Inv X pins σ H s → (∀ b ∈ fp, FpOk X pins H b) → tn i s.heap → J.stop i H →
    wpAny (model P w) X.A (pyNext (.ref it)) (fun r s1 => r = none ∧ Inv X pins σ H s1) E s
  self : ∀ (A : Around) (i : Nat) (s : Shared) (Q : Value → Shared → Prop) (E : Value → Shared → Prop), tn i s.heap → Q (.ref it) s → wpAny (model P w) A (pyIter (.ref it)) Q E s
abbrev TI := St → Hp → (It → Hp → Prop) → Prop
/-- an iterator has come -/
def PIE (X : Cx) (pins : List (Addr × Obj)) (σ : St) (tg : Expr) (R : It → Hp → Prop) (itv : Value) (s2 : Shared) : Prop :=
  ∃ (it : Addr) (fp : List Addr) (tn : Nat → Heap → Prop) (J : It) (H' : Hp), itv = .ref it ∧ Inv X pins σ H' s2 ∧ Turn X.prog X.w X.K tg J fp it tn ∧ tn 0 s2.heap ∧ (∀ b ∈ fp, FpOk X pins H' b) ∧ R J H'
def PI (X : Cx) (tg iter : Expr) (wi : TI) : Prop :=
  ∀ (pins : List (Addr × Obj)) (s : Shared) (σ : St) (H : Hp) (R : It → Hp → Prop), Inv X pins σ H s → wi σ H R →
    wpAny (model X.prog X.w) X.A (eval iter X.env) (fun v s1 => wpAny (model X.prog X.w) X.A (pyIter v) (PIE X pins σ tg R) X.xe s1) X.xe s

/-- the step ahead of the store is nothing for an iterator that keeps no tuple -/
theorem go_of {M : Model} {A : Around} {E : Value → Shared → Prop} {s : Shared} {tg : Expr} {it : Addr} {u : Value} {o : Obj} {n : String} {vs : Array Value} {Q : Unit → Shared → Prop} (ho : s.heap.get? it = some o) (hc : o.cls = .type n) (hd : o.data = .fields vs)
    (hn : ["enumerate", "zip", "dict_itemiterator", "dict_reverseitemiterator", "odict_iterator", "itertools.zip_longest", "itertools.pairwise"].contains n = false) (hQ : Q () s) : wpAny M A (letOwnedTupleGo tg (.ref it) u) Q E s := by
  unfold letOwnedTupleGo
  cases tg <;> first
    | exact wpAny_pure hQ
    | (cases u <;> first
        | exact wpAny_pure hQ
        | (refine wpAny_bind (wpAny_load ho ?_)
           rw [hc, hd]
           show wpAny M A (if (["enumerate", "zip", "dict_itemiterator", "dict_reverseitemiterator", "odict_iterator", "itertools.zip_longest", "itertools.pairwise"].contains n && vs[0]? == some (rawInt _)) = true then _ else _) Q E s
           rw [if_neg (by intro h; rw [hn, Bool.false_and] at h; cases h)]
           exact wpAny_pure hQ))

/-- the list at a, as it stands at each turn (a loop may append to it) -/
def Itl (K : PySem.W.Frag) (a : Addr) : It :=
  ⟨fun i H => ∃ xs x, SqL K H a xs ∧ xs[i]? = some x, fun i H x H' => H' = H ∧ ∀ xs, SqL K H a xs → xs[i]? = some x, fun i H => ∃ xs, SqL K H a xs ∧ xs.length ≤ i⟩
def Itt (K : PySem.W.Frag) (a : Addr) : It :=
  ⟨fun i H => ∃ xs x, SqT K H a xs ∧ xs[i]? = some x, fun i H x H' => H' = H ∧ ∀ xs, SqT K H a xs → xs[i]? = some x, fun i H => ∃ xs, SqT K H a xs ∧ xs.length ≤ i⟩
/-- lo, lo + 1, .. (n of them) -/
def Itr (lo : Int) (n : Nat) : It := ⟨fun i _ => i < n, fun i H x H' => H' = H ∧ x = .int (lo + i), fun i _ => n ≤ i⟩
theorem turn_list {P : Program} {w : World} {K : PySem.W.Frag} {tg : Expr} (a it : Addr) : Turn P w K tg (Itl K a) [it] it (fun i h => h.IsListIter it a i) where
  mem := by simp
  obj := fun i h st b hb => by
    have e : b = it := by simpa using hb
    subst e
    obtain ⟨o, e, c, d⟩ := st
    exact ⟨o, e, fun v z => by rw [d] at z; cases z⟩
  keep := fun i h h' st k => st.at fun o e => k it (by simp) o e
  item := by
    intro X hP hw hK hc i pins s σ H E I hf st hg
    subst hP hw hK
    obtain ⟨xs, x, hq, hx⟩ := hg
    obtain ⟨its, rv, p, hz⟩ := I.list hq
    obtain ⟨u, hu, ru⟩ := rv.get hx
    obtain ⟨f0, f1, f2, f3, f4, f5⟩ := hf it (by simp)
    refine wpAny_pyNext_list_item st p.isList (x := u) (by simpa using hu) fun h' st' sb => ?_
    have I1 : Inv X pins σ H { s with heap := h' } := I.turned (t' := s.toks) (fun b o hb e => (sb.2 b hb).trans e) f0 f1 f3 f4 f5
    obtain ⟨o, e, c, d⟩ := id st'
    exact ⟨u, rfl, go_of (s := { s with heap := h' }) e c d (by decide) ⟨x, H, I1, ru, ⟨rfl, fun ys hy => by rw [I.list_inj hy hq]; exact hx⟩, st', fun b hb => (hf b hb).1⟩⟩
  done := by
    intro X hP hw hK hc i pins s σ H E I hf st hg
    subst hP hw hK
    obtain ⟨xs, hq, hx⟩ := hg
    obtain ⟨its, rv, p, hz⟩ := I.list hq
    obtain ⟨f0, f1, f2, f3, f4, f5⟩ := hf it (by simp)
    have hl := rv.length
    exact wpAny_pyNext_list_end (I.ok.hd hc) st p.isList (by simp; omega) fun h' eb => ⟨rfl, I.turned (t' := s.toks) (fun b o hb e => eb b o hb e) f0 f1 f3 f4 f5⟩
  self := fun _ _ _ _ _ st h => wpAny_pyIter_listiter st h
theorem turn_range {P : Program} {w : World} {K : PySem.W.Frag} {tg : Expr} (it : Addr) (lo : Int) (n : Nat) : Turn P w K tg (Itr lo n) [it] it (fun i h => IsRangeIter h it (lo + (i : Nat) * 1) ((n : Int) - (i : Nat)) 1) where
  mem := by simp
  obj := fun i h st b hb => by
    have e : b = it := by simpa using hb
    subst e
    exact ⟨_, st, fun v z => by
      have z' : Data.fields _ = Data.cell v := z
      cases z'⟩
  keep := fun i h h' st k => k it (by simp) _ st
  item := by
    intro X hP hw hK hc i pins s σ H E I hf st hg
    subst hP hw hK
    obtain ⟨f0, f1, f2, f3, f4, f5⟩ := hf it (by simp)
    have W := Walks.range (prog := X.prog) (w := X.w) (I.ok.hd hc) it lo 1 n
    refine W.item i s _ _ hg st fun v h' tk hv st' kk => ?_
    obtain ⟨t, rfl⟩ := hv
    have I1 : Inv X pins σ H { s with heap := h', toks := tk } := I.turned (fun b o hb e => kk b o (by simpa using hb) e) f0 f1 f3 f4 f5
    refine ⟨_, rfl, go_of (s := { s with heap := h', toks := tk }) (n := "range_iterator") st' rfl rfl (by decide) ⟨.int (lo + i), H, I1, ⟨t, ?_⟩, ⟨rfl, rfl⟩, st', fun b hb => (hf b hb).1⟩⟩
    rw [Int.mul_one]
  done := by
    intro X hP hw hK hc i pins s σ H E I hf st hg
    subst hP hw hK
    obtain ⟨f0, f1, f2, f3, f4, f5⟩ := hf it (by simp)
    exact wpAny_pyNext_range_end (I.ok.hd hc) st (by have : n ≤ i := hg; omega) fun h' eb => ⟨rfl, I.turned (t' := s.toks) (fun b o hb e => eb b o hb e) f0 f1 f3 f4 f5⟩
  self := fun _ _ _ _ _ st h => wpAny_pyIter_rangeiter st h
end L2

namespace L2
open PySem PySem.Spec PyProof.Rows
section
variable {X : Cx} {tg : Expr}
def iList (K : PySem.W.Frag) (tl : TE) : TI := fun σ H R => tl σ H fun x H1 => ∃ a, x = .ref a ∧ (∃ xs, SqL K H1 a xs) ∧ R (Itl K a) H1
def iTup (K : PySem.W.Frag) (tl : TE) : TI := fun σ H R => tl σ H fun x H1 => ∃ a, x = .ref a ∧ (∃ xs, SqT K H1 a xs) ∧ R (Itt K a) H1
theorem pi_list {l : Expr} {tl : TE} (hl : PE X l tl) : PI X tg l (iList X.K tl) := by
  intro pins s σ H R I h
  refine thn (hl pins s σ H _ I h) fun v s1 ⟨x, H1, I1, r1, q1⟩ => ?_
  obtain ⟨a, e, ⟨xs, hq⟩, q⟩ := q1
  subst e
  cases r1
  obtain ⟨its, rv, p, hz⟩ := I1.list hq
  refine wpAny_pyIter_list p.isList ?_
  refine ⟨s1.heap.objs.size, [s1.heap.objs.size], _, _, H1, rfl, I1.kept (t' := s1.toks) fun b o e => Heap.get?_push_of_some _ e, turn_list a _, ⟨_, Heap.get?_push_size _ rfl, rfl, rfl⟩, fun b hb => ?_, q⟩
  have e : b = s1.heap.objs.size := by simpa using hb
  subst e
  exact I1.fpOk (Nat.le_refl _) (I1.hok.fresh (Nat.le_refl _))
/-- a range object just made, walked -/
theorem range_it {pins : List (Addr × Obj)} {σ : St} {H : Hp} {s : Shared} {R : It → Hp → Prop} {E : Value → Shared → Prop} {lo hi : Int} {t u v : Tok} {tk : Nat} (I : Inv X pins σ H s) (h1 : -(2 ^ 62) ≤ lo) (h2 : lo < 2 ^ 62) (h3 : -(2 ^ 62) ≤ hi) (h4 : hi < 2 ^ 62)
    (q : R (Itr lo (hi - lo).toNat) H) : wpAny (model X.prog X.w) X.A (pyIter (.ref s.heap.objs.size)) (PIE X pins σ tg R) E { s with heap := s.heap.push { cls := .type "range", data := .fields #[.int lo t, .int hi u, .int 1 v] }, toks := tk } := by
  refine wpAny_pyIter_range (IsRange.new ..) (small_one h1 h2 h3 h4) ?_
  have I1 : Inv X pins σ H { s with heap := s.heap.push { cls := .type "range", data := .fields #[.int lo t, .int hi u, .int 1 v] }, toks := tk } := I.kept fun b o e => Heap.get?_push_of_some _ e
  refine ⟨(s.heap.push { cls := .type "range", data := .fields #[.int lo t, .int hi u, .int 1 v] }).objs.size, [(s.heap.push { cls := .type "range", data := .fields #[.int lo t, .int hi u, .int 1 v] }).objs.size], _, _, H, rfl,
    I1.kept (t' := tk) fun b o e => Heap.get?_push_of_some _ e, turn_range _ lo (hi - lo).toNat, ?_, fun b hb => ?_, q⟩
  · have e1 : lo + ((0 : Nat) : Int) * 1 = lo := by simp
    have e2 : (((hi - lo).toNat : Nat) : Int) - ((0 : Nat) : Int) = Builtin.Range.rangeSize lo hi 1 := by rw [rangeSize_one]; split <;> omega
    show IsRangeIter _ _ (lo + ((0 : Nat) : Int) * 1) ((((hi - lo).toNat : Nat) : Int) - ((0 : Nat) : Int)) 1
    rw [e1, e2]
    exact Heap.get?_push_size _ rfl
  · have e : b = (s.heap.push { cls := .type "range", data := .fields #[.int lo t, .int hi u, .int 1 v] }).objs.size := by simpa using hb
    subst e
    exact I1.fpOk (Nat.le_refl _) (I1.hok.fresh (Nat.le_refl _))
def iRng1 (ta : TA) : TI := fun σ H R => ta σ H fun vs H1 => ∃ j : Int, vs = [.int j] ∧ -(2 ^ 62) ≤ j ∧ j < 2 ^ 62 ∧ R (Itr 0 j.toNat) H1
def iRng2 (ta : TA) : TI := fun σ H R => ta σ H fun vs H1 => ∃ i j : Int, vs = [.int i, .int j] ∧ (-(2 ^ 62) ≤ i ∧ i < 2 ^ 62 ∧ -(2 ^ 62) ≤ j ∧ j < 2 ^ 62) ∧ R (Itr i (j - i).toNat) H1
theorem pi_range1 {a : Expr} {ta : TA} {p pos : Pos} (hg : Gl X "range") (hm : X.mg "range" = none) (ha : PA X [a] ta) (hs : starEach [a] X.env = [(false, eval a X.env)] := by rfl) : PI X tg (.Call (.Name "range" p) [a] [] pos) (iRng1 ta) := by
  intro pins s σ H R I h
  refine Call_ (ld_blt I hg hm boot_range (PyProof.Rows.callWith_type1 (thn (ha pos pins s σ H _ I h) fun us s1 ⟨vs, H1, I1, r1, q1⟩ => ?_) hs rfl))
  obtain ⟨j, e, q1, q2, q⟩ := q1
  subst e
  cases r1 with
  | cons r rr =>
    cases rr
    obtain ⟨t, rfl⟩ := r
    exact call_range_1 (range_it I1 (by omega) (by omega) q1 q2 (by simpa using q))
/-! ### for -/
/-- W: the invariant by the turn and a measure; N: what the body is to reach -/
def tFor (wi : TI) (g : TG) (tb : TS) : TS := fun D σ H => wi σ H fun J H1 => ∃ W : Nat → Nat → St → Hp → Prop, (∃ m, W 0 m σ H1) ∧ ∀ i m σ H, W i m σ H →
  (J.stop i H ∧ D.nx σ H) ∨ (J.go i H ∧ ∃ N : St → Hp → Prop, (∀ σ' H', N σ' H' → ∃ m', m' < m ∧ W (i + 1) m' σ' H') ∧ ∀ x H', J.yld i H x H' → g x σ H' fun σ2 H2 => tb { D with nx := N, ct := N, bk := D.nx } σ2 H2)
/-- the records at fp as they stand -/
def pinsAt (fp : List Addr) (h : Heap) : List (Addr × Obj) := fp.filterMap fun b => (h.get? b).map fun o => (b, o)
theorem mem_pinsAt {fp : List Addr} {h : Heap} {b : Addr} {o : Obj} (hb : b ∈ fp) (e : h.get? b = some o) : (b, o) ∈ pinsAt fp h := List.mem_filterMap.mpr ⟨b, hb, by rw [e]; rfl⟩
theorem of_pinsAt {fp : List Addr} {h : Heap} {p : Addr × Obj} (hp : p ∈ pinsAt fp h) : p.1 ∈ fp ∧ h.get? p.1 = some p.2 := by
  obtain ⟨b, hb, e⟩ := List.mem_filterMap.mp hp
  cases q : h.get? b with
  | none => rw [q] at e; cases e
  | some o =>
    rw [q] at e
    have e' : (b, o) = p := Option.some.inj e
    subst e'
    exact ⟨hb, q⟩
theorem Inv.pinned {pins : List (Addr × Obj)} {σ : St} {H : Hp} {s : Shared} {fp : List Addr} (I : Inv X pins σ H s) (hf : ∀ b ∈ fp, FpOk X pins H b) (ho : ∀ b ∈ fp, ∃ o, s.heap.get? b = some o ∧ ∀ v, o.data ≠ .cell v) : Inv X (pins ++ pinsAt fp s.heap) σ H s :=
  I.pins_of fun p hp => (List.mem_append.mp hp).elim (fun z => I.pin p (List.mem_append_right _ z)) fun z => by
    obtain ⟨hb, e⟩ := of_pinsAt z
    obtain ⟨f0, f1, f2, _⟩ := hf p.1 hb
    obtain ⟨o, e', d⟩ := ho p.1 hb
    rw [e] at e'; cases e'
    exact ⟨e, f0, f1, f2, d⟩
theorem Inv.unpinned {pins pl : List (Addr × Obj)} {σ : St} {H : Hp} {s : Shared} (I : Inv X (pins ++ pl) σ H s) : Inv X pins σ H s := I.pins_of fun p hp => I.pin p (List.mem_append_right _ (List.mem_append_left _ hp))
theorem ps_for {iter : Expr} {body : List Stmt} {wi : TI} {g : TG} {tb : TS} {pos : Pos} (hp : PassesOwn (model X.prog X.w) X.A X.env X.xe) (hc : X.calm = true) (hi : PI X tg iter wi) (hg : PG X tg g) (hb : PSs X body tb)
    (hs : ∀ x, foldedSetIterable iter X.env x = pure x := by intro _; rfl) : PS X (.For tg iter body [] pos) (tFor wi g tb) := by
  intro pins s σ H D I h
  refine wpAny_For (thn (hi pins s σ H _ I h) fun v s1 h1 => thn h1 fun itv s2 h2 => ?_) hs
  obtain ⟨it, fp, tn, J, H2, e, I2, T, st2, f2, W, ⟨m0, w0⟩, turn⟩ := h2
  subst e
  -- what stays true of the iterator's objects through the loop
  have stat : ∀ {H' : Hp}, (∀ b ∈ fp, H' b = none) → ∀ b ∈ fp, FpOk X pins H' b := fun hn b hb => ⟨hn b hb, (f2 b hb).2⟩
  refine codeAny_forLoop_any (fun n s' => ∃ i σ' H', Inv X pins σ' H' s' ∧ tn i s'.heap ∧ (∀ b ∈ fp, H' b = none) ∧ W i n σ' H') ?_ m0 ⟨0, σ, H2, I2, st2, fun b hb => (f2 b hb).1, w0⟩
  rintro n s3 ⟨i, σ3, H3, I3, st3, fr3, w3⟩
  rcases turn i n σ3 H3 w3 with ⟨stop, qn⟩ | ⟨go, N, hN, step⟩
  · refine wpAny_passesOwn hp (thn (T.done X rfl rfl rfl hc i pins s3 σ3 H3 X.xe I3 (stat fr3) st3 stop) fun r s4 ⟨hr, I4⟩ => ?_)
    subst hr
    exact wpAny_execs_nil ⟨σ3, H3, I4, qn⟩
  · refine wpAny_passesOwn hp (thn (T.item X rfl rfl rfl hc i pins s3 σ3 H3 X.xe I3 (stat fr3) st3 go) fun r s4 ⟨u, hr, h4⟩ => ?_)
    subst hr
    refine wpAny_passesOwn hp (thn h4 fun _ s5 ⟨x, H5, I5, r5, y5, st5, fr5⟩ => ?_)
    have I5' := I5.pinned (stat fr5) (T.obj _ _ st5)
    refine wpAny_passesOwn hp (thn (hg _ s5 σ3 H5 x u _ I5' r5 (step x H5 y5)) fun _ s6 ⟨σ6, H6, I6, q6⟩ => ?_)
    refine wpAny_passesOwn hp (thn (hb _ s6 σ6 H6 _ I6 q6) fun f s7 q7 => ?_)
    have again : ∀ {σ7 : St} {H7 : Hp}, Inv X (pins ++ pinsAt fp s5.heap) σ7 H7 s7 → N σ7 H7 → ∃ m, m < n ∧ ∃ i σ' H', Inv X pins σ' H' s7 ∧ tn i s7.heap ∧ (∀ b ∈ fp, H' b = none) ∧ W i m σ' H' := fun {σ7 H7} I7 n7 => by
      obtain ⟨m', hm, w7⟩ := hN σ7 H7 n7
      refine ⟨m', hm, i + 1, σ7, H7, I7.unpinned, T.keep _ _ _ st5 fun b hb o e => (I7.pin (b, o) (List.mem_append_right _ (List.mem_append_right _ (mem_pinsAt hb e)))).1, fun b hb => ?_, w7⟩
      obtain ⟨o, e, d⟩ := T.obj _ _ st5 b hb
      exact (I7.pin (b, o) (List.mem_append_right _ (List.mem_append_right _ (mem_pinsAt hb e)))).2.1
    cases f with
    | next => obtain ⟨σ7, H7, I7, n7⟩ := q7; exact again I7 n7
    | cont => obtain ⟨σ7, H7, I7, n7⟩ := q7; exact again I7 n7
    | brk => obtain ⟨σ7, H7, I7, q7⟩ := q7; exact ⟨σ7, H7, I7.unpinned, q7⟩
    | ret v => obtain ⟨x7, σ7, H7, I7, r7, q7⟩ := q7; exact ⟨x7, σ7, H7, I7.unpinned, r7, q7⟩
end

/-! ### the forms one uses -/
/-- over a list that the body leaves as it is -/
theorem for_list {K : PySem.W.Frag} {a : Addr} {xs : List V} {g : TG} {tb : TS} {D : Ends} {σ : St} {H : Hp} (Pv : Nat → St → Hp → Prop) (h0 : Pv 0 σ H) (hl : ∀ i σ H, i ≤ xs.length → Pv i σ H → SqL K H a xs)
    (hs : ∀ i x σ H, xs[i]? = some x → Pv i σ H → g x σ H fun σ2 H2 => tb { D with nx := Pv (i + 1), ct := Pv (i + 1), bk := D.nx } σ2 H2) (hd : ∀ σ H, Pv xs.length σ H → D.nx σ H) :
    ∃ W : Nat → Nat → St → Hp → Prop, (∃ m, W 0 m σ H) ∧ ∀ i m σ H, W i m σ H →
      ((Itl K a).stop i H ∧ D.nx σ H) ∨ ((Itl K a).go i H ∧ ∃ N : St → Hp → Prop, (∀ σ' H', N σ' H' → ∃ m', m' < m ∧ W (i + 1) m' σ' H') ∧ ∀ x H', (Itl K a).yld i H x H' → g x σ H' fun σ2 H2 => tb { D with nx := N, ct := N, bk := D.nx } σ2 H2) := by
  refine ⟨fun i m σ H => m = xs.length - i ∧ i ≤ xs.length ∧ Pv i σ H, ⟨xs.length, by simp, Nat.zero_le _, h0⟩, ?_⟩
  rintro i m σ H ⟨rfl, hi, p⟩
  have q := hl i σ H hi p
  by_cases hlt : i < xs.length
  · refine .inr ⟨⟨xs, xs[i], q, by simp [hlt]⟩, Pv (i + 1), fun σ' H' p' => ⟨xs.length - (i + 1), by omega, rfl, hlt, p'⟩, fun x H' y => ?_⟩
    obtain ⟨e, y⟩ := y
    subst e
    exact hs i x σ _ (y xs q) p
  · have e : i = xs.length := by omega
    subst e
    exact .inl ⟨⟨xs, q, Nat.le_refl _⟩, hd σ H p⟩
theorem for_range {lo : Int} {n : Nat} {g : TG} {tb : TS} {D : Ends} {σ : St} {H : Hp} (Pv : Nat → St → Hp → Prop) (h0 : Pv 0 σ H)
    (hs : ∀ i σ H, i < n → Pv i σ H → g (.int (lo + i)) σ H fun σ2 H2 => tb { D with nx := Pv (i + 1), ct := Pv (i + 1), bk := D.nx } σ2 H2) (hd : ∀ σ H, Pv n σ H → D.nx σ H) :
    ∃ W : Nat → Nat → St → Hp → Prop, (∃ m, W 0 m σ H) ∧ ∀ i m σ H, W i m σ H →
      ((Itr lo n).stop i H ∧ D.nx σ H) ∨ ((Itr lo n).go i H ∧ ∃ N : St → Hp → Prop, (∀ σ' H', N σ' H' → ∃ m', m' < m ∧ W (i + 1) m' σ' H') ∧ ∀ x H', (Itr lo n).yld i H x H' → g x σ H' fun σ2 H2 => tb { D with nx := N, ct := N, bk := D.nx } σ2 H2) := by
  refine ⟨fun i m σ H => m = n - i ∧ i ≤ n ∧ Pv i σ H, ⟨n, by simp, Nat.zero_le _, h0⟩, ?_⟩
  rintro i m σ H ⟨rfl, hi, p⟩
  by_cases hlt : i < n
  · refine .inr ⟨hlt, Pv (i + 1), fun σ' H' p' => ⟨n - (i + 1), by omega, rfl, hlt, p'⟩, fun x H' y => ?_⟩
    obtain ⟨e, y⟩ := y
    subst e y
    exact hs i σ _ hlt p
  · have e : i = n := by omega
    subst e
    exact .inl ⟨Nat.le_refl _, hd σ H p⟩
end L2

namespace L2
open PySem PySem.Spec PyProof.Rows

abbrev R2 := V → V → Hp → VK → Prop
/-- a two-place operation on values: f is binaryOp op, inplaceOp op or compareOp op -/
def OpR (X : Cx) (f : Value → Value → Sem Value) (r : R2) : Prop :=
  ∀ (pins : List (Addr × Obj)) (s : Shared) (σ : St) (H : Hp) (x y : V) (v u : Value) (Q : VK), Inv X pins σ H s → RelV x v → RelV y u → r x y H Q →
    wpAny (model X.prog X.w) X.A (f v u) (EP X pins σ Q) X.xe s
/-- a one-place operation -/
def UnR (X : Cx) (f : Value → Sem Value) (r : V → Hp → VK → Prop) : Prop :=
  ∀ (pins : List (Addr × Obj)) (s : Shared) (σ : St) (H : Hp) (x : V) (v : Value) (Q : VK), Inv X pins σ H s → RelV x v → r x H Q →
    wpAny (model X.prog X.w) X.A (f v) (EP X pins σ Q) X.xe s
/-- a call of a value that is known (a builtin, a type) with values -/
def CallR (X : Cx) (f : Value) (r : List V → Hp → VK → Prop) : Prop :=
  ∀ (pins : List (Addr × Obj)) (s : Shared) (σ : St) (H : Hp) (xs : List V) (us : List Value) (Q : VK), Inv X pins σ H s → Vals xs us → r xs H Q →
    wpAny (model X.prog X.w) X.A (call f us) (EP X pins σ Q) X.xe s
/-- a value's truth -/
def TruR (X : Cx) (r : V → Hp → (Bool → Hp → Prop) → Prop) : Prop :=
  ∀ (pins : List (Addr × Obj)) (s : Shared) (σ : St) (H : Hp) (x : V) (v : Value) (Q : Bool → Hp → Prop), Inv X pins σ H s → RelV x v → r x H Q →
    wpAny (model X.prog X.w) X.A (truthy v) (TP X pins σ Q) X.xe s

def tOp (r : R2) (ta tb : TE) : TE := fun σ H Q => ta σ H fun x H1 => tb σ H1 fun y H2 => r x y H2 Q
def tUn (r : V → Hp → VK → Prop) (ta : TE) : TE := fun σ H Q => ta σ H fun x H1 => r x H1 Q
/-- ints in, under C, and a value out -/
def rI (C : Int → Int → Prop) (g : Int → Int → V) : R2 := fun x y H Q => ∃ i j, x = .int i ∧ y = .int j ∧ C i j ∧ Q (g i j) H
def rI0 (g : Int → Int → V) : R2 := fun x y H Q => ∃ i j, x = .int i ∧ y = .int j ∧ Q (g i j) H
def rU (g : Int → V) : V → Hp → VK → Prop := fun x H Q => ∃ i, x = .int i ∧ Q (g i) H

section
variable {X : Cx} {a b c : Expr} {ta tb tc : TE} {pos : Pos}

theorem binT (ha : PE X a ta) (hb : PE X b tb) {pins : List (Addr × Obj)} {s : Shared} {σ : St} {H : Hp} {R : V → V → Hp → Prop} (I : Inv X pins σ H s)
    (h : ta σ H fun x H1 => tb σ H1 fun y H2 => R x y H2) {Q : Value → Shared → Prop} {f : Value → Value → Sem Value}
    (hf : ∀ v u s2 x y H2, Inv X pins σ H2 s2 → RelV x v → RelV y u → R x y H2 → wpAny (model X.prog X.w) X.A (f v u) Q X.xe s2) :
    wpAny (model X.prog X.w) X.A (eval a X.env) (fun v s₁ => wpAny (model X.prog X.w) X.A (eval b X.env) (fun u s₂ => wpAny (model X.prog X.w) X.A (f v u) Q X.xe s₂) X.xe s₁) X.xe s := by
  refine thn (ha pins s σ H _ I h) fun v s1 ⟨x, H1, I1, r1, q1⟩ => ?_
  refine thn (hb pins s1 σ H1 _ I1 q1) fun u s2 ⟨y, H2, I2, r2, q2⟩ => ?_
  exact hf v u s2 x y H2 I2 r1 r2 q2

theorem pe_op {op : Operator} {r : R2} (ho : OpR X (binaryOp op) r) (ha : PE X a ta) (hb : PE X b tb) : PE X (.BinOp a op b pos) (tOp r ta tb) := by
  intro pins s σ H Q I h
  exact wpAny_BinOp (binT ha hb I h fun v u s2 x y H2 I2 rx ry q => ho pins s2 σ H2 x y v u Q I2 rx ry q)
/-! ### ints -/
theorem opI {f : Value → Value → Sem Value} {C : Int → Int → Prop} {g : Int → Int → Int}
    (rule : ∀ (i j : Int) (t u : Tok) (s : Shared) (Q : Value → Shared → Prop) (E : Value → Shared → Prop), C i j → Q (.int (g i j) s.toks) { s with toks := s.toks + 1 } → wpAny (model X.prog X.w) X.A (f (.int i t) (.int j u)) Q E s) :
    OpR X f (rI C fun i j => .int (g i j)) := by
  intro pins s σ H x y v u Q I rx ry h
  obtain ⟨i, j, rfl, rfl, hc, q⟩ := h
  obtain ⟨t, rfl⟩ := rx
  obtain ⟨t', rfl⟩ := ry
  exact rule i j t t' s _ _ hc ⟨.int (g i j), H, I.tok _, ⟨_, rfl⟩, q⟩
theorem opI0 {f : Value → Value → Sem Value} {g : Int → Int → Int}
    (rule : ∀ (i j : Int) (t u : Tok) (s : Shared) (Q : Value → Shared → Prop) (E : Value → Shared → Prop), Q (.int (g i j) s.toks) { s with toks := s.toks + 1 } → wpAny (model X.prog X.w) X.A (f (.int i t) (.int j u)) Q E s) :
    OpR X f (rI0 fun i j => .int (g i j)) := by
  intro pins s σ H x y v u Q I rx ry h
  obtain ⟨i, j, rfl, rfl, q⟩ := h
  obtain ⟨t, rfl⟩ := rx
  obtain ⟨t', rfl⟩ := ry
  exact rule i j t t' s _ _ ⟨.int (g i j), H, I.tok _, ⟨_, rfl⟩, q⟩
theorem opB0 {f : Value → Value → Sem Value} {g : Int → Int → Bool}
    (rule : ∀ (i j : Int) (t u : Tok) (s : Shared) (Q : Value → Shared → Prop) (E : Value → Shared → Prop), Q (.bool (g i j)) s → wpAny (model X.prog X.w) X.A (f (.int i t) (.int j u)) Q E s) :
    OpR X f (rI0 fun i j => .bl (g i j)) := by
  intro pins s σ H x y v u Q I rx ry h
  obtain ⟨i, j, rfl, rfl, q⟩ := h
  obtain ⟨t, rfl⟩ := rx
  obtain ⟨t', rfl⟩ := ry
  exact rule i j t t' s _ _ ⟨.bl (g i j), H, I, rfl, q⟩

def CDiv (i j : Int) : Prop := 0 < j ∧ j < 1073741824
def CDivN (i j : Int) : Prop := j ≠ 0 ∧ j.natAbs < 1073741824
def CPow (i j : Int) : Prop := 0 ≤ j ∧ j ≤ 1000000 ∧ i.natAbs < 2 ^ 64
def CMul (i j : Int) : Prop := (-(2 ^ 64) < i ∧ i < 2 ^ 64) ∨ (-(2 ^ 64) < j ∧ j < 2 ^ 64)
theorem CMul.ok {i j : Int} (h : CMul i j) : IntMulOk i j := by
  rcases h with ⟨h1, h2⟩ | ⟨h1, h2⟩
  · exact .of_left (intBits_le_64 h1 h2)
  · exact .of_right (intBits_le_64 h1 h2)
theorem op_add : OpR X (binaryOp .Add) (rI0 fun i j => .int (i + j)) := opI0 fun _ _ _ _ _ _ _ q => add_int q
theorem op_mul : OpR X (binaryOp .Mult) (rI CMul fun i j => .int (i * j)) := opI fun _ _ _ _ _ _ _ hc q => mul_int q hc.ok
/-- // by a positive divisor -/
theorem op_fdiv : OpR X (binaryOp .FloorDiv) (rI CDiv fun i j => .int (i / j)) := opI fun i j _ _ _ _ _ hc q => by
  have h1 : (0 : Int) < j := hc.1
  have h2 : j < 1073741824 := hc.2
  exact floordiv_int (by omega) (by rw [Int.fdiv_eq_ediv_of_nonneg i (by omega)]; exact q) (.inl (PyProof.noPylong_small (by omega)))
/-- % by a positive divisor of any size -/
theorem op_mod : OpR X (binaryOp .Mod) (rI (fun _ j => 0 < j) fun i j => .int (i % j)) := opI fun i j _ _ _ _ _ hc q => by
  have h1 : (0 : Int) < j := hc
  exact mod_int' (by omega) (by rw [Int.fmod_eq_emod_of_nonneg i (by omega)]; exact q)
/-! ### bools among ints: n += (a < b) -/
end

/-! ### comparisons -/
/-- the scalars that == tells apart as data does -/
def scal : V → V → Bool
  | .non, .non => true | .non, .int _ => true | .int _, .non => true | .non, .bl _ => true | .bl _, .non => true | .non, .str _ => true | .str _, .non => true
  | .int _, .int _ => true | .bl _, .bl _ => true | .str _, .str _ => true | .byt _, .byt _ => true
  | .int _, .str _ => true | .str _, .int _ => true | .bl _, .str _ => true | .str _, .bl _ => true
  | _, _ => false
def rEq : R2 := fun x y H Q => scal x y = true ∧ Q (.bl (decide (x = y))) H
def rNe : R2 := fun x y H Q => scal x y = true ∧ Q (.bl (!decide (x = y))) H

theorem dec_int {i j : Int} : decide (V.int i = V.int j) = (i == j) := by
  rw [Bool.eq_iff_iff]
  simp
theorem dec_bl {i j : Bool} : decide (V.bl i = V.bl j) = (i == j) := by
  rw [Bool.eq_iff_iff]
  simp
theorem dec_str {i j : Str} : decide (V.str i = V.str j) = (i == j) := by
  rw [Bool.eq_iff_iff]
  simp
theorem dec_byt {i j : Array UInt8} : decide (V.byt i = V.byt j) = (i.toList == j.toList) := by
  rw [Bool.eq_iff_iff]
  cases i
  cases j
  simp

section
variable {X : Cx} {a b c : Expr} {ta tb tc : TE} {pos : Pos}
theorem fin_bl {pins : List (Addr × Obj)} {σ : St} {H : Hp} {s : Shared} {Q : VK} {k k' : Bool} (I : Inv X pins σ H s) (q : Q (.bl k) H) (e : k = k') : EP X pins σ Q (.bool k') s := by
  subst e
  exact ⟨.bl k, H, I, rfl, q⟩
theorem op_eq : OpR X (compareOp .Eq) rEq := by
  intro pins s σ H x y v u Q I rx ry h
  obtain ⟨hs, q⟩ := h
  cases x with
  | non =>
    cases rx
    cases y with
    | non => cases ry; exact PySem.EqNone.eq_none_none (fin_bl I q (by simp))
    | bl j => cases ry; exact PySem.EqNone.eq_none_bool (fin_bl I q (by simp))
    | int j => obtain ⟨t', rfl⟩ := ry; exact PySem.EqNone.eq_none_int (fin_bl I q (by simp))
    | str j => obtain ⟨t', rfl⟩ := ry; exact PySem.EqNone.eq_none_str (fin_bl I q (by simp))
    | _ => exact absurd (show false = true from hs) Bool.false_ne_true
  | bl i =>
    cases rx
    cases y with
    | non => cases ry; exact PySem.EqNone.eq_bool_none (fin_bl I q (by simp))
    | bl j => cases ry; exact eq_bool (fin_bl I q dec_bl)
    | str j => obtain ⟨t', rfl⟩ := ry; exact PySem.EqMixed.eq_bool_str (fin_bl I q (by simp))
    | _ => exact absurd (show false = true from hs) Bool.false_ne_true
  | int i =>
    obtain ⟨t, rfl⟩ := rx
    cases y with
    | non => cases ry; exact PySem.EqNone.eq_int_none (fin_bl I q (by simp))
    | int j => obtain ⟨t', rfl⟩ := ry; exact eq_int (fin_bl I q dec_int)
    | str j => obtain ⟨t', rfl⟩ := ry; exact PySem.EqMixed.eq_int_str (fin_bl I q (by simp))
    | _ => exact absurd (show false = true from hs) Bool.false_ne_true
  | str i =>
    obtain ⟨t, rfl⟩ := rx
    cases y with
    | non => cases ry; exact PySem.EqNone.eq_str_none (fin_bl I q (by simp))
    | bl j => cases ry; exact PySem.EqMixed.eq_str_bool (fin_bl I q (by simp))
    | int j => obtain ⟨t', rfl⟩ := ry; exact PySem.EqMixed.eq_str_int (fin_bl I q (by simp))
    | str j => obtain ⟨t', rfl⟩ := ry; exact eq_str (fin_bl I q dec_str)
    | _ => exact absurd (show false = true from hs) Bool.false_ne_true
  | byt i =>
    obtain ⟨t, rfl⟩ := rx
    cases y with
    | byt j => obtain ⟨t', rfl⟩ := ry; exact PySem.W.eq_bytes (fin_bl I q dec_byt)
    | _ => exact absurd (show false = true from hs) Bool.false_ne_true
  | _ => cases y <;> exact absurd (show false = true from hs) Bool.false_ne_true
theorem op_ne : OpR X (compareOp .NotEq) rNe := by
  intro pins s σ H x y v u Q I rx ry h
  obtain ⟨hs, q⟩ := h
  cases x with
  | non =>
    cases rx
    cases y with
    | non => cases ry; exact PySem.EqNone.ne_none_none (fin_bl I q (by simp))
    | bl j => cases ry; exact PySem.EqNone.ne_none_bool (fin_bl I q (by simp))
    | int j => obtain ⟨t', rfl⟩ := ry; exact PySem.EqNone.ne_none_int (fin_bl I q (by simp))
    | str j => obtain ⟨t', rfl⟩ := ry; exact PySem.EqNone.ne_none_str (fin_bl I q (by simp))
    | _ => exact absurd (show false = true from hs) Bool.false_ne_true
  | bl i =>
    cases rx
    cases y with
    | non => cases ry; exact PySem.EqNone.ne_bool_none (fin_bl I q (by simp))
    | bl j => cases ry; exact ne_bool (fin_bl I q (congrArg not dec_bl))
    | str j => obtain ⟨t', rfl⟩ := ry; exact PySem.EqMixed.ne_bool_str (fin_bl I q (by simp))
    | _ => exact absurd (show false = true from hs) Bool.false_ne_true
  | int i =>
    obtain ⟨t, rfl⟩ := rx
    cases y with
    | non => cases ry; exact PySem.EqNone.ne_int_none (fin_bl I q (by simp))
    | int j => obtain ⟨t', rfl⟩ := ry; exact ne_int (fin_bl I q (congrArg not dec_int))
    | str j => obtain ⟨t', rfl⟩ := ry; exact PySem.EqMixed.ne_int_str (fin_bl I q (by simp))
    | _ => exact absurd (show false = true from hs) Bool.false_ne_true
  | str i =>
    obtain ⟨t, rfl⟩ := rx
    cases y with
    | non => cases ry; exact PySem.EqNone.ne_str_none (fin_bl I q (by simp))
    | bl j => cases ry; exact PySem.EqMixed.ne_str_bool (fin_bl I q (by simp))
    | int j => obtain ⟨t', rfl⟩ := ry; exact PySem.EqMixed.ne_str_int (fin_bl I q (by simp))
    | str j => obtain ⟨t', rfl⟩ := ry; exact ne_str (fin_bl I q (congrArg not dec_str))
    | _ => exact absurd (show false = true from hs) Bool.false_ne_true
  | byt i =>
    obtain ⟨t, rfl⟩ := rx
    cases y with
    | byt j => obtain ⟨t', rfl⟩ := ry; exact PySem.W.ne_bytes (fin_bl I q (congrArg not dec_byt))
    | _ => exact absurd (show false = true from hs) Bool.false_ne_true
  | _ => cases y <;> exact absurd (show false = true from hs) Bool.false_ne_true

theorem op_lt : OpR X (compareOp .Lt) (rI0 fun i j => .bl (decide (i < j))) := opB0 fun _ _ _ _ _ _ _ q => lt_int q
theorem op_le : OpR X (compareOp .LtE) (rI0 fun i j => .bl (decide (i ≤ j))) := opB0 fun _ _ _ _ _ _ _ q => le_int q
theorem op_gt : OpR X (compareOp .Gt) (rI0 fun i j => .bl (decide (j < i))) := opB0 fun _ _ _ _ _ _ _ q => gt_int q
/-- is, is not of two objects that are tracked lists or instances -/
def isObj : HO → Bool
  | .lst _ => true
  | .ins _ _ _ => true
  | _ => false
theorem nomark (b : Expr) {op : CmpOp} (h : op ≠ .In := by decide) (h2 : op ≠ .NotIn := by decide) : behindInMarks op b = false := by
  have e1 : (op == CmpOp.In) = false := by cases op <;> first | rfl | exact absurd rfl h
  have e2 : (op == CmpOp.NotIn) = false := by cases op <;> first | rfl | exact absurd rfl h2
  cases b <;> simp [behindInMarks, e1, e2]
/-- a comparison as a value; hm: nomark b, or (for in, not in) by with_unfolding_all rfl -/
theorem pe_cmpR {op : CmpOp} {r : R2} (ho : OpR X (compareOp op) r) (ha : PE X a ta) (hb : PE X b tb) (hm : behindInMarks op b = false) : PE X (.Compare a [op] [b] pos) (tOp r ta tb) := by
  intro pins s σ H Q I h
  exact wpAny_Compare1 (binT ha hb I h fun v u s2 x y H2 I2 rx ry q => ho pins s2 σ H2 x y v u Q I2 rx ry q) hm
/-- a reading of a value as a test -/
def tTest (t : TE) : TT := fun σ H Q => t σ H fun x H' => ∃ k, x = .bl k ∧ Q k H'
theorem pt_cmpR {op : CmpOp} {r : R2} (ho : OpR X (compareOp op) r) (ha : PE X a ta) (hb : PE X b tb) (hm : behindInMarks op b = false) : PT X (.Compare a [op] [b] pos) (tTest (tOp r ta tb)) := by
  intro pins s σ H Q I h
  refine wpAny_isTrue_Compare1 (thn (ha pins s σ H _ I h) fun v s1 ⟨x, H1, I1, r1, q1⟩ => thn (hb pins s1 σ H1 _ I1 q1) fun u s2 ⟨y, H2, I2, r2, q2⟩ =>
    thn (ho pins s2 σ H2 x y v u _ I2 r1 r2 q2) fun c s3 ⟨z, H3, I3, r3, k, e, q3⟩ => ?_) hm
  subst e
  cases r3
  exact wpAny_truthy_bool ⟨H3, I3, q3⟩
/-- a op1 b op2 c -/
def tChain (r r' : R2) (ta tb tc : TE) : TE := fun σ H Q => ta σ H fun x H1 => tb σ H1 fun y H2 => r x y H2 fun z H3 => ∃ k, z = .bl k ∧
  (if k = true then tc σ H3 fun w' H4 => r' y w' H4 Q else Q (.bl false) H3)
theorem pe_chain {op op' : CmpOp} {r r' : R2} (ho : OpR X (compareOp op) r) (ho' : OpR X (compareOp op') r') (ha : PE X a ta) (hb : PE X b tb) (hc : PE X c tc)
    (hm : lastMarks [op, op'] [b, c] = false := by with_unfolding_all rfl) : PE X (.Compare a [op, op'] [b, c] pos) (tChain r r' ta tb tc) := by
  intro pins s σ H Q I h
  refine Compare_chain (thn (ha pins s σ H _ I h) fun v s1 ⟨x, H1, I1, r1, q1⟩ => chain_link (thn (hb pins s1 σ H1 _ I1 q1) fun u s2 ⟨y, H2, I2, r2, q2⟩ =>
    thn (ho pins s2 σ H2 x y v u _ I2 r1 r2 q2) fun d s3 ⟨z, H3, I3, r3, k, e, q3⟩ => ?_)) hm
  subst e
  cases r3
  refine wpAny_truthy_bool ?_
  cases k with
  | false => exact ite_ff ⟨.bl false, H3, I3, rfl, q3⟩
  | true => exact ite_tt (chain_last (thn (hc pins s3 σ H3 _ I3 q3) fun w' s4 ⟨z', H4, I4, r4, q4⟩ => ho' pins s4 σ H4 y z' u w' Q I4 r2 r4 q4))
theorem pt_chain {op op' : CmpOp} {r r' : R2} (ho : OpR X (compareOp op) r) (ho' : OpR X (compareOp op') r') (ha : PE X a ta) (hb : PE X b tb) (hc : PE X c tc)
    (hm : lastMarks [op, op'] [b, c] = false := by with_unfolding_all rfl) : PT X (.Compare a [op, op'] [b, c] pos) (tTest (tChain r r' ta tb tc)) := by
  intro pins s σ H Q I h
  refine isTrue_chain (thn (ha pins s σ H _ I h) fun v s1 ⟨x, H1, I1, r1, q1⟩ => test_link (thn (hb pins s1 σ H1 _ I1 q1) fun u s2 ⟨y, H2, I2, r2, q2⟩ =>
    thn (ho pins s2 σ H2 x y v u _ I2 r1 r2 q2) fun d s3 ⟨z, H3, I3, r3, k, e, q3⟩ => ?_)) hm
  subst e
  cases r3
  refine wpAny_truthy_bool ?_
  cases k with
  | false =>
    obtain ⟨k', e', q'⟩ := q3
    cases e'
    exact ite_ff ⟨H3, I3, q'⟩
  | true =>
    refine ite_tt (test_last (thn (hc pins s3 σ H3 _ I3 q3) fun w' s4 ⟨z', H4, I4, r4, q4⟩ => thn (ho' pins s4 σ H4 y z' u w' _ I4 r2 r4 q4) fun d' s5 ⟨z2, H5, I5, r5, k2, e2, q5⟩ => ?_))
    subst e2
    cases r5
    exact wpAny_truthy_bool ⟨H5, I5, q5⟩

/-! ### truth -/
/-- a value's truth by the abstract heap -/
def TruV (K : PySem.W.Frag) (x : V) (H : Hp) (k : Bool) : Prop :=
  match x with
  | .non => k = false
  | .bl b => k = b
  | .int i => k = (i != 0)
  | .str y => y.length ≤ sizeLine ∧ k = ((y.length : Int) != 0)
  | .byt y => y.size ≤ sizeLine ∧ k = ((y.size : Int) != 0)
  | .ref p => (∃ xs, SqL K H p xs ∧ k = !xs.isEmpty) ∨ (∃ xs, SqT K H p xs ∧ k = !xs.isEmpty) ∨ ∃ kvs, H p = some (.dK kvs) ∧ k = !kvs.isEmpty
  | _ => False
theorem line63 : (sizeLine : Nat) < 2 ^ 63 := by rw [sizeLine_eq]; decide
/-! ### strs and bytes -/
theorem op_add_str : OpR X (binaryOp .Add) (fun x y H Q => ∃ i j, x = .str i ∧ y = .str j ∧ i.length + j.length ≤ sizeLine ∧ Q (.str (i ++ j)) H) := by
  intro pins s σ H x y v u Q I rx ry h
  obtain ⟨i, j, rfl, rfl, hz, q⟩ := h
  obtain ⟨t, rfl⟩ := rx
  obtain ⟨t', rfl⟩ := ry
  exact add_str (fun t' tk => ⟨.str (i ++ j), H, I.tok _, ⟨_, rfl⟩, q⟩) hz
def PlainIxT (b : Expr) : Prop := ∀ o i, subscripted b false o i = operate [o, i] (getItem o i)
/-! ### scalar builtins, by CallR -/
theorem vals1 {x : V} {us : List Value} (r : Vals [x] us) : ∃ u, us = [u] ∧ RelV x u := by
  cases r with
  | cons r1 r2 => cases r2; exact ⟨_, rfl, r1⟩
theorem vals2 {x y : V} {us : List Value} (r : Vals [x, y] us) : ∃ u w', us = [u, w'] ∧ RelV x u ∧ RelV y w' := by
  cases r with
  | cons r1 r2 =>
    cases r2 with
    | cons r3 r4 => cases r4; exact ⟨_, _, rfl, r1, r3⟩
theorem call_str_int : CallR X (.type "str") (fun xs H Q => ∃ i, xs = [.int i] ∧ i.natAbs.log2 < 1920 ∧ Q (.str (toString i)) H) := by
  intro pins s σ H xs us Q I r h
  obtain ⟨i, rfl, hz, q⟩ := h
  obtain ⟨u, rfl, t, rfl⟩ := vals1 r
  exact PySem.P.str_of_int hz ⟨.str _, H, I.tok _, ⟨_, rfl⟩, q⟩
/-- len of a str, a bytes, a list, a tuple -/
def LenV (K : PySem.W.Frag) (x : V) (H : Hp) (n : Nat) : Prop :=
  match x with
  | .str y => y.length ≤ sizeLine ∧ n = y.length
  | .byt y => y.size ≤ sizeLine ∧ n = y.size
  | .ref p => (∃ xs, SqL K H p xs ∧ n = xs.length) ∨ ∃ xs, SqT K H p xs ∧ n = xs.length
  | _ => False
end
end L2

namespace L2
open PySem PySem.Spec PyProof.Rows

/-! ### an instance, its attributes a map -/
structure ObjM (h : Heap) (x dx C : Addr) (mA : Str → Option Value) : Prop where
  obj : h.get? x = some (PySem.W.instObj C dx)
  ns : h.Ns1 dx mA
  ne : dx ≠ x

theorem lookIn_ns {h : Heap} {dx : Addr} {mA : Str → Option Value} (n : h.Ns1 dx mA) : ∃ od, h.get? dx = some od ∧ ∀ name, PySem.W.lookIn name od = some (mA name) := by
  obtain ⟨o, es, ep, ho, hd, hk, _, hm⟩ := n
  refine ⟨o, ho, fun name => ?_⟩
  have e := hm name
  unfold nsFind findBy at e
  rw [← Array.find?_toList] at e
  unfold PySem.W.lookIn
  rw [hd]
  dsimp only
  split
  · rename_i y q
    rw [q] at e
    exact congrArg some e
  · rename_i q
    rw [q] at e
    have a : es.toList.any (·.refKey) = false := by
      rw [List.any_eq_false]
      intro y hy
      obtain ⟨z, t, hkey⟩ := hk y (Array.mem_toList_iff.mp hy)
      simp [DictEntry.refKey, hkey]
    have a' : ¬ es.toList.any (·.refKey) = true := by rw [a]; exact Bool.false_ne_true
    rw [if_neg a']
    exact congrArg some e

theorem ObjM.look {h : Heap} {x dx C : Addr} {mA : Str → Option Value} (I : ObjM h x dx C mA) : ∃ od, PySem.W.InstAt h x (PySem.W.instObj C dx) C (some od) ∧ ∀ name, PySem.W.lookIn name od = some (mA name) :=
  let ⟨od, ho, hl⟩ := lookIn_ns I.ns
  ⟨od, ⟨I.obj, rfl, rfl, ho⟩, hl⟩

section
variable {prog : Program} {w : World} {A : Around} {E : Value → Shared → Prop} {s : Shared} {K : PySem.W.Frag} {x dx C f : Addr} {mA : Str → Option Value} {name : Str} {v : Value}

theorem get_map {expr : Bool} {Q : Value → Shared → Prop} (X : K.In s.heap) (I : ObjM s.heap x dx C mA) (hg : PySem.W.plainGet K C name = true) (hh : PySem.W.hasDictIn K C = true)
    (ha : PySem.W.findIn K (.ref C) name = some none) (hv : mA name = some v) (hv' : PySem.W.handedIn v = true) (h : Q v { s with toks := s.toks + 1 }) :
    wpAny (model prog w) A (getAttr (.ref x) name expr) Q E s := by
  obtain ⟨od, J, hl⟩ := I.look
  exact PySem.W.get_value X J (PySem.W.plainGet_of hg).1 (PySem.W.findObj_own hh ha rfl (by rw [hl, hv])) hv' h

theorem get_meth {pl : Sem Bool} {Q : Value × List Value → Shared → Prop} (X : K.In s.heap) (I : ObjM s.heap x dx C mA) (hg : PySem.W.plainGet K C name = true)
    (hf : PySem.W.findIn K (.ref C) name = some (some (.ref f))) (ht : PySem.W.isFn K (.ref f) = true) (hv : mA name = none) (h : Q (.ref f, [.ref x]) s) :
    wpAny (model prog w) A (getMethod (.ref x) name pl) Q E s := by
  obtain ⟨od, J, hl⟩ := I.look
  exact PySem.W.method_fn X J (PySem.W.plainGet_of hg).1 (PySem.W.plainGet_of hg).2 hf (beq_iff_eq.mp ht) (by show (PySem.W.lookIn name od).map (·.isSome) = some false; rw [hl, hv]; rfl) h

theorem set_map {ns : List Str} {Q : Unit → Shared → Prop} (X : K.In s.heap) (I : ObjM s.heap x dx C mA)
    (hs : PySem.W.findIn K (.ref C) "__setattr__" = some (some (.builtin "object.__setattr__"))) (hp : PySem.W.plainOver K C = true) (ht : PySem.W.takerIn K C name = some none) (hh : PySem.W.hasDictIn K C = true)
    (hw : PySem.Within mA ns) (hsz : ns.length ≤ sizeLine)
    (h : ∀ h', ObjM h' x dx C (fun y => if y = name then some v else mA y) → Heap.SameBut dx s.heap h' → Q () { s with heap := h', toks := s.toks + 2 }) :
    wpAny (model prog w) A (setAttr (.ref x) name v) Q E s := by
  obtain ⟨od, J, hl⟩ := I.look
  refine PySem.W.set_plain X J hs (PySem.W.osa_open (s := { s with toks := s.toks + 1 }) (r := none) X J hp ht fun b => ?_)
  obtain ⟨cd, hc, hd'⟩ := PySem.W.any_some hh
  have hx : s.heap.get? x = some ⟨.ref C, some dx, .plain, #[]⟩ := I.obj
  refine wpAny_bind (wpAny_pure (wpAny_bind (wpAny_bind (wpAny_loadPart hx (wpAny_bind (PySem.W.Looks.here (s := { s with toks := s.toks + 1 }) (PySem.W.looks_clsIn X hc) ?_))))))
  rw [hd']
  refine wpAny_pure (a := some dx) (wpAny_bind (wpAny_pure (wpAny_bind ?_)))
  refine wpAny_nsSet1 (s := { s with toks := s.toks + 1 }) I.ns fun h' hn2 hs2 => ?_
  obtain ⟨oD, esD, epD, hoD, hdD, hcD⟩ := hn2.count (PySem.Within.cons name v hw)
  refine wpAny_bind (wpAny_lookBehind hoD (by rw [hdD]; exact pastItsLine_dict (Nat.le_trans hcD (by rw [List.length_cons]; omega))) ?_)
  exact wpAny_pure (h _ ⟨(hs2.2 _ (Ne.symm I.ne)).trans I.obj, hn2, I.ne⟩ hs2)

/-- C(..): the dict at the heap's end, the instance behind it; then its __init__ -/
theorem make_map {R : Result → Shared → Prop} {vs : List Value} {kw : List (Str × Value)} (X : K.In s.heap) (hm : PySem.W.makesIn K C = true)
    (hi : PySem.W.findIn K (.ref C) "__init__" = some (some (.ref f))) (hf : PySem.W.typeIn K (.ref f) = some (.type "function"))
    (h : codeAny (model prog w) (A.under (.builtin "type.__call__" ⟨.ref C :: vs, kw⟩)) (.call (.ref f) ⟨.ref (s.heap.objs.size + 1) :: vs, kw⟩) (PySem.W.InitBack (s.heap.objs.size + 1) R)
      { s with heap := (s.heap.push PySem.W.emptyDict).push (PySem.W.instObj C s.heap.objs.size) }) :
    codeAny (model prog w) A (.call (.ref C) ⟨vs, kw⟩) R s := by
  obtain ⟨hh, g, d, t, os⟩ := s
  exact PySem.W.make_core (PySem.W.makes_of X hm) (PySem.W.looks_findIn X hi) (fun self => PySem.W.bind_fn X self hf) (.inl rfl) h
end

/-! ### the attributes as a list of pairs -/
def putF (f : Str) (v : V) : List (Str × V) → List (Str × V)
  | [] => [(f, v)]
  | (g, x) :: r => if g = f then (g, v) :: r else (g, x) :: putF f v r
theorem lookup_putF (f g : Str) (v : V) : ∀ fs : List (Str × V), (putF f v fs).lookup g = if g = f then some v else fs.lookup g
  | [] => by
    show List.lookup g [(f, v)] = _
    by_cases h : g = f
    · have hb : (g == f) = true := beq_iff_eq.mpr h
      simp only [List.lookup, hb, if_pos h]
    · have hb : (g == f) = false := beq_eq_false_iff_ne.mpr h
      simp only [List.lookup, hb, if_neg h]
  | (k, x) :: r => by
    have ih := lookup_putF f g v r
    rw [show putF f v ((k, x) :: r) = (if k = f then (k, v) :: r else (k, x) :: putF f v r) from rfl]
    by_cases hk : k = f
    · rw [if_pos hk]
      by_cases h : g = k
      · have hb : (g == k) = true := beq_iff_eq.mpr h
        simp only [List.lookup, hb, if_pos (h.trans hk)]
      · have hb : (g == k) = false := beq_eq_false_iff_ne.mpr h
        simp only [List.lookup, hb, if_neg (fun e : g = f => h (e.trans hk.symm))]
    · rw [if_neg hk]
      by_cases h : g = k
      · have hb : (g == k) = true := beq_iff_eq.mpr h
        simp only [List.lookup, hb, if_neg (fun e : g = f => hk (h.symm.trans e))]
      · have hb : (g == k) = false := beq_eq_false_iff_ne.mpr h
        simp only [List.lookup, hb]
        exact ih
theorem keys_putF (f : Str) (v : V) : ∀ fs : List (Str × V), f ∈ (putF f v fs).map (·.1) ∧ ∀ g, g ∈ fs.map (·.1) → g ∈ (putF f v fs).map (·.1)
  | [] => ⟨by simp [putF], fun g h => by simp at h⟩
  | (k, x) :: r => by
    obtain ⟨i1, i2⟩ := keys_putF f v r
    rw [show putF f v ((k, x) :: r) = (if k = f then (k, v) :: r else (k, x) :: putF f v r) from rfl]
    by_cases hk : k = f
    · rw [if_pos hk]
      subst hk
      exact ⟨by simp, fun g h => by simpa using h⟩
    · rw [if_neg hk]
      refine ⟨?_, fun g h => ?_⟩
      · rw [List.map_cons]
        exact List.mem_cons_of_mem _ i1
      · rw [List.map_cons] at h ⊢
        rcases List.mem_cons.mp h with e | e
        · exact List.mem_cons.mpr (.inl e)
        · exact List.mem_cons_of_mem _ (i2 g e)
theorem length_putF (f : Str) (v : V) : ∀ fs : List (Str × V), (putF f v fs).length ≤ fs.length + 1
  | [] => by simp [putF]
  | (k, x) :: r => by
    have ih := length_putF f v r
    rw [show putF f v ((k, x) :: r) = (if k = f then (k, v) :: r else (k, x) :: putF f v r) from rfl]
    by_cases hk : k = f
    · rw [if_pos hk, List.length_cons, List.length_cons]; omega
    · rw [if_neg hk, List.length_cons, List.length_cons]; omega

theorem RelO.some_of {v : V} {o : Option Value} (r : RelO (some v) o) : ∃ u, o = some u ∧ RelV v u := by
  cases o with
  | none => exact (show False from r).elim
  | some u => exact ⟨u, rfl, r⟩
theorem RelO.none_of {o : Option Value} (r : RelO none o) : o = none := by
  cases o with
  | none => rfl
  | some u => exact (show False from r).elim
theorem handed_of {v : V} {u : Value} (r : RelV v u) : PySem.W.handedIn u = true := by
  cases v with
  | non => cases (show u = Value.none from r); rfl
  | bl b => cases (show u = Value.bool b from r); rfl
  | int i => obtain ⟨t, e⟩ := (show ∃ t, u = Value.int i t from r); cases e; rfl
  | str x => obtain ⟨t, e⟩ := (show ∃ t, u = Value.str x t from r); cases e; rfl
  | byt b => obtain ⟨t, e⟩ := (show ∃ t, u = Value.bytes b t from r); cases e; rfl
  | flt b => obtain ⟨t, e⟩ := (show ∃ t, u = Value.float b t from r); cases e; rfl
  | ref a => cases (show u = Value.ref a from r); rfl
  | ty n => cases (show u = Value.type n from r); rfl

section
variable {P : Program} {w : World} {H H' : Hp} {h h' : Heap} {a C dx : Addr} {fs fs' : List (Str × V)}
theorem ins_get (hok : HOk P w H h) (e : H a = some (.ins C dx fs)) : ∃ mA, ObjM h a dx C mA ∧ (∀ f, RelO (fs.lookup f) (mA f)) ∧ PySem.Within mA (fs.map (·.1)) ∧ fs.length ≤ 1000 ∧ H dx = some (.own a) := by
  obtain ⟨d, z, ne, ob, mA, n, r, q⟩ := (show ObjOk P w H h a (.ins C dx fs) from hok a _ e)
  exact ⟨mA, ⟨ob, n, ne⟩, r, q, z, d⟩
end

/-! ### what of the text a class must have -/
structure Cls (K : PySem.W.Frag) (C : Addr) : Prop where
  pg : PySem.W.plainGet K C Str.empty = true
  hd : PySem.W.hasDictIn K C = true
  po : PySem.W.plainOver K C = true
  sa : PySem.W.findIn K (.ref C) "__setattr__" = some (some (.builtin "object.__setattr__"))
theorem Cls.get {K : PySem.W.Frag} {C : Addr} (c : Cls K C) (f : Str) : PySem.W.plainGet K C f = true := c.pg
/-- no class of it has the name -/
def NoAttr (K : PySem.W.Frag) (C : Addr) (f : Str) : Prop := PySem.W.findIn K (.ref C) f = some none
theorem NoAttr.taker {K : PySem.W.Frag} {C : Addr} {f : Str} (n : NoAttr K C f) : PySem.W.takerIn K C f = some none := by
  unfold PySem.W.takerIn
  rw [show PySem.W.findIn K (.ref C) f = some none from n]
  rfl
/-- a constant of the class -/
structure Con (K : PySem.W.Frag) (C : Addr) (f : Str) (v : V) (u : Value) : Prop where
  at_ : PySem.W.findIn K (.ref C) f = some (some u)
  rel : RelV v u
  get : PySem.W.specialIn K u "__get__" = some none
  cp : PySem.W.copiedNames.contains f = false
/-- a method: a plain def of the class or of one above it -/
structure Meth (K : PySem.W.Frag) (C : Addr) (m : Str) (f : Addr) : Prop where
  at_ : PySem.W.findIn K (.ref C) m = some (some (.ref f))
  fn : PySem.W.isFn K (.ref f) = true
  kp : PySem.W.keepIn K (.ref f) = true

section
variable {X : Cx} {pins : List (Addr × Obj)} {σ : St} {H : Hp} {s : Shared} {a C dx : Addr} {fs : List (Str × V)} {f : Str} {v : V} {A : Around} {E : Value → Shared → Prop}

theorem getattr_ok {b : Bool} {Q : Value → Shared → Prop} (I : Inv X pins σ H s) (e : H a = some (.ins C dx fs)) (c : Cls X.K C) (n : NoAttr X.K C f) (l : fs.lookup f = some v)
    (h : ∀ u s', Inv X pins σ H s' → RelV v u → Q u s') : wpAny (model X.prog X.w) A (getAttr (.ref a) f b) Q E s := by
  obtain ⟨mA, O, r, _, _, _⟩ := ins_get I.hok e
  obtain ⟨u, hu, ru⟩ := RelO.some_of (v := v) (o := mA f) (by rw [← l]; exact r f)
  exact get_map I.kIn O (c.get f) c.hd n hu (handed_of ru) (h u _ (I.tok _) ru)

theorem getmeth_ok {m : Str} {g : Addr} {pl : Sem Bool} {Q : Value × List Value → Shared → Prop} (I : Inv X pins σ H s) (e : H a = some (.ins C dx fs)) (c : Cls X.K C) (k : Meth X.K C m g) (l : fs.lookup m = none)
    (h : Q (.ref g, [.ref a]) s) : wpAny (model X.prog X.w) A (getMethod (.ref a) m pl) Q E s := by
  obtain ⟨mA, O, r, _, _, _⟩ := ins_get I.hok e
  have hn : mA m = none := RelO.none_of (by rw [← l]; exact r m)
  exact get_meth I.kIn O (c.get m) k.at_ k.fn hn h

theorem setattr_ok {y : V} {u : Value} {Q : Unit → Shared → Prop} (I : Inv X pins σ H s) (e : H a = some (.ins C dx fs)) (c : Cls X.K C) (n : NoAttr X.K C f) (hl : fs.length < 1000) (ry : RelV y u)
    (h : ∀ s', Inv X pins σ (upd H a (.ins C dx (putF f y fs))) s' → Q () s') : wpAny (model X.prog X.w) A (setAttr (.ref a) f u) Q E s := by
  obtain ⟨mA, O, r, wi, _, ho⟩ := ins_get I.hok e
  have hz : (fs.map (·.1)).length ≤ sizeLine := by rw [List.length_map, sizeLine_eq]; omega
  refine set_map I.kIn O c.sa c.po n.taker c.hd wi hz fun h' O' sb => h _ ?_
  have hd : ∃ o, h'.get? dx = some o := let ⟨o, _, _, e', _⟩ := O'.ns; ⟨o, e'⟩
  refine I.write (x := a) (e := dx) (by rw [e]; exact True.intro) (.inr ho) (fun b q hb z => (sb.2 b hb).trans z) hd ?_
  refine ⟨by rw [upd_ne O.ne]; exact ho, ?_, O.ne, O'.obj, _, O'.ns, fun g => ?_, fun g hg => ?_⟩
  · have := length_putF f y fs; omega
  · show RelO ((putF f y fs).lookup g) (if g = f then some u else mA g)
    rw [lookup_putF]
    by_cases q : g = f
    · rw [if_pos q, if_pos q]; exact ry
    · rw [if_neg q, if_neg q]; exact r g
  · by_cases q : g = f
    · rw [q]; exact (keys_putF f y fs).1
    · refine (keys_putF f y fs).2 g (wi g fun z => hg ?_)
      show (if g = f then some u else mA g) = none
      rw [if_neg q]; exact z

/-- a new instance, tracked, without attributes -/
theorem Inv.made (I : Inv X pins σ H s) : Inv X pins σ (upd (upd H s.heap.objs.size (.own (s.heap.objs.size + 1))) (s.heap.objs.size + 1) (.ins C s.heap.objs.size []))
    { s with heap := (s.heap.push PySem.W.emptyDict).push (PySem.W.instObj C s.heap.objs.size) } := by
  have e1 : (s.heap.push PySem.W.emptyDict).get? s.heap.objs.size = some PySem.W.emptyDict := Heap.get?_push_size s.heap rfl
  have e2 : ((s.heap.push PySem.W.emptyDict).push (PySem.W.instObj C s.heap.objs.size)).get? (s.heap.objs.size + 1) = some (PySem.W.instObj C s.heap.objs.size) := by
    have := Heap.get?_push_size (s.heap.push PySem.W.emptyDict) (o := PySem.W.instObj C s.heap.objs.size) rfl
    rwa [Heap.size_push] at this
  have e3 : (s.heap.push PySem.W.emptyDict).Ns s.heap.objs.size (fun _ => none) := ⟨PySem.W.emptyDict, #[], _, e1, rfl, (fun e he => absurd he (by simp)), fun _ => rfl⟩
  have I1 := I.laid (a := s.heap.objs.size) (o := .own (s.heap.objs.size + 1)) (h' := s.heap.push PySem.W.emptyDict) (t' := s.toks) (fun b u q => Heap.get?_push_of_some _ q) (Nat.le_refl _) ⟨_, e1⟩
  refine I1.laid (a := s.heap.objs.size + 1) (o := .ins C s.heap.objs.size []) (t' := s.toks) (fun b u q => Heap.get?_push_of_some _ q) (Nat.le_of_eq (Heap.size_push _ _)) ?_
  have ne : s.heap.objs.size ≠ s.heap.objs.size + 1 := Nat.ne_of_lt (Nat.lt_succ_self _)
  refine ⟨by rw [upd_ne ne, upd_same], Nat.zero_le _, ne, e2, fun _ => none, (Heap.Ns1.of_empty e3).at fun o q => Heap.get?_push_of_some _ q, fun _ => True.intro, fun y hy => absurd rfl hy⟩

/-- e.f where nothing but the object is asked: through attributeBase (super) and the last hold -/
theorem attr_of {prog : Program} {w : World} {env : Env} {e : Expr} {f : Str} {pos : Pos} {s : Shared} {Q : Value → Shared → Prop} (hb : attributeBase e f env (eval e env) = eval e env)
    (h : wpAny (model prog w) A (eval e env) (fun o s₁ => wpAny (model prog w) A (getAttr o f true) Q E s₁) E s) : wpAny (model prog w) A (eval (.Attribute e f pos) env) Q E s :=
  Attribute_any_ h (by rw [arm_eval_Attribute, hb])
end

/-! ### readings and rules -/
/-- e.f, an attribute of the instance -/
def tFld (K : PySem.W.Frag) (ta : TE) (f : Str) : TE := fun σ H Q => ta σ H fun x H1 => ∃ a C dx fs v, x = .ref a ∧ H1 a = some (.ins C dx fs) ∧ Cls K C ∧ NoAttr K C f ∧ fs.lookup f = some v ∧ Q v H1
/-- e.f, a constant of the class -/
def tCon (K : PySem.W.Frag) (ta : TE) (f : Str) : TE := fun σ H Q => ta σ H fun x H1 => ∃ a C dx fs v u, x = .ref a ∧ H1 a = some (.ins C dx fs) ∧ Cls K C ∧ Con K C f v u ∧ fs.lookup f = none ∧ Q v H1
/-- e.f = value -/
def sFld (K : PySem.W.Frag) (ta tv : TE) (f : Str) : TS := fun D σ H => tv σ H fun y H1 => ta σ H1 fun x H2 => ∃ a C dx fs, x = .ref a ∧ H2 a = some (.ins C dx fs) ∧ Cls K C ∧ NoAttr K C f ∧ fs.length < 1000 ∧
  D.nx σ (upd H2 a (.ins C dx (putF f y fs)))
/-- an augmented operator on two values -/
def InOp (X : Cx) (op : Operator) (rd : V → V → Hp → VK → Prop) : Prop :=
  ∀ (pins : List (Addr × Obj)) (s : Shared) (σ : St) (H : Hp) (x y : V) (u v : Value) (Q : VK), Inv X pins σ H s → RelV x u → RelV y v → rd x y H Q → wpAny (model X.prog X.w) X.A (inplaceOp op u v) (EP X pins σ Q) X.xe s
/-- e.f op= value -/
def sFldAug (K : PySem.W.Frag) (ta tv : TE) (rd : V → V → Hp → VK → Prop) (f : Str) : TS := fun D σ H => ta σ H fun x H1 => ∃ a C dx fs v, x = .ref a ∧ H1 a = some (.ins C dx fs) ∧ Cls K C ∧ NoAttr K C f ∧ fs.lookup f = some v ∧
  tv σ H1 fun y H2 => rd v y H2 fun z H3 => ∃ dx' fs', H3 a = some (.ins C dx' fs') ∧ fs'.length < 1000 ∧ D.nx σ (upd H3 a (.ins C dx' (putF f z fs')))

section
variable {X : Cx} {o e value : Expr} {f : Str} {pos pos' tpos : Pos} {ta tv : TE}
theorem pe_fld (he : PE X e ta) (hb : attributeBase e f X.env (eval e X.env) = eval e X.env) : PE X (.Attribute e f pos) (tFld X.K ta f) := by
  intro pins s σ H Q I h
  refine attr_of hb (thn (he pins s σ H _ I h) fun u s1 ⟨x, H1, I1, rx, a, C, dx, fs, v, ex, ea, c, n, l, q⟩ => ?_)
  subst ex
  obtain rfl : u = Value.ref a := rx
  exact getattr_ok I1 ea c n l fun u' s2 I2 ru => ⟨v, H1, I2, ru, q⟩
theorem ps_fld (ha : PE X o ta) (hv : PE X value tv) (hs : swapsWith value (some (.Attribute o f pos')) pos.line X.env = pure false) : PS X (.Assign [.Attribute o f pos'] value pos) (sFld X.K ta tv f) := by
  intro pins s σ H D I h
  refine plainObj_wpAny_Assign_Attribute (thn (hv pins s σ H _ I h) fun u s1 ⟨y, H1, I1, ry, q⟩ => thn (ha pins s1 σ H1 _ I1 q) fun ov s2 ⟨x, H2, I2, rx, a, C, dx, fs, ex, ea, c, n, l, q2⟩ => ?_) hs
  subst ex
  obtain rfl : ov = Value.ref a := rx
  exact setattr_ok I2 ea c n l ry fun s3 I3 => ⟨σ, _, I3, q2⟩
def rAdd : V → V → Hp → VK → Prop := fun x y H Q => ∃ i j, x = .int i ∧ y = .int j ∧ Q (.int (i + j)) H
def rSub : V → V → Hp → VK → Prop := fun x y H Q => ∃ i j, x = .int i ∧ y = .int j ∧ Q (.int (i - j)) H
/-- what is between an instance and its method: the tree of a method call -/
theorem methcall_of {pl : Sem Bool} {m : Str} {apos : Pos} {args : List Expr} {pins : List (Addr × Obj)} {s : Shared} {σ : St} {H : Hp} {Q : Value → Shared → Prop} {te : TE} (he : PE X e te) (I : Inv X pins σ H s)
    (h : te σ H fun x H1 => ∃ a C dx fs g, x = .ref a ∧ H1 a = some (.ins C dx fs) ∧ Cls X.K C ∧ Meth X.K C m g ∧ fs.lookup m = none ∧
      ∀ s1, Inv X pins σ H1 s1 → wpAny (model X.prog X.w) X.A (callWith pos (.ref g) [.ref a] (backTo pos (starEach args X.env)) (backToKw pos (keywordEach [] X.env))) Q X.xe s1)
    (ht : eval (.Call (.Attribute e m apos) args [] pos) X.env = (do
      let ov ← eval e X.env
      standAt apos.atName
      let (f, first) ← holding [ov] (getMethod ov m pl)
      callWith pos f first (backTo pos (starEach args X.env)) (backToKw pos (keywordEach [] X.env)))) :
    wpAny (model X.prog X.w) X.A (eval (.Call (.Attribute e m apos) args [] pos) X.env) Q X.xe s := by
  refine PySem.W.methodCall_KW (pl := pl) (thn (he pins s σ H _ I h) fun u s1 ⟨x, H1, I1, rx, a, C, dx, fs, g, ex, ea, c, k, l, q⟩ => ?_) ht
  subst ex
  obtain rfl : u = Value.ref a := rx
  exact getmeth_ok I1 ea c k l (q s1 I1)
end

/-! ### isinstance -/
section
variable {X : Cx} {pins : List (Addr × Obj)} {σ : St} {H : Hp} {s : Shared} {A : Around} {E : Value → Shared → Prop} {Q : Value → Shared → Prop} {c : Value} {b : Bool}
/-- the type of a value, as the fragment's deciders take it; for an instance its class -/
inductive TyOf (K : PySem.W.Frag) (H : Hp) : V → Value → Prop where
  | non : TyOf K H .non (.type "NoneType")
  | bl (x : Bool) : TyOf K H (.bl x) (.type "bool")
  | int (i : Int) : TyOf K H (.int i) (.type "int")
  | str (x : Str) : TyOf K H (.str x) (.type "str")
  | flt (x : UInt64) : TyOf K H (.flt x) (.type "float")
  | lst {a : Addr} {xs : List V} (e : H a = some (.lst xs)) : TyOf K H (.ref a) (.type "list")
  | frz {a : Addr} {o : Obj} {xs : List V} (e : H a = some (.frz o (.lst xs))) : TyOf K H (.ref a) (.type "list")
  | tup {a : Addr} {xs : List V} (e : H a = some (.tup xs)) : TyOf K H (.ref a) (.type "tuple")
  | dK {a : Addr} {kvs : List (Key × V)} (e : H a = some (.dK kvs)) : TyOf K H (.ref a) (.type "dict")
  | dT {a : Addr} {kvs : List (List Key × V)} (e : H a = some (.dT kvs)) : TyOf K H (.ref a) (.type "dict")
  | ins {a C dx : Addr} {fs : List (Str × V)} (e : H a = some (.ins C dx fs)) (cl : Cls K C) (ha : PySem.W.findIn K (.ref C) "__class__" = some (some (.builtin "object.__class__")))
      (hn : PySem.W.specialIn K (.builtin "object.__class__") "__get__" = some (some (.builtin "getset_descriptor.__get__"))) (htk : PySem.W.takesIn K (.builtin "object.__class__") = some true)
      (hm : PySem.W.mroIn K C (.type "object") = some true) : TyOf K H (.ref a) (.ref C)
/-- isinstance(x, c) for one class c, a built-in or an own one: kitOne's answer -/
theorem isinst_ok {x : V} {u t : Value} (I : Inv X pins σ H s) (rx : RelV x u) (ty : TyOf X.K H x t) (e : PySem.W.kitOne X.K t c = some b) (h : ∀ tk, Q (.bool b) { s with toks := tk }) :
    wpAny (model X.prog X.w) A (call (.builtin "isinstance") [u, c]) Q E s := by
  cases ty with
  | non => cases (show u = Value.none from rx); exact PySem.W.kia_one PySem.W.kitx_none I.kIn True.intro e (fun z => nomatch z) h
  | bl y => cases (show u = Value.bool y from rx); exact PySem.W.kia_one PySem.W.kitx_bool I.kIn True.intro e (fun z => nomatch z) h
  | int i => obtain ⟨t, q⟩ := (show ∃ t, u = Value.int i t from rx); cases q; exact PySem.W.kia_one PySem.W.kitx_int I.kIn True.intro e (fun z => nomatch z) h
  | str y => obtain ⟨t, q⟩ := (show ∃ t, u = Value.str y t from rx); cases q; exact PySem.W.kia_one PySem.W.kitx_str I.kIn True.intro e (fun z => nomatch z) h
  | flt y => obtain ⟨t, q⟩ := (show ∃ t, u = Value.float y t from rx); cases q; exact PySem.W.kia_one PySem.W.kitx_float I.kIn True.intro e (fun z => nomatch z) h
  | @lst a xs ea =>
    cases (show u = Value.ref a from rx)
    obtain ⟨_, _, n, _, h1⟩ := (show ObjOk X.prog X.w H s.heap a (.lst xs) from I.hok a _ ea)
    exact PySem.W.kia_one PySem.W.kitx_list I.kIn ⟨_, h1, rfl⟩ e (fun z => nomatch z) h
  | @frz a ob xs ea =>
    cases (show u = Value.ref a from rx)
    obtain ⟨_, _, _, n, _, h1⟩ := (show ObjOk X.prog X.w H s.heap a (.frz ob (.lst xs)) from I.hok a _ ea)
    exact PySem.W.kia_one PySem.W.kitx_list I.kIn ⟨_, h1, rfl⟩ e (fun z => nomatch z) h
  | @tup a xs ea =>
    cases (show u = Value.ref a from rx)
    obtain ⟨_, _, _, p⟩ := (show ObjOk X.prog X.w H s.heap a (.tup xs) from I.hok a _ ea)
    obtain ⟨o, h1, h2, _⟩ := p
    exact PySem.W.kia_one PySem.W.kitx_tuple I.kIn ⟨o, h1, h2⟩ e (fun z => nomatch z) h
  | @dK a kvs ea =>
    cases (show u = Value.ref a from rx)
    obtain ⟨_, _, vs, _, p⟩ := (show ObjOk X.prog X.w H s.heap a (.dK kvs) from I.hok a _ ea)
    obtain ⟨o, es, ep, h1, h2, _⟩ := p
    exact PySem.W.kia_one PySem.W.kitx_dict I.kIn ⟨o, h1, h2.1⟩ e (fun z => nomatch z) h
  | @dT a kvs ea =>
    cases (show u = Value.ref a from rx)
    obtain ⟨_, _, xs, _, o, es, ep, h1, h2, _⟩ := (show ObjOk X.prog X.w H s.heap a (.dT kvs) from I.hok a _ ea)
    exact PySem.W.kia_one PySem.W.kitx_dict I.kIn ⟨o, h1, h2.1⟩ e (fun z => nomatch z) h
  | @ins a C dx fs ea cl ha hn htk hm =>
    cases (show u = Value.ref a from rx)
    obtain ⟨mA, O, _⟩ := ins_get I.hok ea
    obtain ⟨od, J, _⟩ := O.look
    exact PySem.W.kia_one (PySem.W.kitx_own (cl.get _) cl.hd ha hn htk hm) I.kIn J e (fun z => nomatch z) h
end
end L2

namespace L2
open PySem PySem.Spec PyProof.Rows

/-! ### room -/
structure Room (k : Nat) (A : Around) : Prop where
  hd : A.handled = none
  dp : A.depth + 3 * k + 5 < recursionLimit
  un : A.units + 16 * k + 200 < cLine
theorem Room.mono {j k : Nat} {A : Around} (r : Room k A) (h : j ≤ k) : Room j A := ⟨r.hd, by have := r.dp; omega, by have := r.un; omega⟩
theorem Room.deeper {k : Nat} {A : Around} (r : Room (k + 1) A) (env : Env) : Room k (A.deeper env) :=
  ⟨r.hd, by have := r.dp; show A.depth + 1 + 3 * k + 5 < _; omega, by have := r.un; show A.units + 3 + 16 * k + 200 < _; omega⟩
theorem make_depth {A : Around} {C : Addr} {us : List Value} {kw : List (Str × Value)} : (A.under (.builtin "type.__call__" ⟨.ref C :: us, kw⟩)).depth = A.depth + 1 := by
  first | rfl | simp [Around.under, Code.weight, Code.isCreation, Code.isGuard, Code.isCaller, Code.frames, Code.isFrame, guardIds]
theorem make_units {A : Around} {C : Addr} {us : List Value} {kw : List (Str × Value)} : (A.under (.builtin "type.__call__" ⟨.ref C :: us, kw⟩)).units = A.units + 1 := by
  first | rfl | simp [Around.under, Code.cUnits, Code.frames, Code.isFrame]
theorem Room.make {k : Nat} {A : Around} (r : Room (k + 1) A) (C : Addr) (us : List Value) (kw : List (Str × Value)) : Room k (A.under (.builtin "type.__call__" ⟨.ref C :: us, kw⟩)) :=
  ⟨r.hd, by have := r.dp; rw [make_depth]; omega, by have := r.un; rw [make_units]; omega⟩
theorem Room.depth {k : Nat} {A : Around} (r : Room k A) : A.depth < recursionLimit := by have := r.dp; omega
theorem Room.units {k : Nat} {A : Around} (r : Room k A) : A.units + 64 < cLine := by have := r.un; omega
/-! ### argument lists and displays -/
def tNil : TA := fun _ H Q => Q [] H
def tCons (ta : TE) (tr : TA) : TA := fun σ H Q => ta σ H fun x H1 => tr σ H1 fun xs H2 => Q (x :: xs) H2
section
variable {X : Cx} {e : Expr} {es : List Expr} {te : TE} {t : TA} {pos : Pos}
theorem pa_nil : PA X [] tNil := fun _ _ _ _ H Q I h => Calls.spliced_nil ⟨[], H, I, .nil, h⟩
theorem pa_cons (ha : PE X e te) (hr : PA X es t) (hs : starEach (e :: es) X.env = (false, eval e X.env) :: starEach es X.env := by rfl) : PA X (e :: es) (tCons te t) := by
  intro pos pins s σ H Q I h
  rw [hs]
  show wpAny _ _ (spliced ((false, eval e X.env) :: backTo pos (starEach es X.env))) _ _ s
  refine Calls.spliced_cons (thn (ha pins s σ H _ I h) fun u s1 ⟨x, H1, I1, r1, q1⟩ => ?_)
  exact thn (hr pos pins s1 σ H1 _ I1 q1) fun us s2 ⟨xs, H2, I2, r2, q2⟩ => ⟨x :: xs, H2, I2, .cons r1 r2, q2⟩

/-- a tuple, a list of written items -/
def tTup (t : TA) : TE := fun σ H Q => t σ H fun xs H1 => xs.length ≤ sizeLine ∧ ∀ p, H1 p = none → Q (.ref p) (upd H1 p (.tup xs))
def tLst (t : TA) : TE := fun σ H Q => t σ H fun xs H1 => xs.length ≤ sizeLine ∧ ∀ p, H1 p = none → Q (.ref p) (upd H1 p (.lst xs))
theorem pe_tup {x1} (h : PA X es t) : PE X (.Tuple es x1 pos) (tTup t) := by
  intro pins s σ H Q I hq
  refine wpAny_Tuple_spliced (thn (h pos pins s σ H _ I hq) fun us s1 ⟨xs, H1, I1, r, z, q⟩ => ⟨by rw [← r.length]; exact z, ?_⟩)
  have hf : H1 s1.heap.objs.size = none := I1.hok.fresh (Nat.le_refl _)
  refine ⟨.ref s1.heap.objs.size, upd H1 s1.heap.objs.size (.tup xs), I1.laid (t' := s1.toks) (fun b u e => Heap.get?_push_of_some _ e) (Nat.le_refl _) ?_, rfl, q _ hf⟩
  exact ⟨z, us, r, ⟨_, Heap.get?_push_size _ rfl, rfl, _, rfl⟩⟩
theorem pe_lst (h : PA X es t) : PE X (.List es pos) (tLst t) := by
  intro pins s σ H Q I hq
  refine wpAny_List_spliced (thn (h pos pins s σ H _ I hq) fun us s1 ⟨xs, H1, I1, r, z, q⟩ => ⟨by rw [← r.length]; exact z, ?_⟩)
  have hf : H1 s1.heap.objs.size = none := I1.hok.fresh (Nat.le_refl _)
  refine ⟨.ref s1.heap.objs.size, upd H1 s1.heap.objs.size (.lst xs), I1.laid (t' := s1.toks) (fun b u e => Heap.get?_push_of_some _ e) (Nat.le_refl _) ?_, rfl, q _ hf⟩
  exact ⟨z, us, 0, r, Heap.get?_push_size _ rfl⟩
end

/-! ### what a def promises -/
/-- a def's promise: the bound arguments in the parameters' order, the heap, the wanted end, the wanted exception -/
abbrev Sp := List V → Hp → VK → XK → Prop
/-- how an exception lies behind a call (file 08 gives it): the callers' frames, abstract heap and state ahead of the call, the wish, the exception, the state -/
abbrev CXT := List Env → Hp → Shared → XK → Value → Shared → Prop

/-- the state at a call -/
structure Env0 (P : Program) (w : World) (K : PySem.W.Frag) (mg : Str → Option Value) (base : Heap) (A : Around) (outer : List Env) (s : Shared) (H : Hp) : Prop where
  frames : A.frames = some outer
  mod : Mod K mg base
  bs : ∀ b o, base.get? b = some o → s.heap.get? b = some o ∧ H b = none
  bsz : base.objs.size ≤ s.heap.objs.size
  funs : s.heap.FunFrames base outer
  frf : ∀ b ∈ frs outer, H b = none
  hok : HOk P w H s.heap
  bare : AllBare s.gens
/-- a call's end -/
def CE (outer : List Env) (P : Program) (w : World) (H : Hp) (s : Shared) (Q : VK) (u : Value) (s' : Shared) : Prop :=
  ∃ v H', s'.os = s.os ∧ AllBare s'.gens ∧ Un (frs outer) [] H H' s.heap s'.heap ∧ HOk P w H' s'.heap ∧ RelV v u ∧ Q v H'
def CR (CX : CXT) (outer : List Env) (P : Program) (w : World) (H : Hp) (s : Shared) (Q : VK) (E : XK) (r : Result) (s' : Shared) : Prop :=
  match r with
  | .ok (.ret u) => CE outer P w H s Q u s'
  | .ok _ => False
  | .error e => CX outer H s E e s'
structure FnOk (P : Program) (w : World) (K : PySem.W.Frag) (mg : Str → Option Value) (base : Heap) (CX : CXT) (k : Nat) (f : Addr) (fd : FuncData) (ps : List Str) (sp : Sp) : Prop where
  len : ∀ vs H Q E, sp vs H Q E → vs.length = ps.length
  run : ∀ (A : Around) (outer : List Env) (s : Shared) (H : Hp) (args : Args) (us : List Value) (vs : List V) (Q : VK) (E : XK), Room k A → Env0 P w K mg base A outer s H → BindsTo s fd args (ps.zip us) → Vals vs us → sp vs H Q E →
    codeAny (model P w) A (.call (.ref f) args) (CR CX outer P w H s Q E) s
theorem Env0.make {P : Program} {w : World} {K : PySem.W.Frag} {mg : Str → Option Value} {base : Heap} {A : Around} {outer : List Env} {s : Shared} {H : Hp} (e : Env0 P w K mg base A outer s H) (C : Addr) (us : List Value) (kw : List (Str × Value)) :
    Env0 P w K mg base (A.under (.builtin "type.__call__" ⟨.ref C :: us, kw⟩)) outer s H := ⟨by first | exact e.frames | (simpa [Around.under, Code.envs, Code.isFrame, pushEnvs] using e.frames), e.mod, e.bs, e.bsz, e.funs, e.frf, e.hok, e.bare⟩
section
variable {X : Cx} {pins : List (Addr × Obj)} {σ : St} {H : Hp} {s s' : Shared}
/-- from a body: what a callee wants -/
theorem Inv.env0 (I : Inv X pins σ H s) : Env0 X.prog X.w X.K X.mg X.base X.A X.stack s H :=
  ⟨I.ok.frames, I.ok.mod, I.bs, Nat.le_trans I.ok.bsz I.sz, I.stack, I.stkFree, I.hok, I.bare⟩
/-- behind a call -/
theorem Inv.after {Q : VK} {u : Value} (I : Inv X pins σ H s) (h : CE X.stack X.prog X.w H s Q u s') : EP X pins σ Q u s' := by
  obtain ⟨v, H', os, bare, un, hok, r, q⟩ := h
  obtain ⟨hh, g, d, t, os'⟩ := s'
  obtain rfl : os' = s.os := os
  exact ⟨v, H', I.call (h' := hh) (g' := g) (d' := d) (t' := t) (ch := []) un hok bare (fun b z => absurd z (by simp)), r, q⟩
end

/-! ### calls -/
/-- f(..): the written arguments, then the defaults dvs; E: what is wanted of an exception -/
def tCall (sp : Sp) (dvs : List V) (E : XK) (t : TA) : TE := fun σ H Q => t σ H fun vs H1 => sp (vs ++ dvs) H1 Q E
/-- o.m(..) of an instance of the class at C -/
def tMeth (C : Addr) (m : Str) (sp : Sp) (dvs : List V) (E : XK) (ta : TE) (t : TA) : TE := fun σ H Q => ta σ H fun x H1 => ∃ a dx fs, x = .ref a ∧ H1 a = some (.ins C dx fs) ∧ fs.lookup m = none ∧
  t σ H1 fun vs H2 => sp (x :: (vs ++ dvs)) H2 Q E
/-- C(..): a new instance and its dict, then __init__ -/
def tMake (C : Addr) (sp : Sp) (dvs : List V) (E : XK) (t : TA) : TE := fun σ H Q => t σ H fun vs H1 => ∀ x dx, H1 x = none → H1 dx = none → dx ≠ x →
  sp (.ref x :: (vs ++ dvs)) (upd (upd H1 dx (.own x)) x (.ins C dx [])) (fun v H2 => v = .non ∧ Q (.ref x) H2) E

/-- how the parameters are bound: us the positional arguments, kw the keywords' values by name, ds the defaults that fill up -/
def Binds (K : PySem.W.Frag) (fd : FuncData) (ps : List Str) (ds : List Value) : Prop :=
  ∀ (s : Shared) (us : List Value), K.In s.heap → (us ++ ds).length = ps.length → BindsTo s fd ⟨us, []⟩ (ps.zip (us ++ ds))
/-- every parameter is given -/
theorem Binds.all {K : PySem.W.Frag} {fd : FuncData} {ps : List Str} (h : ∀ us : List Value, us.length = ps.length → bindArgs fd ⟨us, []⟩ = pure (ps.zip us)) : Binds K fd ps [] := fun s us _ hl => by
  rw [List.append_nil] at hl ⊢
  exact .of_eq (h us hl)

/-- an exception of a callee reaches what this body wants of exceptions -/
def Passes (CX : CXT) (X : Cx) (E : XK) : Prop := ∀ (pins : List (Addr × Obj)) (σ : St) (H : Hp) (s : Shared) (e : Value) (s' : Shared), Inv X pins σ H s → CX X.stack H s E e s' → X.xe e s'

section
variable {X : Cx} {CX : CXT} {k : Nat} {f C : Addr} {fd : FuncData} {ps : List Str} {sp : Sp} {dvs : List V} {ds : List Value} {E : XK} {x m : Str} {p pos apos : Pos} {e o : Expr} {es : List Expr} {ta : TE} {t : TA}

/-- the callee runs -/
theorem run_fn {pins : List (Addr × Obj)} {σ : St} {H : Hp} {s : Shared} {Q : VK} {us : List Value} {vs : List V} (F : FnOk X.prog X.w X.K X.mg X.base CX k f fd ps sp) (hr : Room k X.A) (hb : Binds X.K fd ps ds) (hd : Vals dvs ds) (hx : Passes CX X E)
    (I : Inv X pins σ H s) (r : Vals vs us) (h : sp (vs ++ dvs) H Q E) : wpAny (model X.prog X.w) X.A (call (.ref f) us) (EP X pins σ Q) X.xe s := by
  have r2 : Vals (vs ++ dvs) (us ++ ds) := r.append hd
  have hl : (us ++ ds).length = ps.length := by rw [← r2.length]; exact F.len _ _ _ _ h
  refine wpAny_call (codeAny_mono (F.run X.A X.stack s H ⟨us, []⟩ (us ++ ds) (vs ++ dvs) Q E hr I.env0 (hb s us I.kIn hl) r2 h) fun r s' hq => ?_)
  cases r with
  | error e => exact hx pins σ H s e s' I hq
  | ok fl =>
    cases fl with
    | ret u => exact I.after hq
    | next => exact False.elim hq
    | brk => exact False.elim hq
    | cont => exact False.elim hq

theorem pe_call (F : FnOk X.prog X.w X.K X.mg X.base CX k f fd ps sp) (hr : Room k X.A) (hg : Gl X x) (hm : X.mg x = some (.ref f)) (hk : PySem.W.keepIn X.K (.ref f) = true) (hb : Binds X.K fd ps ds) (hd : Vals dvs ds) (hx : Passes CX X E)
    (ha : PA X (e :: es) t) (hdb : (x == ("__debug__" : Str)) = false := by decide) (he : starEach (e :: es) X.env = (false, eval e X.env) :: starEach es X.env := by rfl) (hpl : (backTo pos (starEach es X.env)).any (·.1) = false := by rfl) :
    PE X (.Call (.Name x p) (e :: es) [] pos) (tCall sp dvs E t) := by
  intro pins s σ H Q I h
  refine wpAny_Call_Name_kw (ld_glob I hg hm ?_ hdb)
  refine PySem.W.callWith_K (h₀ := X.base) I.ok.mod.kin hk (thn (ha pos pins s σ H _ I h) fun us s1 ⟨vs, H1, I1, r, q⟩ => ⟨I1.kIn, ?_⟩) he hpl
  exact run_fn F hr hb hd hx I1 r q
/-- o.m() -/
theorem pe_meth0 {pl : Sem Bool} (he : PE X o ta) (c : Cls X.K C) (hm : Meth X.K C m f) (F : FnOk X.prog X.w X.K X.mg X.base CX k f fd ps sp) (hr : Room k X.A) (hb : Binds X.K fd ps ds) (hd : Vals dvs ds) (hx : Passes CX X E)
    (ht : eval (.Call (.Attribute o m apos) [] [] pos) X.env = (do
      let ov ← eval o X.env
      standAt apos.atName
      let (f, first) ← holding [ov] (getMethod ov m pl)
      callWith pos f first (backTo pos (starEach [] X.env)) (backToKw pos (keywordEach [] X.env))) := by rfl) :
    PE X (.Call (.Attribute o m apos) [] [] pos) (tMeth C m sp dvs E ta tNil) := by
  intro pins s σ H Q I h
  refine PySem.W.methodCall_KW (pl := pl) (thn (he pins s σ H _ I h) fun u s1 ⟨x, H1, I1, rx, a, dx, fs, ex, ea, l, q⟩ => ?_) ht
  subst ex
  obtain rfl : u = Value.ref a := rx
  refine getmeth_ok I1 ea c hm l ?_
  exact PySem.W.callWith_K0 (first := [.ref a]) I1.kIn hm.kp (run_fn (us := [.ref a]) (vs := [.ref a]) F hr hb hd hx I1 (.cons rfl .nil) q)

/-- what a class must have to be made -/
structure Mk (K : PySem.W.Frag) (C f : Addr) : Prop where
  makes : PySem.W.makesIn K C = true
  init : PySem.W.findIn K (.ref C) "__init__" = some (some (.ref f))
  fn : PySem.W.isFn K (.ref f) = true
  kp : PySem.W.keepIn K (.ref C) = true

end

/-! ### keywords -/
/-- the values of the keywords, from the left -/
def PK (X : Cx) (kws : List Keyword) (t : TA) : Prop :=
  ∀ (pos : Pos) (pins : List (Addr × Obj)) (s : Shared) (σ : St) (H : Hp) (Q : List V → Hp → Prop), Inv X pins σ H s → t σ H Q → wpAny (model X.prog X.w) X.A (evalAll ((backToKw pos (keywordEach kws X.env)).map (·.2))) (AP X pins σ Q) X.xe s
section
variable {X : Cx} {CX : CXT} {k : Nat} {f C : Addr} {fd : FuncData} {ps ks : List Str} {sp : Sp} {E : XK} {x m : Str} {p pos apos kpos : Pos} {e o : Expr} {es : List Expr} {kws : List Keyword} {te ta : TE} {t tk : TA} {nm : Option Str}
/-- how a call with keywords binds: g puts the positional values us and the keywords' values ws (names ks) in the parameters' order, defaults among them -/
structure KBinds (K : PySem.W.Frag) (fd : FuncData) (ps ks : List Str) (g : List Value → List Value → List Value) (gV : List V → List V → List V) : Prop where
  to : ∀ (s : Shared) (us ws : List Value), K.In s.heap → (g us ws).length = ps.length → BindsTo s fd ⟨us, ks.zip ws⟩ (ps.zip (g us ws))
  rel : ∀ {vs : List V} {us : List Value} {zs : List V} {ws : List Value}, Vals vs us → Vals zs ws → Vals (gV vs zs) (g us ws)
def tCallK (sp : Sp) (gV : List V → List V → List V) (E : XK) (t tk : TA) : TE := fun σ H Q => t σ H fun vs H1 => tk σ H1 fun zs H2 => sp (gV vs zs) H2 Q E
variable {g : List Value → List Value → List Value} {gV : List V → List V → List V}
end

/-! ### a def's body keeps its promise -/
/-- names: the parameters first -/
structure FnScope (N P : List Str) (sc : Scope) : Prop where
  kind : sc.kind = .function
  co : sc.isCoroutine = false
  gen : sc.isGenerator = false
  nd : N.Nodup
  pre : N.take P.length = P
  par : ∀ x ∈ P, sc.names.lookup x = some .local ∨ sc.names.lookup x = some .cell
  nofree : ∀ y ∈ sc.names, y.2 ≠ .free

theorem bindL_out {kindOf : Str → Option NameKind} {x : Str} : ∀ {binds : List (Str × Value)} {m : Str → Option Value}, (∀ v, (x, v) ∉ binds) → bindL kindOf binds m x = m x
  | [], _, _ => rfl
  | (n, v) :: r, m, h => by
    unfold bindL
    rw [bindL_out fun w hw => h w (List.mem_cons_of_mem _ hw)]
    split
    · have : x ≠ n := by rintro rfl; exact h v List.mem_cons_self
      simp [this]
    · rfl
theorem bindC_out {kindOf : Str → Option NameKind} {x : Str} : ∀ {binds : List (Str × Value)} {m : Str → Option Value}, (∀ v, (x, v) ∉ binds) → bindC kindOf binds m x = m x
  | [], _, _ => rfl
  | (n, v) :: r, m, h => by
    unfold bindC
    rw [bindC_out fun w hw => h w (List.mem_cons_of_mem _ hw)]
    split
    · rfl
    · have : x ≠ n := by rintro rfl; exact h v List.mem_cons_self
      simp [this]
theorem bindL_get {kindOf : Str → Option NameKind} {x : Str} {v : Value} : ∀ {P : List Str} {vs : List Value} {i : Nat} {m : Str → Option Value}, P.Nodup → P[i]? = some x → vs[i]? = some v → kindOf x = some .local →
    bindL kindOf (P.zip vs) m x = some v
  | [], _, _, _, _, h, _, _ => by simp at h
  | _ :: _, [], _, _, _, _, h, _ => by simp at h
  | p :: P, w :: vs, 0, m, nd, h1, h2, hk => by
    simp at h1 h2; subst h1; subst h2
    show bindL kindOf ((p, w) :: P.zip vs) m p = _
    unfold bindL
    rw [bindL_out fun v hv => (List.nodup_cons.mp nd).1 (List.of_mem_zip hv).1, if_pos hk]
    simp
  | p :: P, w :: vs, i + 1, m, nd, h1, h2, hk => by
    show bindL kindOf ((p, w) :: P.zip vs) m x = _
    unfold bindL
    exact bindL_get (i := i) (List.nodup_cons.mp nd).2 (by simpa using h1) (by simpa using h2) hk
theorem bindC_get {kindOf : Str → Option NameKind} {x : Str} {v : Value} : ∀ {P : List Str} {vs : List Value} {i : Nat} {m : Str → Option Value}, P.Nodup → P[i]? = some x → vs[i]? = some v → kindOf x ≠ some .local →
    bindC kindOf (P.zip vs) m x = some v
  | [], _, _, _, _, h, _, _ => by simp at h
  | _ :: _, [], _, _, _, _, h, _ => by simp at h
  | p :: P, w :: vs, 0, m, nd, h1, h2, hk => by
    simp at h1 h2; subst h1; subst h2
    show bindC kindOf ((p, w) :: P.zip vs) m p = _
    unfold bindC
    rw [bindC_out fun v hv => (List.nodup_cons.mp nd).1 (List.of_mem_zip hv).1, if_neg hk]
    simp
  | p :: P, w :: vs, i + 1, m, nd, h1, h2, hk => by
    show bindC kindOf ((p, w) :: P.zip vs) m x = _
    unfold bindC
    exact bindC_get (i := i) (List.nodup_cons.mp nd).2 (by simpa using h1) (by simpa using h2) hk

/-- the names' values at the entry -/
def start (N : List Str) (vs : List V) : St := vs.map some ++ List.replicate (N.length - vs.length) none

/-- the context of a def's body, at its entry; an exception leaves the frame, then lies as CX says -/
def cxOf (CX : CXT) (P : Program) (w : World) (K : PySem.W.Frag) (mg : Str → Option Value) (base : Heap) (N : List Str) (qual : Str) (scope : Scope) (f : Addr) (cd : Value) (A : Around) (outer : List Env) (s : Shared) (H : Hp) (E : XK) : Cx where
  prog := P
  w := w
  K := K
  mg := mg
  base := base
  A := A.deeper (envOfC qual scope s.heap.objs.size f cd)
  N := N
  s₀ := s
  H₀ := H
  env := envOfC qual scope s.heap.objs.size f cd
  outer := outer
  stack := envOfC qual scope s.heap.objs.size f cd :: outer
  ex := []
  calm := true
  fn := fun _ => true
  pn := []
  xe := fun e s' => wpAny (model P w) (A.deeper (envOfC qual scope s.heap.objs.size f cd)) (leaving (envOfC qual scope s.heap.objs.size f cd) e) (fun _ s'' => CX outer H s E e s'') (fun e' s'' => CX outer H s E e' s'') s'

theorem cell_has {sc : Scope} {n : Nat} {x : Str} (h : sc.names.lookup x = some .cell) : ∃ c, (cellsFrom n sc.names []).lookup x = some c := by
  have q := PySem.W.cellsFrom_some sc.names n [] (.inl h)
  exact Option.isSome_iff_exists.mp q

theorem inv_start {CX : CXT} {P : Program} {w : World} {K : PySem.W.Frag} {mg : Str → Option Value} {base : Heap} {N ps : List Str} {qual : Str} {scope : Scope} {f : Addr} {cd : Value} {A : Around} {outer : List Env} {s s1 : Shared} {H : Hp} {E : XK} {us : List Value} {vs : List V}
    (S : FnScope N ps scope) (hd : A.handled = none) (e0 : Env0 P w K mg base A outer s H) (hl : vs.length = ps.length) (r : Vals vs us)
    (x : InCallC s s.heap.objs.size (bindL (envOfC qual scope s.heap.objs.size f cd).kindOf (ps.zip us) fun _ => none) (cellsFrom (s.heap.objs.size + 1) scope.names []) (bindC (envOfC qual scope s.heap.objs.size f cd).kindOf (ps.zip us) fun _ => none) s1) :
    Inv (cxOf CX P w K mg base N qual scope f cd A outer s H E) [] (start N vs) H s1 := by
  have hpl : ps.length ≤ N.length := by have := congrArg List.length S.pre; rw [List.length_take] at this; omega
  obtain ⟨h1, tk, rfl, hk⟩ := x.done
  have noA : ∀ b : Addr, b ∉ (cxOf CX P w K mg base N qual scope f cd A outer s H E).ex := fun b z => absurd (show b ∈ ([] : List Addr) from z) (by simp)
  refine ⟨⟨e0.mod, S.kind, rfl, rfl, Nat.le_refl _, fun y z c h1 h2 => ?_, fun y hy => ?_, fun y c _ h => ?_, fun _ => hd, Around.frames_deeper e0.frames, .inr ⟨rfl, rfl⟩, fun b z => absurd z (noA b), e0.bs, e0.bsz, fun b _ _ => noA b, fun b z => absurd z (noA b), e0.funs, e0.frf⟩,
    rfl, e0.bare, Un.kept hk, ⟨_, x.toInCall.ns, fun i y v h1 h2 h3 => ?_⟩, fun y c h => ⟨_, x.cell y c h⟩, e0.hok.fresh (Nat.le_refl _), fun y c h => ?_, fun p hp => absurd (show p ∈ ([] : List (Addr × Obj)) from hp) (by simp), e0.hok.kept hk, ?_⟩
  · exact name_of_addr x.apart (PySem.mem_of_lookup h1) (PySem.mem_of_lookup h2)
  · have hy : scope.names.lookup y = some .cell ∨ scope.names.lookup y = some .free := hy
    rcases hy with hy | hy
    · exact cell_has hy
    · exact absurd rfl (S.nofree _ (PySem.mem_of_lookup hy))
  · exact Nat.le_of_lt (x.above y c (PySem.mem_of_lookup h))
  · have hi : i < vs.length := by
      unfold start at h2
      by_cases hi : i < vs.length
      · exact hi
      · rw [List.getElem?_append_right (by simpa using hi)] at h2
        rw [List.getElem?_replicate] at h2
        split at h2 <;> cases h2
    have ha : vs[i]? = some v := by
      unfold start at h2
      rw [List.getElem?_append_left (by simpa using hi), List.getElem?_map] at h2
      cases e : vs[i]? with
      | none => rw [e] at h2; cases h2
      | some a => rw [e] at h2; cases h2; rfl
    obtain ⟨u, hu, rv⟩ := r.get ha
    have hp : ps[i]? = some y := by
      rw [← S.pre, List.getElem?_take_of_lt (by omega)]; exact h1
    have ndP : ps.Nodup := by rw [← S.pre]; exact S.nd.sublist (List.take_sublist _ _)
    refine ⟨u, rv, ?_⟩
    rcases S.par y (List.mem_of_getElem? hp) with k | k
    · exact .inl ⟨k, bindL_get ndP hp hu k⟩
    · obtain ⟨c, e⟩ := cell_has (n := s.heap.objs.size + 1) k
      refine .inr ⟨.inl k, c, e, ?_⟩
      have q := x.cell y c e
      rw [bindC_get ndP hp hu (by show scope.names.lookup y ≠ _; rw [k]; decide)] at q
      exact q
  · exact e0.hok.fresh (Nat.le_of_lt (x.above y c (PySem.mem_of_lookup h)))
  · unfold start
    show _ = N.length
    rw [List.length_append, List.length_map, List.length_replicate]
    omega

/-- THE RULE: a def (or a method) of the text, by its body. The body's reading t is chosen for each entry; it is run at the parameters' values -/
theorem fn_of {CX : CXT} {P : Program} {w : World} {K : PySem.W.Frag} {mg : Str → Option Value} {base : Heap} {k : Nat} {f : Addr} {name qual : Str} {params : Arguments} {body : List Stmt} {scope : Scope} {dV kV doc pm cdv ct oc : Value} {an od : Option Addr}
    {osl : Array (Option Value)} {N ps : List Str} {sp : Sp} (lk : K.lookup f = some ⟨oc, od, .func (PySem.W.fnOf name qual params body scope dV kV doc pm an cdv ct), osl⟩) (hcd : PySem.W.codeIn K cdv qual = true) (S : FnScope N ps scope)
    (len : ∀ vs H Q E, sp vs H Q E → vs.length = ps.length)
    (hbody : ∀ (A : Around) (outer : List Env) (s : Shared) (H : Hp) (vs : List V) (Q : VK) (E : XK), Room k (A.deeper (envOfC qual scope s.heap.objs.size f cdv)) → sp vs H Q E →
      ∃ t, PSs (cxOf CX P w K mg base N qual scope f cdv A outer s H E) body t ∧ t { nx := fun _ H' => Q .non H', rt := Q } (start N vs) H) :
    FnOk P w K mg base CX (k + 1) f (PySem.W.fnOf name qual params body scope dV kV doc pm an cdv ct) ps sp := by
  refine ⟨len, fun A outer s H args us vs Q E hr e0 hb r hsp => ?_⟩
  have hl := len _ _ _ _ hsp
  have KX : K.In s.heap := e0.mod.kin.keeps fun b o e => (e0.bs b o e).1
  have lim : s.heap.NoLimit := e0.mod.nolimit.keeps fun b o e => (e0.bs b o e).1
  have hkind : ∀ y ∈ ps.zip us, scope.names.lookup y.1 = some .local ∨ (scope.names.lookup y.1 = some .cell ∧ ((cellsFrom (s.heap.objs.size + 1) scope.names []).lookup y.1).isSome = true) := fun ⟨n, v⟩ hy => by
    rcases S.par n (List.of_mem_zip hy).1 with q | q
    · exact .inl q
    · exact .inr ⟨q, PySem.W.cellsFrom_some _ _ _ (.inl q)⟩
  refine codeAny_call_function hr.depth (KX _ _ lk) rfl S.co S.gen rfl (PySem.W.codeRec_of KX hcd) (hb _ _ _ _ ?_)
  refine wpAny_newFunctionEnv_cells S.kind hkind fun env he s1 x => ?_
  subst he
  refine ⟨lim.keeps x.toInCall.keep, codeAny_func ?_⟩
  obtain ⟨t, ht, hq⟩ := hbody A outer s H vs Q E (hr.deeper _) hsp
  have I : Inv (cxOf CX P w K mg base N qual scope f cdv A outer s H E) [] (start N vs) H s1 := inv_start S hr.hd e0 hl r x
  refine wpAny_mono (ht [] s1 (start N vs) H _ I hq) (fun fl s' hs => ?_) fun e s' hs => hs
  have fin : ∀ {σ' : St} {H' : Hp} {v : V} {u : Value}, Inv (cxOf CX P w K mg base N qual scope f cdv A outer s H E) [] σ' H' s' → RelV v u → Q v H' → CE outer P w H s Q u s' :=
    fun {σ' H' v u} J rv q => ⟨v, H', J.os, J.bare, J.base, J.hok, rv, q⟩
  cases fl with
  | ret u =>
    obtain ⟨v, σ', H', J, rv, q⟩ := hs
    exact fin J rv q
  | next =>
    obtain ⟨σ', H', J, q⟩ := hs
    exact fin (v := V.non) (u := Value.none) J rfl q
  | brk =>
    obtain ⟨_, _, _, q⟩ := hs
    exact False.elim q
  | cont =>
    obtain ⟨_, _, _, q⟩ := hs
    exact False.elim q
end L2

namespace L2
open PySem PySem.Spec PyProof.Rows
section
variable {X : Cx} {x : Str} {p pos : Pos} {e : Expr} {es : List Expr} {t : TA} {id T : String} {r : List V → Hp → VK → Prop}

def tCB (r : List V → Hp → VK → Prop) (t : TA) : TE := fun σ H Q => t σ H fun vs H1 => r vs H1 Q
/-- f(e, ..), f a built-in function -/
theorem pe_callB (hc : CallR X (.builtin id) r) (hg : Gl X x) (hm : X.mg x = none) (hv : bootBuiltins x = some (.builtin id)) (ha : PA X (e :: es) t) (hn : x ≠ "__name__" := by decide) (hdb : (x == ("__debug__" : Str)) = false := by decide)
    (he : starEach (e :: es) X.env = (false, eval e X.env) :: starEach es X.env := by rfl) (hpl : (backTo pos (starEach es X.env)).any (·.1) = false := by rfl) : PE X (.Call (.Name x p) (e :: es) [] pos) (tCB r t) := by
  intro pins s σ H Q I h
  refine wpAny_Call_Name_kw (ld_blt I hg hm hv ?_ hn hdb)
  exact PyProof.Rows.callWith_builtin1 (thn (ha pos pins s σ H _ I h) fun us s1 ⟨vs, H1, I1, r1, q1⟩ => hc pins s1 σ H1 vs us Q I1 r1 q1) he hpl
/-- T(e, ..), T a built-in type -/
theorem pe_callTy (hc : CallR X (.type T) r) (hg : Gl X x) (hm : X.mg x = none) (hv : bootBuiltins x = some (.type T)) (ha : PA X (e :: es) t) (hn : x ≠ "__name__" := by decide) (hdb : (x == ("__debug__" : Str)) = false := by decide)
    (he : starEach (e :: es) X.env = (false, eval e X.env) :: starEach es X.env := by rfl) (hpl : (backTo pos (starEach es X.env)).any (·.1) = false := by rfl) : PE X (.Call (.Name x p) (e :: es) [] pos) (tCB r t) := by
  intro pins s σ H Q I h
  refine wpAny_Call_Name_kw (ld_blt I hg hm hv ?_ hn hdb)
  exact PyProof.Rows.callWith_type1 (thn (ha pos pins s σ H _ I h) fun us s1 ⟨vs, H1, I1, r1, q1⟩ => hc pins s1 σ H1 vs us Q I1 r1 q1) he hpl
end
end L2

namespace HT
open PySem PyProof.Rows

/-- t < u of tuples of ints -/
def lexLt : List Int → List Int → Bool
  | [], [] => false
  | [], _ :: _ => true
  | _ :: _, [] => false
  | x :: xs, y :: ys => if x = y then lexLt xs ys else decide (x < y)
section
open PySem.SeqAt
open PySem.AutoSeq1 (wpAny_loadPart')
open PySem.MeetsSeq PySem.MeetsSeq2 PySem.MeetsSeq3

end

section
variable {prog : Program} {w : World} {A : Around} {E : Value → Shared → Prop} {s : Shared}

/-! ### t[a:b], not the whole -/
/-- a slice's bound as a place among n (d where it is left out) -/
def sIx (n d : Nat) : Option Int → Nat
  | none => d
  | some v => if v < 0 then (v + (n : Int)).toNat else min v.toNat n
end
end HT

namespace L2
open PySem PySem.Spec PyProof.Rows

/-! ### the parts of a slice -/
abbrev TO := St → Hp → (Option Int → Hp → Prop) → Prop
/-- a slice's part (left out, or an int) -/
def PO (X : Cx) (e : Option Expr) (t : TO) : Prop :=
  ∀ (pins : List (Addr × Obj)) (s : Shared) (σ : St) (H : Hp) (Q : Option Int → Hp → Prop), Inv X pins σ H s → t σ H Q →
    wpAny (model X.prog X.w) X.A (evalPart e X.env) (fun u s' => ∃ o H', Inv X pins σ H' s' ∧ IsPart u o ∧ Q o H') X.xe s
def tNoPart : TO := fun _ H Q => Q none H
def tPart (t : TE) : TO := fun σ H Q => t σ H fun x H1 => ∃ i, x = .int i ∧ Q (some i) H1

section
variable {X : Cx} {e : Expr} {te : TE} {lo hi : Option Expr} {tl th : TO} {pos p2 : Pos}

theorem po_none : PO X none tNoPart := by
  intro pins s σ H Q I h
  rw [evalPart_none]
  exact wpAny_pure ⟨none, H, I, .none, h⟩
theorem po_some (h : PE X e te) : PO X (some e) (tPart te) := by
  intro pins s σ H Q I hw
  rw [evalPart_some]
  refine thn (h pins s σ H _ I hw) fun u s1 ⟨x, H1, I1, r1, q1⟩ => ?_
  obtain ⟨i, rfl, q⟩ := q1
  obtain ⟨t, rfl⟩ := r1
  exact ⟨some i, H1, I1, .int i t, q⟩

/-- what a slice of a value is, by values: the slice object stands at sl -/
def SlR (X : Cx) (r : V → Option Int → Option Int → Hp → VK → Prop) : Prop :=
  ∀ (pins : List (Addr × Obj)) (s : Shared) (σ : St) (H : Hp) (x : V) (v vl vu : Value) (lo hi : Option Int) (sl : Addr) (Q : VK), Inv X pins σ H s → RelV x v → s.heap.IsSliceOf sl vl vu .none → IsPart vl lo → IsPart vu hi → r x lo hi H Q →
    ∃ T id, typeLookup (.type T) "__getitem__" = pure (some (.builtin id)) ∧ s.TypeIs v T ∧ wpAny (model X.prog X.w) X.A (getItem v (.ref sl)) (EP X pins σ Q) X.xe s
def tSl (r : V → Option Int → Option Int → Hp → VK → Prop) (te : TE) (tl th : TO) : TE := fun σ H Q => te σ H fun x H1 => tl σ H1 fun l H2 => th σ H2 fun u H3 => r x l u H3 Q
/-- a[lo:hi], any a -/
theorem pe_slice {r : V → Option Int → Option Int → Hp → VK → Prop} (hr : SlR X r) (he : PE X e te) (hl : PO X lo tl) (hu : PO X hi th) : PE X (.Subscript e (.Slice lo hi none p2) pos) (tSl r te tl th) := by
  intro pins s σ H Q I h
  refine Subscript_ (thn (he pins s σ H _ I h) fun v s1 ⟨x, H1, I1, r1, q1⟩ => ?_)
  refine wpAny_Slice (thn (hl pins s1 σ H1 _ I1 q1) fun vl s2 ⟨l, H2, I2, pl, q2⟩ => thn (hu pins s2 σ H2 _ I2 q2) fun vu s3 ⟨u, H3, I3, pu, q3⟩ => ?_)
  rw [evalPart_none]
  refine wpAny_pure ?_
  have I4 : Inv X pins σ H3 { s3 with heap := s3.heap.push { cls := .type "slice", data := .fields #[vl, vu, .none] } } := I3.kept (t' := s3.toks) fun b ob q => Heap.get?_push_of_some _ q
  obtain ⟨T, id, hT, ht, hg⟩ := hr pins { s3 with heap := s3.heap.push { cls := .type "slice", data := .fields #[vl, vu, .none] } } σ H3 x v vl vu l u s3.heap.objs.size Q I4 r1 (Heap.IsSliceOf.new ..) pl pu q3
  show wpAny (model X.prog X.w) X.A (subscriptTail e (.Slice lo hi none p2) v (.ref s3.heap.objs.size)) (EP X pins σ Q) X.xe { s3 with heap := s3.heap.push { cls := .type "slice", data := .fields #[vl, vu, .none] } }
  exact tail_any (ops := [.ref s3.heap.objs.size, v]) ht hT hg (by with_unfolding_all rfl)

/-- the items of xs[lo:hi] -/
def cutV (xs : List V) (lo hi : Option Int) : List V := (xs.drop (HT.sIx xs.length 0 lo)).take (HT.sIx xs.length xs.length hi - HT.sIx xs.length 0 lo)
theorem cutV_length (xs : List V) (lo hi : Option Int) : (cutV xs lo hi).length ≤ xs.length := by
  unfold cutV
  rw [List.length_take, List.length_drop]
  omega
/-- t[lo:hi], not the whole of it (the whole would be t itself) -/
def rSlT (K : PySem.W.Frag) : V → Option Int → Option Int → Hp → VK → Prop := fun x lo hi H Q => ∃ a xs, x = .ref a ∧ SqT K H a xs ∧
  ¬ (HT.sIx xs.length 0 lo = 0 ∧ HT.sIx xs.length xs.length hi = xs.length) ∧ ∀ p, H p = none → Q (.ref p) (upd H p (.tup (cutV xs lo hi)))
/-! ### t < u, t + u -/
def rLtT (K : PySem.W.Frag) : R2 := fun x y H Q => ∃ a b ns ms, x = .ref a ∧ y = .ref b ∧ SqT K H a (ns.map V.int) ∧ SqT K H b (ms.map V.int) ∧ Q (.bl (HT.lexLt ns ms)) H
/-- t + u, t not empty: u empty gives t itself -/
def rCatT (K : PySem.W.Frag) : R2 := fun x y H Q => ∃ a b xs ys, x = .ref a ∧ y = .ref b ∧ SqT K H a xs ∧ SqT K H b ys ∧ xs ≠ [] ∧ xs.length + ys.length ≤ sizeLine ∧
  (ys = [] → Q (.ref a) H) ∧ (ys ≠ [] → ∀ p, H p = none → Q (.ref p) (upd H p (.tup (xs ++ ys))))
end
end L2

namespace L2
open PySem PySem.Spec PyProof.Rows

/-! ### places -/
/-- the place that an index of any sign means -/
def ixN (n : Nat) (i : Int) : Option Nat := if 0 ≤ i then (if i < n then some i.toNat else none) else if -(n : Int) ≤ i then some (i + n).toNat else none
def atI {α : Type} (xs : List α) (i : Int) : Option α := (ixN xs.length i).bind fun j => xs[j]?
theorem ixN_seq {n : Nat} {i : Int} {j : Nat} (h : ixN n i = some j) : seqIndex? i n = some j ∧ j < n ∧ -(n : Int) ≤ i ∧ i < n := by
  unfold ixN at h
  by_cases h0 : 0 ≤ i
  · rw [if_pos h0] at h
    by_cases h1 : i < n
    · rw [if_pos h1] at h
      have e : i.toNat = j := Option.some.inj h
      exact ⟨by rw [seqIndex_of h0 h1, e], by omega, by omega, h1⟩
    · rw [if_neg h1] at h; cases h
  · rw [if_neg h0] at h
    by_cases h1 : -(n : Int) ≤ i
    · rw [if_pos h1] at h
      have e : (i + n).toNat = j := Option.some.inj h
      exact ⟨by rw [seqIndex_neg (by omega) h1, e], by omega, h1, by omega⟩
    · rw [if_neg h1] at h; cases h
theorem atI_get {α : Type} {xs : List α} {i : Int} {v : α} (h : atI xs i = some v) : ∃ j, seqIndex? i xs.length = some j ∧ xs[j]? = some v ∧ j < xs.length ∧ -(xs.length : Int) ≤ i ∧ i < xs.length := by
  unfold atI at h
  cases e : ixN xs.length i with
  | none => rw [e] at h; cases h
  | some j =>
    rw [e] at h
    obtain ⟨h1, h2, h3, h4⟩ := ixN_seq e
    exact ⟨j, h1, h, h2, h3, h4⟩
theorem atI_nat {α : Type} {xs : List α} {j : Nat} {v : α} (h : xs[j]? = some v) : atI xs (j : Int) = some v := by
  have hj : j < xs.length := (List.getElem?_eq_some_iff.mp h).1
  have e : ixN xs.length (j : Int) = some j := by
    unfold ixN
    rw [if_pos (by omega), if_pos (by omega)]; simp
  unfold atI; rw [e]; exact h
/-! ### what may be subscripted -/
/-- what stands as an index of a plain subscript -/
def PlainIx (b : Expr) : Prop := ∀ o i, subscripted b false o i = operate [o, i] (getItem o i)
/-- a subscript by values -/
def IxR (X : Cx) (r : R2) : Prop :=
  ∀ (value slice : Expr) (pins : List (Addr × Obj)) (s : Shared) (σ : St) (H : Hp) (x y : V) (v u : Value) (Q : VK), Inv X pins σ H s → RelV x v → RelV y u → r x y H Q →
    subscripted slice false v u = operate [v, u] (getItem v u) → wpAny (model X.prog X.w) X.A (subscriptTail value slice v u) (EP X pins σ Q) X.xe s
/-- a call of a builtin's method by values: the receiver, the arguments -/
def MtR (X : Cx) (id : String) (r : V → List V → Hp → VK → Prop) : Prop :=
  ∀ (pins : List (Addr × Obj)) (s : Shared) (σ : St) (H : Hp) (x : V) (xs : List V) (v : Value) (us : List Value) (Q : VK), Inv X pins σ H s → RelV x v → Vals xs us → r x xs H Q →
    wpAny (model X.prog X.w) X.A (call (.builtin id) (v :: us)) (EP X pins σ Q) X.xe s
section
variable {X : Cx} {a b : Expr} {ta tb : TE} {pos : Pos}
/-- a[b] -/
theorem pe_ix {r : R2} (hr : IxR X r) (ha : PE X a ta) (hb : PE X b tb) (hs : PlainIx b) : PE X (.Subscript a b pos) (tOp r ta tb) := by
  intro pins s σ H Q I h
  exact Subscript_ (binT ha hb I h fun v u s2 x y H2 I2 rx ry q => hr a b pins s2 σ H2 x y v u Q I2 rx ry q (hs _ _))

def rIxL (K : PySem.W.Frag) : R2 := fun x y H Q => ∃ p xs i v, x = .ref p ∧ y = .int i ∧ SqL K H p xs ∧ atI xs i = some v ∧ Q v H
def rIxT (K : PySem.W.Frag) : R2 := fun x y H Q => ∃ p xs i v, x = .ref p ∧ y = .int i ∧ SqT K H p xs ∧ atI xs i = some v ∧ Q v H
def rIxS : R2 := fun x y H Q => ∃ z i c, x = .str z ∧ y = .int i ∧ z.length ≤ sizeLine ∧ atI z.cps.toList i = some c ∧ Q (.str ⟨#[c]⟩) H
theorem ix_list : IxR X (rIxL X.K) := by
  intro value slice pins s σ H x y v u Q I rx ry h hs
  obtain ⟨p, xs, i, z, rfl, rfl, hq, he, q⟩ := h
  cases rx
  obtain ⟨t, rfl⟩ := ry
  obtain ⟨its, r, pl, hz⟩ := I.list hq
  obtain ⟨j, h1, h2, h3, h4, h5⟩ := atI_get he
  obtain ⟨w, ew, rw'⟩ := r.get h2
  have hl := r.length
  have hn := line63
  have fin : EP X pins σ Q w s := ⟨z, H, I, rw', q⟩
  by_cases h0 : 0 ≤ i
  · have hj : i.toNat = j := by
      rw [seqIndex_of h0 h5] at h1
      exact Option.some.inj h1
    exact item_listR pl.isList h0 (by omega) (by rw [hj]; simpa using ew) fin hs
  · have hj : (i + (its.toArray.size : Int)).toNat = j := by
      rw [seqIndex_neg (by omega) h4] at h1
      rw [List.size_toArray, ← hl]
      exact Option.some.inj h1
    exact subscriptTail_builtinR (x := w) pl.isList.typeIs slot_list_getitem.lookup
      (wpAny_getItem_list_neg (Q := fun r s' => r = w ∧ EP X pins σ Q r s') pl.isList (by omega) (by rw [List.size_toArray] <;> omega) (by omega) (by rw [hj]; simpa using ew) ⟨rfl, fin⟩) hs
theorem ix_tup : IxR X (rIxT X.K) := by
  intro value slice pins s σ H x y v u Q I rx ry h hs
  obtain ⟨p, xs, i, z, rfl, rfl, hq, he, q⟩ := h
  cases rx
  obtain ⟨t, rfl⟩ := ry
  obtain ⟨its, r, pl, hz⟩ := I.tuple hq
  obtain ⟨j, h1, h2, h3, h4, h5⟩ := atI_get he
  obtain ⟨w, ew, rw'⟩ := r.get h2
  have hl := r.length
  have hn := line63
  have fin : EP X pins σ Q w s := ⟨z, H, I, rw', q⟩
  exact subscriptTail_builtinR (x := w) pl.typeIs slot_tuple_getitem.lookup
    (getItem_tuple (j := j) (Q := fun r s' => r = w ∧ EP X pins σ Q r s') pl (by omega) (by omega) (by rw [List.size_toArray, ← hl]; exact h1) (by simpa using ew) ⟨rfl, fin⟩) hs
theorem ix_str : IxR X rIxS := by
  intro value slice pins s σ H x y v u Q I rx ry h hs
  obtain ⟨z, i, c, rfl, rfl, hz, he, q⟩ := h
  obtain ⟨t, rfl⟩ := rx
  obtain ⟨t', rfl⟩ := ry
  obtain ⟨j, h1, h2, h3, h4, h5⟩ := atI_get he
  have hl : z.cps.toList.length = z.length := by simp [Str.length]
  rw [hl] at h1 h4 h5
  have hn := line63
  exact tail_any (typeIs_str s z t) slot_str_getitem.lookup (getItem_str (c := c) (by
    have e1 : decide (i < -(2 ^ 63 : Int)) = false := decide_eq_false (by omega)
    have e2 : decide (i ≥ 2 ^ 63) = false := decide_eq_false (by omega)
    rw [e1, e2, Bool.or_false]) (by rw [h1]; simpa using h2) ⟨.str ⟨#[c]⟩, H, I.tok _, ⟨_, rfl⟩, q⟩) hs
/-- list, tuple or str -/
def rIx (K : PySem.W.Frag) : R2 := fun x y H Q => rIxL K x y H Q ∨ rIxT K x y H Q ∨ rIxS x y H Q
/-! ### xs[i] = v, any sign -/
def rSetL : V → V → V → Hp → (Hp → Prop) → Prop := fun o i v H Q => ∃ p xs k j, o = .ref p ∧ i = .int k ∧ H p = some (.lst xs) ∧ ixN xs.length k = some j ∧ Q (upd H p (.lst (xs.set j v)))
/-! ### slices -/
theorem slice_bounds (lo hi : Option Int) (n : Nat) : (sliceBounds lo hi none n).1 = ((HT.sIx n 0 lo : Nat) : Int) ∧ (sliceBounds lo hi none n).2.1 = ((HT.sIx n n hi : Nat) : Int) ∧ (sliceBounds lo hi none n).2.2 = 1 := by
  refine ⟨?_, ?_, rfl⟩
  · cases lo with
    | none => simp [sliceBounds, HT.sIx]
    | some i =>
      simp only [sliceBounds, HT.sIx, Option.getD_none, show (1 : Int) > 0 by decide, if_true]
      by_cases h : i < 0
      · simp only [h, if_true] <;> omega
      · simp only [h, if_false] <;> omega
  · cases hi with
    | none => simp [sliceBounds, HT.sIx]
    | some i =>
      simp only [sliceBounds, HT.sIx, Option.getD_none, show (1 : Int) > 0 by decide, if_true]
      by_cases h : i < 0
      · simp only [h, if_true] <;> omega
      · simp only [h, if_false] <;> omega
theorem slicePick_cut (its : List Value) (lo hi : Option Int) : slicePick its.toArray lo hi none = ((its.drop (HT.sIx its.length 0 lo)).take (HT.sIx its.length its.length hi - HT.sIx its.length 0 lo)).toArray := by
  obtain ⟨h1, h2, h3⟩ := slice_bounds lo hi its.toArray.size
  unfold slicePick
  rw [h1, h2, h3]
  simp only [sliceRange_one, pick_run, List.size_toArray] <;> rfl
/-- xs[lo:hi] of a list: a new list -/
def rSlL (K : PySem.W.Frag) : V → Option Int → Option Int → Hp → VK → Prop := fun x lo hi H Q => ∃ a xs, x = .ref a ∧ SqL K H a xs ∧ ∀ p, H p = none → Q (.ref p) (upd H p (.lst (cutV xs lo hi)))
theorem sl_list : SlR X (rSlL X.K) := by
  intro pins s σ H x v vl vu lo hi sl Q I rx hs pl pu h
  obtain ⟨a, xs, rfl, hx, q⟩ := h
  cases rx
  obtain ⟨its, r, ht, hz⟩ := I.list hx
  have hlen := r.length
  refine ⟨"list", _, slot_list_getitem.lookup, ht.isList.typeIs, ?_⟩
  refine wpAny_getItem_list_slice ht.isList hs pl pu .none (by simp) ?_ (by rw [List.size_toArray] <;> omega)
  rw [slicePick_cut, ← hlen]
  refine ⟨.ref s.heap.objs.size, _, I.laid (t' := s.toks) (o := .lst (cutV xs lo hi)) (fun b ob q => Heap.get?_push_of_some _ q) (Nat.le_refl _) ?_, rfl, q _ (I.hok.fresh (Nat.le_refl _))⟩
  exact ⟨Nat.le_trans (cutV_length xs lo hi) hz, _, 0, (r.drop (HT.sIx xs.length 0 lo)).take (HT.sIx xs.length xs.length hi - HT.sIx xs.length 0 lo), Heap.get?_push_size _ rfl⟩

/-! ### in, not in: flat items -/
def flatV : V → Bool
  | .non => true
  | .bl _ => true
  | .int _ => true
  | .str _ => true
  | _ => false
/-- == of flat values -/
def eqV : V → V → Bool
  | .non, .non => true
  | .bl a, .bl b => a == b
  | .bl a, .int b => (if a then 1 else 0) == b
  | .int a, .bl b => a == (if b then 1 else 0)
  | .int a, .int b => a == b
  | .str a, .str b => a == b
  | _, _ => false
theorem eqAt_V {A : Around} {s : Shared} {y x : V} {u v : Value} (ry : RelV y u) (rx : RelV x v) (fy : flatV y = true) (fx : flatV x = true) : SeqAt.EqAt A s u v (eqV y x) := by
  cases y with
  | non =>
    cases ry
    cases x with
    | non => cases rx; exact SeqAt.EqAt.same _
    | bl b => cases rx; exact SeqAt.EqAt.none_bool b
    | int b => obtain ⟨t, rfl⟩ := rx; exact SeqAt.EqAt.none_int b t
    | str b => obtain ⟨t, rfl⟩ := rx; exact SeqAt.EqAt.none_str b t
    | _ => exact absurd (show false = true from fx) Bool.false_ne_true
  | bl a =>
    cases ry
    cases x with
    | non => cases rx; exact SeqAt.EqAt.bool_none a
    | bl b => cases rx; exact SeqAt.EqAt.bool_bool a b
    | int b => obtain ⟨t, rfl⟩ := rx; exact SeqAt.EqAt.bool_int a b t
    | str b => obtain ⟨t, rfl⟩ := rx; exact SeqAt.EqAt.bool_str a b t
    | _ => exact absurd (show false = true from fx) Bool.false_ne_true
  | int a =>
    obtain ⟨t', rfl⟩ := ry
    cases x with
    | non => cases rx; exact SeqAt.EqAt.int_none a t'
    | bl b => cases rx; exact SeqAt.EqAt.int_bool a t' b
    | int b => obtain ⟨t, rfl⟩ := rx; exact SeqAt.EqAt.int_int a t' b t
    | str b => obtain ⟨t, rfl⟩ := rx; exact SeqAt.EqAt.int_str a t' b t
    | _ => exact absurd (show false = true from fx) Bool.false_ne_true
  | str a =>
    obtain ⟨t', rfl⟩ := ry
    cases x with
    | non => cases rx; exact SeqAt.EqAt.str_none a t'
    | bl b => cases rx; exact SeqAt.EqAt.str_bool a t' b
    | int b => obtain ⟨t, rfl⟩ := rx; exact SeqAt.EqAt.str_int a t' b t
    | str b => obtain ⟨t, rfl⟩ := rx; exact SeqAt.EqAt.str_str a t' b t
    | _ => exact absurd (show false = true from fx) Bool.false_ne_true
  | _ => exact absurd (show false = true from fy) Bool.false_ne_true
/-- the items' answers, read off the values (a value's own answer does not lean on its token) -/
def eqU (x : V) (u : Value) : Bool := match u with
  | .none => eqV .non x
  | .bool b => eqV (.bl b) x
  | .int i _ => eqV (.int i) x
  | .str z _ => eqV (.str z) x
  | _ => false
theorem eqU_of {x y : V} {u : Value} (r : RelV y u) (f : flatV y = true) : eqU x u = eqV y x := by
  cases y with
  | non => cases r; rfl
  | bl b => cases r; rfl
  | int i => obtain ⟨t, rfl⟩ := r; rfl
  | str z => obtain ⟨t, rfl⟩ := r; rfl
  | _ => exact absurd (show false = true from f) Bool.false_ne_true
theorem any_eqU {x : V} : ∀ {xs : List V} {us : List Value}, Vals xs us → xs.all flatV = true → us.any (eqU x) = xs.any fun y => eqV y x
  | _, _, .nil, _ => rfl
  | y :: xs, u :: us, .cons r t, f => by
    rw [List.all_cons, Bool.and_eq_true] at f
    rw [List.any_cons, List.any_cons, eqU_of r f.1, any_eqU t f.2]
theorem mem_eqAt {A : Around} {s : Shared} {x : V} {v : Value} (rx : RelV x v) (fx : flatV x = true) : ∀ {xs : List V} {us : List Value}, Vals xs us → xs.all flatV = true → ∀ u ∈ us, SeqAt.EqAt A s u v (eqU x u)
  | _, _, .nil, _ => fun u hu => by cases hu
  | y :: xs, u :: us, .cons r t, f => fun u' hu => by
    rw [List.all_cons, Bool.and_eq_true] at f
    rcases List.mem_cons.mp hu with rfl | hu
    · rw [eqU_of r f.1]; exact eqAt_V r rx f.1 fx
    · exact mem_eqAt rx fx t f.2 u' hu
def inV (x : V) (xs : List V) : Bool := xs.any fun y => eqV y x
/-- x in a list or tuple of flat items -/
def rIn (K : PySem.W.Frag) (neg : Bool) : R2 := fun x y H Q => ∃ p xs, y = .ref p ∧ (SqL K H p xs ∨ SqT K H p xs) ∧ flatV x = true ∧ xs.all flatV = true ∧ Q (.bl (if neg then !inV x xs else inV x xs)) H
theorem op_in_seq : OpR X (compareOp .In) (rIn X.K false) := by
  intro pins s σ H x y v u Q I rx ry h
  obtain ⟨p, xs, rfl, hq, fx, fs, q⟩ := h
  cases ry
  rcases hq with hq | hq
  · obtain ⟨its, r, pl, hz⟩ := I.list hq
    refine SeqAt.in_listAt (eqU x) pl.isList (fun w hw => mem_eqAt rx fx r fs w (by simpa using hw)) ⟨.bl _, H, I, rfl, ?_⟩
    rw [show its.toArray.any (eqU x) = its.any (eqU x) by simp, any_eqU r fs]
    exact q
  · obtain ⟨its, r, pl, hz⟩ := I.tuple hq
    refine SeqAt.in_tupleAt (eqU x) pl (fun w hw => mem_eqAt rx fx r fs w (by simpa using hw)) ⟨.bl _, H, I, rfl, ?_⟩
    rw [show its.toArray.any (eqU x) = its.any (eqU x) by simp, any_eqU r fs]
    exact q
theorem op_notIn_str : OpR X (compareOp .NotIn) (fun x y H Q => ∃ i j, x = .str i ∧ y = .str j ∧ Q (.bl (!(!(Builtin.Str.occurrences j i 0 j.length 1).isEmpty))) H) := by
  intro pins s σ H x y v u Q I rx ry h
  obtain ⟨i, j, rfl, rfl, q⟩ := h
  obtain ⟨t, rfl⟩ := rx
  obtain ⟨t', rfl⟩ := ry
  exact notIn_str ⟨.bl _, H, I, rfl, q⟩

/-! ### len, list(x), tuple(x) of any list or tuple that is read -/
theorem call_len_seq : CallR X (.builtin "len") (fun xs H Q => ∃ p ys, xs = [.ref p] ∧ (SqL X.K H p ys ∨ SqT X.K H p ys) ∧ Q (.int ys.length) H) := by
  intro pins s σ H xs us Q I r h
  obtain ⟨p, ys, rfl, hq, q⟩ := h
  obtain ⟨u, rfl, rx⟩ := vals1 r
  cases rx
  have hn := line63
  rcases hq with hq | hq
  · obtain ⟨its, r', pl, hz⟩ := I.list hq
    have hlen := r'.length
    exact Calls.call_len_list pl.isList (by simp only [List.size_toArray] <;> omega) ⟨.int ys.length, H, I.tok _, ⟨s.toks + 1, by rw [List.size_toArray, hlen]⟩, q⟩
  · obtain ⟨its, r', pl, hz⟩ := I.tuple hq
    have hlen := r'.length
    exact len_tuple pl (by simp only [List.size_toArray] <;> omega) ⟨.int ys.length, H, I.tok _, ⟨s.toks + 1, by rw [List.size_toArray, hlen]⟩, q⟩
theorem call_len_str : CallR X (.builtin "len") (fun xs H Q => ∃ z, xs = [.str z] ∧ z.length ≤ sizeLine ∧ Q (.int z.length) H) := by
  intro pins s σ H xs us Q I r h
  obtain ⟨z, rfl, hz, q⟩ := h
  obtain ⟨u, rfl, t, rfl⟩ := vals1 r
  have hn := line63
  exact len_str (by omega) ⟨.int z.length, H, I.tok _, ⟨_, rfl⟩, q⟩
theorem call_list_of : CallR X (.type "list") (fun xs H Q => ∃ p ys, xs = [.ref p] ∧ (SqL X.K H p ys ∨ SqT X.K H p ys) ∧ ∀ l, H l = none → Q (.ref l) (upd H l (.lst ys))) := by
  intro pins s σ H xs us Q I r h
  obtain ⟨p, ys, rfl, hq, q⟩ := h
  obtain ⟨u, rfl, rx⟩ := vals1 r
  cases rx
  have fin : ∀ (its : List Value), Vals ys its → ys.length ≤ sizeLine → ∀ (h' : Heap) (c' : Nat), (∀ b o', s.heap.get? b = some o' → h'.get? b = some o') →
      h'.get? s.heap.objs.size = some { cls := .type "list", dict := none, data := .seq its.toArray c', slots := #[] } → EP X pins σ Q (.ref s.heap.objs.size) { s with heap := h' } := fun its r' hz h' c' kp e =>
    ⟨.ref s.heap.objs.size, _, I.laid (t' := s.toks) kp (Nat.le_refl _) (show ObjOk X.prog X.w _ h' _ (.lst ys) from ⟨hz, its, c', r', e⟩), rfl, q _ (I.hok.fresh (Nat.le_refl _))⟩
  rcases hq with hq | hq
  · obtain ⟨its, r', pl, hz⟩ := I.list hq
    have hlen := r'.length
    obtain ⟨o, ho, hc, n, hd⟩ := pl.isList
    exact call_list_seq p (.inl rfl) ho hc hd (fun h' c' kp e => fin its r' hz h' c' kp e) (by simp only [List.size_toArray] <;> omega)
  · obtain ⟨its, r', pl, hz⟩ := I.tuple hq
    have hlen := r'.length
    obtain ⟨o, ho, hc, n, hd⟩ := pl
    exact call_list_seq p (.inr rfl) ho hc hd (fun h' c' kp e => fin its r' hz h' c' kp e) (by simp only [List.size_toArray] <;> omega)
/-! ### the call of a builtin's method: o.m(..) -/
/-- the value is of that builtin type -/
def tyV (K : PySem.W.Frag) (T : String) (x : V) (H : Hp) : Prop := match x with
  | .str _ => T = "str"
  | .int _ => T = "int"
  | .ref p => (T = "list" ∧ ∃ xs, SqL K H p xs) ∨ (T = "tuple" ∧ ∃ o, K.lookup p = some o ∧ o.cls = .type "tuple" ∧ o.dict = none) ∨
      (T = "dict" ∧ ((∃ kvs, H p = some (.dK kvs)) ∨ ∃ kvs, H p = some (.dT kvs))) ∨ (T = "set" ∧ ∃ S n, H p = some (.set S n))
  | _ => False
theorem tyV_is {pins : List (Addr × Obj)} {σ : St} {H : Hp} {s : Shared} {T : String} {x : V} {v : Value} (I : Inv X pins σ H s) (r : RelV x v) (ty : tyV X.K T x H) :
    s.TypeIs v T ∧ ∀ a, v = .ref a → ∃ ob, s.heap.get? a = some ob ∧ ob.dict = none := by
  cases x with
  | str z =>
    obtain ⟨t, rfl⟩ := r
    cases (show T = "str" from ty)
    exact ⟨typeIs_str s z t, fun _ e => nomatch e⟩
  | int i =>
    obtain ⟨t, rfl⟩ := r
    cases (show T = "int" from ty)
    exact ⟨typeIs_int s i t, fun _ e => nomatch e⟩
  | ref p =>
    cases r
    rcases ty with ⟨rfl, xs, hq⟩ | ⟨rfl, o, hk, hc, hd⟩ | ⟨rfl, hk⟩ | ⟨rfl, S, n, hk⟩
    · obtain ⟨its, _, pl, _⟩ := I.list hq
      refine ⟨pl.isList.typeIs, fun a e => ?_⟩
      cases e
      obtain ⟨o, n, e, c, hd, _⟩ := pl
      exact ⟨o, e, hd⟩
    · refine ⟨⟨o, I.kIn p o hk, hc⟩, fun a e => ?_⟩
      cases e
      exact ⟨o, I.kIn _ o hk, hd⟩
    · have z : ∃ o, s.heap.get? p = some o ∧ o.ExactDict := by
        rcases hk with ⟨kvs, hk⟩ | ⟨kvs, hk⟩
        · obtain ⟨_, _, _, _, o, _, _, e, ex, _⟩ := I.hok p _ hk
          exact ⟨o, e, ex⟩
        · obtain ⟨_, _, _, _, o, _, _, e, ex, _⟩ := I.hok p _ hk
          exact ⟨o, e, ex⟩
      obtain ⟨o, e, ex⟩ := z
      refine ⟨⟨o, e, ex.1⟩, fun a e2 => ?_⟩
      cases e2
      exact ⟨o, e, ex.2.1⟩
    · obtain ⟨o, _, _, _, e, ex, _⟩ := I.hok p _ hk
      refine ⟨⟨o, e, ex.1⟩, fun a e2 => ?_⟩
      cases e2
      exact ⟨o, e, ex.2.1⟩
  | _ => exact False.elim ty
def tBM0 (K : PySem.W.Frag) (T : String) (r : V → List V → Hp → VK → Prop) (to : TE) : TE := fun σ H Q => to σ H fun x H1 => tyV K T x H1 ∧ r x [] H1 Q
def tBM (K : PySem.W.Frag) (T : String) (r : V → List V → Hp → VK → Prop) (to : TE) (t : TA) : TE := fun σ H Q => to σ H fun x H1 => tyV K T x H1 ∧ t σ H1 fun xs H2 => r x xs H2 Q
variable {o e : Expr} {es : List Expr} {to : TE} {t : TA} {name : Str} {apos cpos : Pos} {T id : String} {r : V → List V → Hp → VK → Prop}
theorem pe_bm (pa : PlainAttrs T) (slot : Slot T name id) (hty : typeOf (.builtin id) = pure (.type "method_descriptor")) (hm : MtR X id r) (ho : PE X o to) (ha : PA X (e :: es) t)
    (hbase : attributeBase o name X.env (eval o X.env) = eval o X.env := by rfl)
    (hfew : ((backTo cpos (starEach (e :: es) X.env)).all (fun x => !x.1) && (backToKw cpos (keywordEach [] X.env)).all (fun x => x.1.isSome)
      && decide ((e :: es).length + ([] : List Keyword).length + (if ([] : List Keyword).isEmpty then 0 else 1) < 30)) = true := by rfl)
    (hline : (apos.endLine == cpos.line) = true := by rfl) (hs : starEach (e :: es) X.env = (false, eval e X.env) :: starEach es X.env := by rfl) (hplain : (backTo cpos (starEach es X.env)).any (·.1) = false := by rfl) :
    PE X (.Call (.Attribute o name apos) (e :: es) [] cpos) (tBM X.K T r to t) := by
  intro pins s σ H Q I h
  refine wpAny_Call_method_late hbase hfew hline rfl (thn (ho pins s σ H _ I h) fun v s1 ⟨x, H1, I1, r1, ty, q1⟩ => ?_)
  obtain ⟨h1, h2⟩ := tyV_is I1 r1 ty
  refine ⟨T, id, pa, slot, hty, h1, h2, ?_⟩
  have hA := ha cpos pins s1 σ H1 _ I1 q1
  rw [hs] at hA ⊢
  refine Calls.callWith_builtin (by show (false || (backTo cpos (starEach es X.env)).any (·.1)) = false; rw [hplain] <;> rfl) (Calls.evalArgs_plain ?_)
  exact thn hA fun us s2 ⟨vs, H2, I2, r2, q2⟩ => hm pins s2 σ H2 x vs v us Q I2 r1 r2 q2
/- xs.append(e), list.index on a module's tuple .. are MtR facts of 06m -/
end
end L2

namespace L2
open PySem PySem.Spec PyProof.Rows

def MtM (X : Cx) (id : String) (r : V → List V → Hp → VK → Prop) : Prop :=
  ∀ (pins : List (Addr × Obj)) (s : Shared) (σ : St) (H : Hp) (x : V) (xs : List V) (v : Value) (us : List Value) (Q : VK), Inv X pins σ H s → RelV x v → Vals xs us → r x xs H Q →
    wpAny (model X.prog X.w) X.A (call (.builtin id) (v :: us)) (EP X pins σ Q) X.xe s

/-! ### lists of values -/
theorem Vals.one : ∀ {x : V} {us : List Value}, Vals [x] us → ∃ u, us = [u] ∧ RelV x u
  | _, _, .cons r .nil => ⟨_, rfl, r⟩
theorem Vals.rep {xs : List V} {us : List Value} (h : Vals xs us) : ∀ k : Nat, Vals (List.replicate k xs).flatten (List.replicate k us).flatten
  | 0 => .nil
  | k + 1 => by
    rw [List.replicate_succ, List.replicate_succ, List.flatten_cons, List.flatten_cons]
    exact Vals.append h (Vals.rep h k)
theorem foldl_rep (its : List Value) : ∀ (k : Nat) (acc : List Value),
    List.foldl (fun x1 x2 => x1 ++ x2) acc.toArray (List.replicate k its.toArray) = (acc ++ (List.replicate k its).flatten).toArray
  | 0, acc => by simp
  | k + 1, acc => by
    have e : acc.toArray ++ its.toArray = (acc ++ its).toArray := by simp
    have e2 : (acc ++ its) ++ (List.replicate k its).flatten = acc ++ (List.replicate (k + 1) its).flatten := by
      rw [List.replicate_succ, List.flatten_cons, List.append_assoc]
    rw [← e2, ← foldl_rep its k (acc ++ its), ← e, List.replicate_succ, List.foldl_cons]

section
variable {X : Cx} {pins : List (Addr × Obj)} {σ : St} {H : Hp} {s : Shared} {l b : Addr} {xs ys zs : List V}

/-! ### the two steps: a tracked list is rewritten, a new list is laid -/
theorem Inv.lset {its its' : List Value} {n : Nat} {f : Array Value → Array Value} {t' : Nat} (I : Inv X pins σ H s) (hH : H l = some (.lst xs))
    (e : s.heap.get? l = some { cls := .type "list", data := .seq its.toArray n }) (hf : f its.toArray = its'.toArray) (hv : Vals ys its') (hz : ys.length ≤ sizeLine) :
    Inv X pins σ (upd H l (.lst ys)) { s with heap := s.heap.update l (Obj.mapSeq f), toks := t' } := by
  have q := PySem.IsL.update e f
  rw [hf] at q
  refine I.write (x := l) (e := l) (by rw [hH]; exact trivial) (.inl rfl) (fun b' u hb hu => (Heap.get?_update_other s.heap (Obj.mapSeq f) (Ne.symm hb)).trans hu) ⟨_, q⟩ ?_
  exact ⟨hz, its', _, hv, q⟩
theorem Inv.lnew {its : List Value} {t' : Nat} (I : Inv X pins σ H s) (hv : Vals ys its) (hz : ys.length ≤ sizeLine) :
    Inv X pins σ (upd H s.heap.objs.size (.lst ys)) { s with heap := s.heap.push { cls := .type "list", data := .seq its.toArray }, toks := t' } :=
  I.laid (fun _ _ q => Heap.get?_push_of_some _ q) (Nat.le_refl _) ⟨hz, its, 0, hv, Heap.get?_push_size _ rfl⟩
theorem Inv.fresh (I : Inv X pins σ H s) : H s.heap.objs.size = none := I.hok.fresh (Nat.le_refl _)
theorem Inv.lstM (I : Inv X pins σ H s) (hH : H l = some (.lst xs)) : xs.length ≤ sizeLine ∧ ∃ (its : List Value) (n : Nat), Vals xs its ∧ xs.length = its.length ∧ s.heap.get? l = some { cls := .type "list", data := .seq its.toArray n } := by
  obtain ⟨z, its, n, r, e⟩ := I.hok l _ hH
  exact ⟨z, its, n, r, r.length, e⟩

theorem notLongL {n : Nat} (h : n ≤ sizeLine) : Builtin.List.listTooLong n = false := by
  unfold Builtin.List.listTooLong
  exact decide_eq_false (by omega)
end

section
variable {X : Cx}

/-! ### methods -/
def rAppend : V → List V → Hp → VK → Prop := fun x vs H Q => ∃ l xs y, x = .ref l ∧ vs = [y] ∧ H l = some (.lst xs) ∧ xs.length < sizeLine ∧ Q .non (upd H l (.lst (xs ++ [y])))
theorem mt_append : MtM X "list.append" rAppend := by
  intro pins s σ H x vs v us Q I rx rv h
  obtain ⟨l, xs, y, rfl, rfl, hH, hz, q⟩ := h
  cases rx
  obtain ⟨u, rfl, ru⟩ := rv.one
  obtain ⟨z, its, n, r, hl, e⟩ := I.lstM hH
  refine call_meets F.slot_list_append ⟨_, e, rfl⟩ F.entry_list_append (F.args_list_append_2 _ _) (PySem.list_append l its.toArray n u (by rw [List.size_toArray]; omega)) ⟨e, ?_⟩
  refine ⟨.non, _, I.lset (its' := its ++ [u]) hH e (by simp) (r.append (.cons ru .nil)) ?_, rfl, q⟩
  rw [List.length_append, List.length_singleton]
  omega

def rExtend : V → List V → Hp → VK → Prop := fun x vs H Q => ∃ l b xs zs, x = .ref l ∧ vs = [.ref b] ∧ H l = some (.lst xs) ∧ H b = some (.lst zs) ∧ xs.length + zs.length ≤ sizeLine ∧ Q .non (upd H l (.lst (xs ++ zs)))
theorem mt_extend : MtM X "list.extend" rExtend := by
  intro pins s σ H x vs v us Q I rx rv h
  obtain ⟨l, b, xs, zs, rfl, rfl, hH, hB, hz, q⟩ := h
  cases rx
  obtain ⟨u, rfl, ru⟩ := rv.one
  cases ru
  obtain ⟨z, its, n, r, hl, e⟩ := I.lstM hH
  obtain ⟨z2, its2, n2, r2, hl2, e2⟩ := I.lstM hB
  have hsz : its.toArray.size + its2.toArray.size ≤ sizeLine := by rw [List.size_toArray, List.size_toArray]; omega
  have hlong : ¬ (!its.toArray.isEmpty && Builtin.List.listTooLong (its.toArray.size + its2.toArray.size)) = true := by
    rw [notLongL hsz, Bool.and_false]
    exact Bool.false_ne_true
  refine call_meets F.slot_list_extend ⟨_, e, rfl⟩ F.entry_list_extend (F.args_list_extend_2 _ _)
    (AutoSeq1.list_extend_list_list_0 l its.toArray n b its2.toArray n2 hlong (by rw [List.size_toArray]; omega) (by omega)) ⟨e, e2, ?_⟩
  refine ⟨.non, _, I.lset (its' := its ++ its2) hH e (by simp) (r.append r2) ?_, rfl, q⟩
  rw [List.length_append]
  omega

def rPop : V → List V → Hp → VK → Prop := fun x vs H Q => ∃ l xs y, x = .ref l ∧ vs = [] ∧ H l = some (.lst xs) ∧ xs[xs.length - 1]? = some y ∧ Q y (upd H l (.lst xs.dropLast))
def rPopAt : V → List V → Hp → VK → Prop := fun x vs H Q => ∃ l xs i k y, x = .ref l ∧ vs = [.int i] ∧ H l = some (.lst xs) ∧ -(2 ^ 63) ≤ i ∧ i < 2 ^ 63 ∧ seqIndex? i xs.length = some k ∧ xs[k]? = some y ∧ Q y (upd H l (.lst (xs.eraseIdx k)))
def rReverse : V → List V → Hp → VK → Prop := fun x vs H Q => ∃ l xs, x = .ref l ∧ vs = [] ∧ H l = some (.lst xs) ∧ Q .non (upd H l (.lst xs.reverse))
def rClear : V → List V → Hp → VK → Prop := fun x vs H Q => ∃ l xs, x = .ref l ∧ vs = [] ∧ H l = some (.lst xs) ∧ Q .non (upd H l (.lst []))
/-! ### list + list, list += list, list * int -/
def rCat : R2 := fun x y H Q => ∃ l b xs zs, x = .ref l ∧ y = .ref b ∧ H l = some (.lst xs) ∧ H b = some (.lst zs) ∧ xs.length + zs.length ≤ sizeLine ∧ ∀ p, H p = none → Q (.ref p) (upd H p (.lst (xs ++ zs)))
theorem op_cat : OpR X (binaryOp .Add) rCat := by
  intro pins s σ H x y v u Q I rx ry h
  obtain ⟨l, b, xs, zs, rfl, rfl, hH, hB, hz, q⟩ := h
  cases rx
  cases ry
  obtain ⟨z, its, n, r, hl, e⟩ := I.lstM hH
  obtain ⟨z2, its2, n2, r2, hl2, e2⟩ := I.lstM hB
  refine PySem.P.add_list e e2 ?_ (by rw [List.size_toArray, List.size_toArray]; omega)
  have ea : its.toArray ++ its2.toArray = (its ++ its2).toArray := by simp
  rw [ea]
  exact ⟨.ref _, _, I.lnew (t' := s.toks) (r.append r2) (by rw [List.length_append]; omega), rfl, q _ I.fresh⟩
/-- a list times an int (a negative one is nothing) -/
def rRep : R2 := fun x y H Q => ∃ l k xs, x = .ref l ∧ y = .int k ∧ H l = some (.lst xs) ∧ -(2 ^ 63) ≤ k ∧ k < 2 ^ 63 ∧ xs.length * k.toNat ≤ sizeLine ∧
  ∀ p, H p = none → Q (.ref p) (upd H p (.lst (List.replicate k.toNat xs).flatten))
theorem len_rep {α : Type} (xs : List α) (k : Nat) : (List.replicate k xs).flatten.length = k * xs.length := by
  induction k with
  | zero => simp
  | succ k ih => rw [List.replicate_succ, List.flatten_cons, List.length_append, ih, Nat.succ_mul, Nat.add_comm]
theorem op_rep : OpR X (binaryOp .Mult) rRep := by
  intro pins s σ H x y v u Q I rx ry h
  obtain ⟨l, k, xs, rfl, rfl, hH, h1, h2, hz, q⟩ := h
  cases rx
  obtain ⟨t, rfl⟩ := ry
  obtain ⟨z, its, n, r, hl, e⟩ := I.lstM hH
  have hlen : its.toArray.size * k.toNat ≤ sizeLine := by rw [List.size_toArray, ← hl]; exact hz
  have hcap : ¬ its.toArray.size * k.toNat > (2 ^ 63 - 1) / 8 := by
    have : (sizeLine : Nat) ≤ (2 ^ 63 - 1) / 8 := by decide
    omega
  have hfit : ¬ (!Builtin.List.listFitsIndex k) = true := by
    rw [fitsIndex_both h1 h2]
    exact Bool.false_ne_true
  have hlong : ¬ Builtin.List.listTooLong (its.toArray.size * k.toNat) = true := by
    rw [notLongL hlen]
    exact Bool.false_ne_true
  have hnew : List.foldl (fun x1 x2 => x1 ++ x2) #[] (List.replicate (if its.toArray.isEmpty = true then 0 else k.toNat) its.toArray) = (List.replicate k.toNat its).flatten.toArray := by
    have f0 : ∀ m : Nat, List.foldl (fun x1 x2 => x1 ++ x2) #[] (List.replicate m its.toArray) = (List.replicate m its).flatten.toArray := fun m => by
      have := foldl_rep its m []
      rw [List.nil_append] at this
      exact this
    rw [f0]
    cases its with
    | nil => simp
    | cons a r' => rw [if_neg (by simp)]
  refine wpAny_binaryOp_repeat_ref (T := "list") (U := "int") (by decide) ⟨_, e, rfl⟩ (fun s' => typeIs_int s' k t) noFill_list_mul F.fills_int_mul F.slot_int_rmul repeat_list F.slot_int_index.lookup
    (call_meets F.slot_int_rmul (typeIs_int s k t) F.entry_int_rmul (F.args_int_rmul_2 _ _) (int___rmul___int_list k t l its.toArray n)
      ⟨e, rfl, ⟨_, e, rfl⟩, call_meets F.slot_list_mul ⟨_, e, rfl⟩ F.entry_list_mul (F.args_list_mul_2 _ _) (AutoListH.list___mul___list_int_3 l its.toArray n k t hfit hcap hlong) ⟨e, ?_⟩⟩)
  rw [hnew]
  exact ⟨.ref _, _, I.lnew (t' := s.toks) (r.rep k.toNat) (by rw [len_rep, Nat.mul_comm]; exact hz), rfl, q _ I.fresh⟩

/-! ### del xs[i] -/
end

/-! ### xs[a:b] = ys -/
section
variable {prog : Program} {w : World} {A : Around} {E : Value → Shared → Prop} {s : Shared}
end

section
variable {X : Cx}
end
end L2

namespace Att
open PySem PySem.W PySem.Calls PyProof.Rows

/-! ### the script -/
theorem ints_of_wellAll {P : Params} {h : Heap} : ∀ (ns : List Int) (vs : List Value), WellAll P h vs (ns.map WData.int) → IntsAre vs ns := by
  intro ns
  induction ns with
  | nil =>
    intro vs w
    rw [List.map_nil] at w
    cases w
    exact .nil
  | cons n ns ih =>
    intro vs w
    rw [List.map_cons] at w
    cases w with
    | cons a b =>
      cases a
      exact .cons _ _ (ih _ b)

theorem script_of {l : OpenLaw} {n : Nat} (hn : l.most = some n) {P : Params} {h : Heap} {args : List WData} {vals : List Value}
    (hpre : l.row.toRowW.claim.pre args = true) (hwl : WellAll P h vals args) :
    ∃ a vs ns, vals = [Value.ref a] ∧ args = [WData.list (ns.map WData.int)] ∧ h.get? a = some { cls := .type "list", data := .seq vs.toArray } ∧ IntsAre vs ns ∧ ns.length ≤ n := by
  have hsh : WShape.hasAll [] args [.list .int] = true := (pre_splitW hpre).1
  have hc : l.pre.holds [] { args := args } = true := (pre_splitW hpre).2
  obtain ⟨d, r, rfl, h1, h2⟩ := hasAllW_cons hsh
  obtain rfl := hasAllW_nil h2
  obtain ⟨xs, rfl, h3⟩ := hasW_list h1
  obtain ⟨ns, rfl⟩ := items_int h3
  have hlen : ns.length ≤ n := by
    unfold OpenLaw.pre at hc
    have h4 : (WTm.not (.lt (.lit (.int (n : Int))) (.len (.arg 0)))).holds [] { args := [.list (ns.map .int)] } = true := by
      have h4 := (holds_andW hc).1
      rw [hn] at h4
      exact h4
    have h5 := condW_of h4 (w_not (w_lt w_lit (w_len_list (w_arg rfl))))
    rw [List.length_map] at h5
    refine Nat.le_of_not_lt fun q => ?_
    have q' : (n : Int) < ((ns.length : Nat) : Int) := by omega
    first
      | (rw [decide_eq_true q'] at h5; exact absurd h5 (by decide))
      | (simp at h5; omega)
  cases hwl with
  | cons w1 w2 =>
    cases w2
    cases w1 with
    | list ho hall => exact ⟨_, _, ns, rfl, rfl, ho, ints_of_wellAll ns _ hall, hlen⟩

theorem post_true (l : OpenLaw) (args : List WData) : l.row.toRowW.claim.post args (.bool true) args = true :=
  postW_of (r := l.row.toRowW) (X := (true == true))
    (show WShape.has [] (.bool true) .bool = true by first | rfl | decide | simp [WShape.has, WShape.arms, WShape.armsAll])
    (show (WTm.eq .res (.lit (.bool true))).value [] { args := args, res := some (.bool true), after := args } = some (.bool (true == true)) from w_eq_bool (w_res rfl) w_lit) rfl

/-! ### the attachment: holds_open's last premise (the goal 'hc' behind k_head) from a wpAny of the law's body -/
/-- the same from a codeAny of the CALL (for a layer whose function contracts speak of calls) -/
theorem attach_call {l : OpenLaw} {n : Nat} {q : Program} {loose : List Str} {XP : (Str → Option Value) → Heap → Prop} {YP : World → Heap → Prop} {d : DefRec}
    (hn : l.most = some n) (hdf : d.params.defaults = [])
    (call : ∀ (w : World) (s₀ s₁ : Shared) (mg mb : Str → Option Value) (fa : Addr) (o : Obj) (pm cd doc : Value) (a : Addr) (vs : List Value) (ns : List Int),
      Ground q loose [] XP w s₀ mg mb s₁.heap → YP w s₁.heap →
      s₁.heap.get? fa = some o → o.data = .func (docDef d.name d.params d.body d.scope pm cd doc) → s₁.heap.CodeRec cd d.name → mg d.name = some (.ref fa) →
      s₁.heap.get? a = some { cls := .type "list", data := .seq vs.toArray } → IntsAre vs ns → ns.length ≤ n → s₁.gens = #[] →
      codeAny (model l.prog w) callerA (.call (.ref fa) ⟨[.ref a], []⟩) (fun r s' => r = .ok (.ret (.bool true)) ∧ OldK s₁.heap s'.heap ∧ s'.os = s₁.os ∧ AllBare s'.gens) s₁) :
    WalkO q loose XP YP l.row.toRowW d [] (fun f vs => PySem.call f vs) := by
  intro w s₀ s₁ mg mb G Y fa o pm cd doc dV kV ho hd hcd hD hmg hg args vals as hpre hlay hrd hwl hlo
  obtain rfl : dV = .none := Dflts.none hD hdf
  obtain rfl : kV = .none := Dflts.noKw hD
  obtain ⟨a, vs, ns, rfl, rfl, hobj, hints, hlen⟩ := script_of hn hpre hwl
  refine enter_call (codeAny_mono (call w s₀ s₁ mg mb fa o pm cd doc a vs ns G Y ho (fd_plain hd) hcd hmg hobj hints hlen hg) fun r s' hq => ?_)
  obtain ⟨rfl, h2, h3, h4⟩ := hq
  exact ⟨.inl ⟨.bool true, .bool true, [], rfl, fun _ => rfl, .bool true, post_true l _, fun _ => ⟨List.Pairwise.nil, fun _ hm => (nomatch hm)⟩⟩, h2, h3, h4⟩

/-! ### rules over ANY heap (no ledger) from facts about the written part K: the library's own take a ledger (News) for what they write -/
section
variable {prog : Program} {w : World} {A : Around} {E : Value → Shared → Prop} {s : Shared} {K : Frag}

/-! the whole heap as the ledger: makes every rule that writes through a ledger a rule over any heap -/
def noObjs (h : Heap) : Heap := { h with objs := #[] }
def ledger (h : Heap) (L d : Addr) : List (Addr × Obj) := (List.range h.objs.size).filterMap fun a => if a = L ∨ a = d then none else (h.get? a).map fun o => (a, o)
end
end Att

namespace L2
open PySem PySem.Spec PyProof.Rows

theorem vals_ints : ∀ {vs : List Value} {ns : List Int}, IntsAre vs ns → Vals (ns.map V.int) vs
  | _, _, .nil => .nil
  | _, _, .cons n t h => .cons ⟨t, rfl⟩ (vals_ints h)

/-- nothing is tracked but the script, known to the object (or it is an object of the module) -/
def Only (H : Hp) : Prop := ∀ b, H b = none ∨ ∃ o xs, H b = some (.frz o (.lst xs))

/-- THE HEAD: the law's promise, at the heap behind the top. F, the promise of the law's def, may use that base is part of the heap (so K.In base, base.Ns mainGlobals mg stand in Mod) -/
theorem law_call {P : Program} {w : World} {K : PySem.W.Frag} {mg mb : Str → Option Value} {CX : CXT} {k : Nat} {fa a : Addr} {fd : FuncData} {x : Str} {sp : Sp} {s₁ : Shared} {vs : List Value} {ns : List Int}
    (KX : K.In s₁.heap) (hns : s₁.heap.Ns mainGlobals mg) (hb : s₁.heap.Ns builtinsNs mb) (hbb : ∀ x : Str, x ≠ "__name__" → mb x = bootBuiltins x) (hlim : s₁.heap.NoLimit) (hg : s₁.gens = #[])
    (ha : s₁.heap.get? a = some { cls := .type "list", data := .seq vs.toArray }) (hi : IntsAre vs ns) (hl : ns.length ≤ sizeLine) (hr : Room k callerA)
    (F : ∀ base : Heap, K.In base → base.Ns mainGlobals mg → FnOk P w K mg base CX k fa fd [x] sp) (hbind : ∀ (s : Shared) (u : Value), BindsTo s fd ⟨[u], []⟩ [(x, u)])
    (hsp : ∀ H : Hp, Only H → SqL K H a (ns.map V.int) → sp [.ref a] H (fun v _ => v = .bl true) fun _ _ _ => False)
    (hCX : ∀ H e s', CX [] H s₁ (fun _ _ _ => False) e s' → False) :
    codeAny (model P w) callerA (.call (.ref fa) ⟨[.ref a], []⟩) (fun r s' => r = .ok (.ret (.bool true)) ∧ OldK s₁.heap s'.heap ∧ s'.os = s₁.os ∧ AllBare s'.gens) s₁ := by
  have rv := vals_ints hi
  have lenV := hi.length
  -- from an abstract heap in which nothing but the script may be tracked
  have core : ∀ H : Hp, Only H → SqL K H a (ns.map V.int) → HOk P w H s₁.heap → (∀ b, H b ≠ none → b = a) → (H a ≠ none → K.lookup a = none) →
      codeAny (model P w) callerA (.call (.ref fa) ⟨[.ref a], []⟩) (fun r s' => r = .ok (.ret (.bool true)) ∧ OldK s₁.heap s'.heap ∧ s'.os = s₁.os ∧ AllBare s'.gens) s₁ := by
    intro H hO hS hok hA hK
    have base_of : ∀ {b : Addr} {o : Obj}, s₁.heap.get? b = some o → H b = none → (hidT s₁.heap H).get? b = some o := fun e n => hidT_get e n
    have noA : ∀ {b : Addr} {o : Obj} {es : Array DictEntry} {ep : Nat}, s₁.heap.get? b = some o → o.data = .dict es ep → H b = none := fun {b o es ep} e d => by
      cases q : H b with
      | none => rfl
      | some u =>
        have e' : b = a := hA b (by rw [q]; simp)
        subst e'
        rw [ha] at e; cases e
        have d' : Data.seq vs.toArray _ = Data.dict es ep := d
        cases d'
    have nsK : ∀ {b : Addr} {m : Str → Option Value}, s₁.heap.Ns b m → (hidT s₁.heap H).Ns b m := fun {b m} ⟨o, es, ep, e, d, r⟩ => ⟨o, es, ep, base_of e (noA e d), d, r⟩
    have hKb : K.In (hidT s₁.heap H) := fun b o e => base_of (KX b o e) (by
      cases q : H b with
      | none => rfl
      | some u =>
        have e' : b = a := hA b (by rw [q]; simp)
        subst e'
        rw [hK (by rw [q]; simp)] at e; cases e)
    have hM : Mod K mg (hidT s₁.heap H) := ⟨hKb, nsK hns, ⟨mb, nsK hb, hbb⟩, let ⟨mc, h1, h2⟩ := hlim; ⟨mc, nsK h1, h2⟩⟩
    have e0 : Env0 P w K mg (hidT s₁.heap H) callerA [] s₁ H := ⟨rfl, hM, fun b o e => of_hidT e, Nat.le_of_eq (hidT_size _ _), trivial, fun b hb => absurd (show b ∈ ([] : List Addr) from hb) (by simp), hok, .of_eq hg⟩
    refine codeAny_mono ((F _ hKb (nsK hns)).run callerA [] s₁ H ⟨[.ref a], []⟩ [.ref a] [.ref a] _ _ hr e0 (hbind s₁ (.ref a)) (.cons rfl .nil) (hsp H hO hS)) fun r s' h => ?_
    cases r with
    | error e => exact (hCX H e s' h).elim
    | ok fl =>
      cases fl with
      | next => exact False.elim h
      | brk => exact False.elim h
      | cont => exact False.elim h
      | ret u =>
        obtain ⟨v, H', os, bare, un, hok', r', q⟩ := h
        have q' : v = .bl true := q
        subst q'
        obtain rfl : u = Value.bool true := r'
        refine ⟨rfl, OldK.of_keep fun b o e => ?_, os, bare⟩
        cases q : H b with
        | none => exact un.keep b o e q (by intro z; exact absurd (show b ∈ ([] : List Addr) from z) (by simp)) (by simp)
        | some u =>
          rcases hO b with z | ⟨ob, xs, z⟩
          · rw [q] at z; cases z
          · have z2 := un.frzs b ob _ z
            obtain ⟨e1, _⟩ := hok b _ z
            obtain ⟨e2, _⟩ := hok' b _ z2
            rw [e] at e1; cases e1
            exact e2
  cases hk : K.lookup a with
  | some o =>
    -- the script is one of the module's own objects
    have e := KX a o hk
    rw [ha] at e
    cases e
    refine core (fun _ => none) (fun _ => .inl rfl) (.inr ⟨_, vs.toArray, _, hk, rfl, rfl, rfl, by rw [List.size_toArray, lenV]; exact hl, by simpa using rv⟩) (fun b u z => by have z' : (none : Option HO) = some u := z; cases z') (fun b z => absurd rfl z) fun z => absurd rfl z
  | none =>
    refine core (fun b => if b = a then some (.frz { cls := .type "list", data := .seq vs.toArray } (.lst (ns.map V.int))) else none) (fun b => ?_) (.inl (.inr ⟨{ cls := .type "list", data := .seq vs.toArray }, if_pos rfl⟩)) (fun b u z => ?_) (fun b z => ?_) fun _ => hk
    · by_cases hb : b = a
      · exact .inr ⟨_, _, if_pos hb⟩
      · exact .inl (if_neg hb)
    · by_cases hb : b = a
      · have z' := (if_pos hb).symm.trans z
        cases z'
        subst hb
        exact ⟨ha, by rw [List.length_map]; exact hl, vs, _, rv, ha⟩
      · have z' := (if_neg hb).symm.trans z
        cases z'
    · by_cases hb : b = a
      · exact hb
      · exact absurd (if_neg hb) z
end L2

namespace L2
open PySem PySem.Spec PyProof.Rows

abbrev KOf {K : PySem.W.Frag} {h : Heap} (_ : K.In h) : PySem.W.Frag := K

/-- the goal that k_head leaves (case hc), from the law's promise. F gives the function object fd (K's own) once, then the promise over every base -/
theorem walk_of {l : PySem.W.OpenLaw} {n k : Nat} {q : Program} {loose : List Str} {XP : (Str → Option Value) → Heap → Prop} {YP : World → Heap → Prop} {d : DefRec} {K : Params → PySem.W.Frag} {CX : World → CXT} {sp : World → Sp} {x : Str}
    (hn : l.most = some n) (hn2 : n ≤ sizeLine) (hdf : d.params.defaults = []) (hr : Room k callerA)
    (hY : ∀ (w : World) (h : Heap), YP w h → (K w.params).In h)
    (F : ∀ (w : World) (mg : Str → Option Value) (fa : Addr) (h : Heap), (K w.params).In h → h.Ns mainGlobals mg → mg d.name = some (.ref fa) →
      ∃ fd : FuncData, (∀ (s : Shared) (u : Value), BindsTo s fd ⟨[u], []⟩ [(x, u)]) ∧
        ∀ base : Heap, (K w.params).In base → base.Ns mainGlobals mg → FnOk l.prog w (K w.params) mg base (CX w) k fa fd [x] (sp w))
    (hsp : ∀ (w : World) (H : Hp) (a : Addr) (ns : List Int), ns.length ≤ n → Only H → SqL (K w.params) H a (ns.map V.int) → sp w [.ref a] H (fun v _ => v = .bl true) fun _ _ _ => False)
    (hCX : ∀ (w : World) (H : Hp) (s : Shared) (e : Value) (s' : Shared), CX w [] H s (fun _ _ _ => False) e s' → False) :
    PySem.W.WalkO q loose XP YP l.row.toRowW d [] (fun f vs => PySem.call f vs) := by
  refine Att.attach_call hn hdf fun w s₀ s₁ mg mb fa o pm cd doc a vs ns G Y ho hd hcd hmg hobj hints hlen hg => ?_
  have KX := hY w _ Y
  obtain ⟨fd, hb, hF⟩ := F w mg fa _ KX G.T.g hmg
  exact law_call KX G.T.g G.T.b G.T.builtins G.T.nolimit hg hobj hints (Nat.le_trans hlen hn2) hr hF hb (fun H hO hS => hsp w H a ns hlen hO hS) fun H e s' => hCX w H s₁ e s'
end L2

/- THE LAST THEOREM (shape; LID, My.* are yours):
   My.Adr: a structure of the addresses that your layer names (classes, functions); My.Txt K t: a structure (Prop) of the equations over K;
   My.txt_mk : {K} {implicit addresses ..} (e1 : nsIn K mainGlobals "law" = some (some (.ref f))) (e2 : K.lookup f = some ⟨oc, od, .func (fnOf "law" "law" params body scope dV kV doc pm an cdv ct), sl⟩) (e3 : codeIn K cdv "law" = true) .. : ∃ t, My.Txt K t

set_option maxRecDepth 100000 in
set_option maxHeartbeats 0 in
theorem PySem.Challenge.cw_LID_holds : PySem.Challenge.rw_LID.Holds := by
  w_on; o_law; k_head; (case hw => w_witness2)
  k_fill
  refine L2.walk_of (l := PySem.Challenge.rw_LID) (n := 63) (k := 40) (x := "script") (CX := fun w => ..) (sp := fun _ => My.sp_law) rfl (by decide) rfl ⟨rfl, by decide, by decide⟩ (fun w h Y => PySem.W.kIn_of Y) ?F ?S ?C
  case F =>
    intro w mg fa h KX G hmg
    have T : ∃ t, My.Txt (L2.KOf KX) t := by
      dsimp only [L2.KOf]                          -- K must stand as «<heap const> w.params» for k_is
      refine' My.txt_mk ?e1 ?e2 ?e3 ..
      (case e1 => PySem.W.k_is)                    -- in the order: a name -> its address -> its object -> its parts
      (case e2 => PySem.W.k_is)
      ..
    obtain ⟨t, T⟩ := T
    have e0 := hmg.symm.trans (PySem.W.mg_of KX G T.law)
    cases e0                                       -- fa is the law's own address
    exact ⟨_, fun s u => .of_eq rfl, fun base kb nb => My.law_fn T kb nb⟩     -- if «.of_eq rfl» comes too early: refine' ⟨_, ?b, fun base kb nb => My.law_fn T kb nb⟩; exact fun s u => .of_eq rfl
  case S => exact fun w H a ns hl hO hS => ..
  case C => exact ..
(the tactic k_is has no namespace: write k_is) -/

/-! SHORT WORDS over the layer: a def of the text, its body, what a loop and a test want. -/
namespace L2
open PySem PySem.Spec PyProof.Rows

/-! ### the text by places -/
/-- the j-th statement of a class's body -/
def inClass (s : Stmt) (j : Nat) : Stmt := match s with
  | .ClassDef _ _ _ body _ _ _ _ _ _ _ => body.getD j (.Pass ⟨0, 0, 0, 0⟩)
  | _ => .Pass ⟨0, 0, 0, 0⟩
def defArgs (s : Stmt) : Arguments := match s with
  | .FunctionDef _ a _ _ _ _ _ _ _ _ => a
  | _ => { posonlyargs := [], args := [], vararg := none, kwonlyargs := [], kw_defaults := [], kwarg := none, defaults := [] }
def defBody (s : Stmt) : List Stmt := match s with
  | .FunctionDef _ _ b _ _ _ _ _ _ _ => b
  | _ => []
def defScope (s : Stmt) : Scope := match s with
  | .FunctionDef _ _ _ _ _ _ sc _ _ _ => sc
  | _ => { kind := .function, names := [], isGenerator := false, isCoroutine := false }

/-! ### no exception leaves a def -/
abbrev CX0 : CXT := fun _ _ _ _ _ _ => False
abbrev E0 : XK := fun _ _ _ => False
theorem pass0 {X : Cx} : Passes CX0 X E0 := fun _ _ _ _ _ _ _ h => h.elim

/-! ### a def (or method) of the text as it stands behind the top -/
structure Fun (K : PySem.W.Frag) (x qual : Str) (st : Stmt) (f : Addr) (fd : FuncData) : Prop where
  ex : ∃ (oc : Value) (od : Option Addr) (kV doc pm : Value) (an : Option Addr) (cdv ct : Value) (osl : Array (Option Value)),
    fd = PySem.W.fnOf x qual (defArgs st) (defBody st) (defScope st) .none kV doc pm an cdv ct ∧ K.lookup f = some ⟨oc, od, .func fd, osl⟩ ∧ PySem.W.codeIn K cdv qual = true
  kp : PySem.W.keepIn K (.ref f) = true
section
variable {P : Program} {w : World} {K : PySem.W.Frag} {mg : Str → Option Value} {base : Heap}
/-- THE RULE for a def: its body as a term of rules, and the reading of that term -/
theorem Fun.ok {x qual : Str} {st : Stmt} {f : Addr} {fd : FuncData} {N ps : List Str} {k : Nat} {sp : Sp} (F : Fun K x qual st f fd) (S : FnScope N ps (defScope st)) (len : ∀ vs H Q E, sp vs H Q E → vs.length = ps.length)
    (hbody : ∀ (cdv : Value) (A : Around) (outer : List Env) (s : Shared) (H : Hp) (vs : List V) (Q : VK) (E : XK), Room k (A.deeper (envOfC qual (defScope st) s.heap.objs.size f cdv)) → sp vs H Q E →
      ∃ t, PSs (cxOf CX0 P w K mg base N qual (defScope st) f cdv A outer s H E).nox (defBody st) t ∧ t { nx := fun _ H' => Q .non H', rt := Q } (start N vs) H) : FnOk P w K mg base CX0 (k + 1) f fd ps sp := by
  obtain ⟨oc, od, kV, doc, pm, an, cdv, ct, osl, rfl, lk, hcd⟩ := F.ex
  refine fn_of lk hcd S len fun A outer s H vs Q E hr hsp => ?_
  obtain ⟨t, h, q⟩ := hbody cdv A outer s H vs Q E hr hsp
  exact ⟨t, h.nox, q⟩
/-- how its arguments bind (no defaults): h is «fun _ _ _ _ _ _ us hl => match us, hl with | [_, _], _ => rfl», one _ a parameter -/
theorem Fun.binds {x qual : Str} {st : Stmt} {f : Addr} {fd : FuncData} {ps : List Str} (F : Fun K x qual st f fd)
    (h : ∀ (kV doc pm : Value) (an : Option Addr) (cdv ct : Value) (us : List Value), us.length = ps.length → bindArgs (PySem.W.fnOf x qual (defArgs st) (defBody st) (defScope st) .none kV doc pm an cdv ct) ⟨us, []⟩ = pure (ps.zip us)) : Binds K fd ps [] := by
  obtain ⟨oc, od, kV, doc, pm, an, cdv, ct, osl, rfl, lk, hcd⟩ := F.ex
  exact .all (h kV doc pm an cdv ct)
theorem fun_mk {x qual : Str} {st : Stmt} {f : Addr} {oc : Value} {od an : Option Addr} {osl : Array (Option Value)} {kV doc pm cdv ct : Value} (l : K.lookup f = some ⟨oc, od, .func (PySem.W.fnOf x qual (defArgs st) (defBody st) (defScope st) .none kV doc pm an cdv ct), osl⟩)
    (c : PySem.W.codeIn K cdv qual = true) (k : PySem.W.keepIn K (.ref f) = true) : Fun K x qual st f (PySem.W.fnOf x qual (defArgs st) (defBody st) (defScope st) .none kV doc pm an cdv ct) := ⟨⟨oc, od, kV, doc, pm, an, cdv, ct, osl, rfl, l, c⟩, k⟩
end
theorem small1000 {n : Nat} (h : n ≤ 1000) : n < sizeLine := Nat.lt_of_le_of_lt h (by decide)

/-! ### expressions in short: the name that stands in the i-th slot -/
section
variable {X : Cx}
theorem pv (i : Nat) {x : Str} {pos : Pos} (hN : X.N[i]? = some x := by rfl) (hv : Vis X.env.scope x := by first | exact Or.inl rfl | exact Or.inr (Or.inl rfl) | exact Or.inr (Or.inr rfl)) (hd : (x == ("__debug__" : Str)) = false := by decide)
    (hcd : (x == ("__classdict__" : Str)) = false := by decide) : PE X (.Name x pos) (tVar i) := pe_var hN hv hd hcd
end

/-! ### tests -/
theorem iteF {A B : Prop} (h : B) : if false = true then A else B := by
  rw [if_neg Bool.false_ne_true]
  exact h
theorem iteT {A B : Prop} (h : A) : if true = true then A else B := by
  rw [if_pos rfl]
  exact h
theorem ite2 {c A B : Prop} [Decidable c] (h1 : c → A) (h2 : ¬ c → B) : if c then A else B := by
  by_cases h : c
  · rw [if_pos h]
    exact h1 h
  · rw [if_neg h]
    exact h2 h
theorem iteNS {c A B : Prop} [Decidable c] (hc : c) (h : B) : if (!decide c) = true then A else B := by
  rw [decide_eq_true hc]
  exact iteF h

/-! ### heaps -/
/-- all that was tracked is as it was -/
def Same (H H' : Hp) : Prop := ∀ b o, H b = some o → H' b = some o
theorem Same.trans {H H1 H2 : Hp} (a : Same H H1) (b : Same H1 H2) : Same H H2 := fun c o h => b c o (a c o h)
theorem Same.free {H H' : Hp} (e : Same H H') {l : Addr} (h : H' l = Option.none) : H l = Option.none := by
  cases q : H l with
  | none => rfl
  | some o =>
    rw [e l o q] at h
    cases h
theorem Same.seq {K : PySem.W.Frag} {H H' : Hp} {a : Addr} {xs : List V} (e : Same H H') (h : SqL K H a xs) : SqL K H' a xs := by
  rcases h with (h | ⟨o, h⟩) | h
  · exact .inl (.inl (e _ _ h))
  · exact .inl (.inr ⟨o, e _ _ h⟩)
  · exact .inr h

end L2

set_option Elab.async false
set_option linter.all false
set_option maxRecDepth 100000
set_option maxHeartbeats 4000000
/-! COMPREHENSIONS over the hand layer: the block as a context of its own -/
namespace L2
open PySem PySem.Spec PyProof.Rows

section
variable {prog : Program} {w : World} {A : Around} {R : Result → Shared → Prop} {s : Shared}
theorem compLoop_any {elt target iter : Expr} {ifs : List Expr} {scope : Scope} {pos : Pos} {it acc : Value} {env : Env} (I : Nat → Shared → Prop)
    (turn : ∀ n s, I n s → wpAny (model prog w) A (pyNext it) (fun r s₁ => match r with
      | none => R (.ok .next) s₁
      | some v => wpAny (model prog w) A (letOwnedTupleGo target it v) (fun _ s₁' => wpAny (model prog w) A (assign target env v) (fun _ s₂ =>
          wpAny (model prog w) A (forIn ifs true fun c r => if r = true then do let ok ← isTrue c env (eval c env); pure (ForInStep.yield ok) else pure (ForInStep.yield r)) (fun ok s₃ =>
            if ok = true then wpAny (model prog w) A (eval elt env) (fun x s₄ =>
              wpAny (model prog w) A (call (.builtin "list.append") [acc, x]) (fun _ s₅ => ∃ m, m < n ∧ I m s₅) (notedBy (model prog w) A env fun e s' => R (.error e) s') s₄) (notedBy (model prog w) A env fun e s' => R (.error e) s') s₃
            else ∃ m, m < n ∧ I m s₃) (notedBy (model prog w) A env fun e s' => R (.error e) s') s₂) (notedBy (model prog w) A env fun e s' => R (.error e) s') s₁')
          (notedBy (model prog w) A env fun e s' => R (.error e) s') s₁) (notedBy (model prog w) A env fun e s' => R (.error e) s') s)
    (n : Nat) (h : I n s) : codeAny (model prog w) A (.compLoop (.ListComp elt [⟨target, iter, ifs, 0⟩] scope pos) 0 it acc env) R s := by
  refine codeAny_loop rfl I (fun n s hI => ?_) n h
  show wpAny _ A ((compTurn (.ListComp elt [⟨target, iter, ifs, 0⟩] scope pos) 0 it acc env).onRaise (fun x => do noteFrame x env; theTreesLotGoes x)) _ _ s
  refine wpAny_noted ?_
  rw [compTurn_list]
  refine wpAny_bind (wpAny_standAt (wpAny_bind (wpAny_mono (turn n s hI) (fun r s₁ h₁ => ?_) fun _ _ h' => h')))
  cases r with
  | none => exact wpAny_pure h₁
  | some v =>
    refine wpAny_bind (wpAny_mono h₁ (fun _ s₁' h₁' => ?_) fun _ _ h' => h')
    refine wpAny_bind (wpAny_mono h₁' (fun _ s₂ h₂ => wpAny_bind (wpAny_mono h₂ (fun ok s₃ h₃ => ?_) fun _ _ h' => h')) fun _ _ h' => h')
    cases ok with
    | false => exact wpAny_pure ⟨rfl, h₃⟩
    | true =>
      exact wpAny_bind (wpAny_bind (wpAny_mono h₃ (fun x s₄ h₄ => wpAny_bind (wpAny_mono h₄ (fun _ s₅ h₅ => wpAny_pure (wpAny_pure ⟨rfl, h₅⟩)) fun _ _ h' => h')) fun _ _ h' => h'))
end

/-! ### the cells that a block closes over -/
def closF (cells : List (Str × Addr)) : List (Str × NameKind) → List (Str × Addr) → List (Str × Addr)
  | [], acc => acc
  | (n, k) :: r, acc => closF cells r (if k == .free then (n, (cells.lookup n).getD 0) :: acc else acc)
theorem closureFor_eq {scope : Scope} {env : Env} (h : ∀ x ∈ scope.names, x.2 = .free → ∃ c, env.cells.lookup x.1 = some c) : closureFor scope env = pure (closF env.cells scope.names []) := by
  unfold closureFor
  have key : ∀ (l : List (Str × NameKind)) (acc : List (Str × Addr)), (∀ x ∈ l, x.2 = .free → ∃ c, env.cells.lookup x.1 = some c) →
      (forIn l acc (fun (x : Str × NameKind) (r : List (Str × Addr)) => (match x with
        | (name, kind) => if (kind == NameKind.free) = true then (do let c ← cellOf env name; pure (ForInStep.yield ((name, c) :: r))) else pure (ForInStep.yield r) : Sem (ForInStep (List (Str × Addr))))) : Sem (List (Str × Addr))) = pure (closF env.cells l acc) := by
    intro l
    induction l with
    | nil => intro acc _; rfl
    | cons x r ih =>
      intro acc hl
      obtain ⟨n, k⟩ := x
      rw [List.forIn_cons]
      by_cases hk : k = .free
      · subst hk
        obtain ⟨c, hc⟩ := hl (n, .free) List.mem_cons_self rfl
        have hc' : env.cells.lookup n = some c := hc
        have e1 : cellOf env n = pure c := by unfold cellOf; rw [hc']
        simp only [beq_self_eq_true, if_true, e1, pure_bind]
        rw [ih _ fun y hy => hl y (List.mem_cons_of_mem _ hy)]
        simp only [closF, beq_self_eq_true, if_true, hc', Option.getD_some]
      · have hb : (k == NameKind.free) = false := by simpa using hk
        simp only [hb, Bool.false_eq_true, if_false, pure_bind]
        rw [ih _ fun y hy => hl y (List.mem_cons_of_mem _ hy)]
        simp only [closF, hb, Bool.false_eq_true, if_false]
  have := key scope.names [] h
  simp only at this ⊢
  rw [this]
  rfl
theorem closF_mem {cells : List (Str × Addr)} {x : Str} {c : Addr} : ∀ {l : List (Str × NameKind)} {acc : List (Str × Addr)}, (∀ y ∈ l, y.2 = .free → ∃ c, cells.lookup y.1 = some c) → (x, c) ∈ closF cells l acc → (x, c) ∈ acc ∨ cells.lookup x = some c
  | [], _, _, h => .inl h
  | (n, k) :: r, acc, hl, h => by
    have hr : ∀ y ∈ r, y.2 = .free → ∃ c, cells.lookup y.1 = some c := fun y hy => hl y (List.mem_cons_of_mem _ hy)
    rcases closF_mem hr h with z | z
    · by_cases hk : k = .free
      · subst hk
        obtain ⟨c', hc⟩ := hl (n, .free) List.mem_cons_self rfl
        have hc' : cells.lookup n = some c' := hc
        simp only [beq_self_eq_true, if_true, hc', Option.getD_some] at z
        rcases List.mem_cons.mp z with e | e
        · injection e with e1 e2
          subst e1 e2
          exact .inr hc'
        · exact .inl e
      · have hb : (k == NameKind.free) = false := by simpa using hk
        simp only [hb, Bool.false_eq_true, if_false] at z
        exact .inl z
    · exact .inr z
theorem closF_sub {cells : List (Str × Addr)} {x : Str × Addr} : ∀ {l : List (Str × NameKind)} {acc : List (Str × Addr)}, x ∈ acc → x ∈ closF cells l acc
  | [], _, h => h
  | (n, k) :: r, acc, h => by
    unfold closF
    refine closF_sub ?_
    split
    · exact List.mem_cons_of_mem _ h
    · exact h
theorem closF_has {cells : List (Str × Addr)} {x : Str} {c : Addr} (hc : cells.lookup x = some c) : ∀ {l : List (Str × NameKind)} {acc : List (Str × Addr)}, (x, NameKind.free) ∈ l → (x, c) ∈ closF cells l acc
  | (n, k) :: r, acc, h => by
    unfold closF
    rcases List.mem_cons.mp h with e | e
    · injection e with e1 e2
      subst e1 e2
      refine closF_sub ?_
      simp only [beq_self_eq_true, if_true, hc, Option.getD_some]
      exact List.mem_cons_self
    · exact closF_has hc e
theorem lookup_of_mem {x : Str} {c : Addr} : ∀ {l : List (Str × Addr)}, (x, c) ∈ l → (∀ d, (x, d) ∈ l → d = c) → l.lookup x = some c
  | [], h, _ => by cases h
  | (n, d) :: r, h, u => by
    rw [List.lookup_cons]
    cases e : x == n with
    | true =>
      have e' : x = n := by simpa using e
      subst e'
      rw [u d List.mem_cons_self]
    | false =>
      rcases List.mem_cons.mp h with q | q
      · injection q with q1 q2
        subst q1
        simp at e
      · exact lookup_of_mem q fun d' hd => u d' (List.mem_cons_of_mem _ hd)

/-! ### a block's context -/
def Cx.block (X : Cx) (N : List Str) (scope : Scope) (C : Addr) (s : Shared) (H : Hp) (ex : List Addr) : Cx :=
  { X with N := N, s₀ := s, H₀ := H, env := compEnvC scope (closF X.env.cells scope.names []) C X.env, outer := X.stack, ex := ex, fn := fun _ => false, pn := [], xe := fun _ _ => False }
/-- NO, scO: the names and the scope around; N, sc: the block's; cap: where a name of the block is taken from -/
structure BlockOk (NO : List Str) (scO : Scope) (N : List Str) (sc : Scope) (cap : List (Option Nat)) : Prop where
  kind : sc.kind = .function
  nocell : ∀ y ∈ sc.names, y.2 ≠ .cell
  loc : ∀ y ∈ sc.names, y.2 = .local → sc.names.lookup y.1 = some .local
  free : ∀ y ∈ sc.names, y.2 = .free → scO.names.lookup y.1 = some .cell ∨ scO.names.lookup y.1 = some .free
  len : cap.length = N.length
  cap : (cap.zip N).all (fun p => match p.1 with | Option.none => true | some i => decide (NO[i]? = some p.2) && decide (sc.names.lookup p.2 = some .free)) = true
def blockOk (NO : List Str) (scO : Scope) (N : List Str) (sc : Scope) (cap : List (Option Nat)) : Bool :=
  decide (sc.kind = .function) && sc.names.all (fun y => decide (y.2 ≠ .cell)) && sc.names.all (fun y => !decide (y.2 = .local) || decide (sc.names.lookup y.1 = some .local)) &&
  sc.names.all (fun y => !decide (y.2 = .free) || (decide (scO.names.lookup y.1 = some .cell) || decide (scO.names.lookup y.1 = some .free))) && decide (cap.length = N.length) &&
  (cap.zip N).all (fun p => match p.1 with | Option.none => true | some i => decide (NO[i]? = some p.2) && decide (sc.names.lookup p.2 = some .free))
theorem BlockOk.of {NO : List Str} {scO : Scope} {N : List Str} {sc : Scope} {cap : List (Option Nat)} (h : blockOk NO scO N sc cap = true) : BlockOk NO scO N sc cap := by
  unfold blockOk at h
  simp only [Bool.and_eq_true] at h
  obtain ⟨⟨⟨⟨⟨h1, h2⟩, h3⟩, h4⟩, h5⟩, h6⟩ := h
  refine ⟨of_decide_eq_true h1, fun y hy => of_decide_eq_true (List.all_eq_true.mp h2 y hy), fun y hy hk => ?_, fun y hy hk => ?_, of_decide_eq_true h5, h6⟩
  · have := List.all_eq_true.mp h3 y hy
    rw [decide_eq_true hk] at this
    exact of_decide_eq_true (by simpa using this)
  · have := List.all_eq_true.mp h4 y hy
    rw [decide_eq_true hk] at this
    simpa using this
def capSt (cap : List (Option Nat)) (σ : St) : St := cap.map fun o => o.bind fun i => (σ[i]?).bind id

theorem mem_relabel {sc : Scope} {env : Env} {x : Str} {r : NameKind} (h : (relabel sc env).names.lookup x = some r) : ∃ k, (x, k) ∈ sc.names ∧ (r = k ∨ (k = .free ∧ r = .cell)) := by
  have m := PySem.mem_of_lookup h
  obtain ⟨⟨n, k⟩, hm, e⟩ := List.mem_map.mp m
  dsimp only at e
  split at e
  · rename_i hc
    injection e with e1 e2
    subst e1
    refine ⟨k, hm, .inr ⟨?_, e2.symm⟩⟩
    simp only [Bool.and_eq_true, beq_iff_eq] at hc
    exact hc.1.1
  · injection e with e1 e2
    subst e1 e2
    exact ⟨k, hm, .inl rfl⟩

section
variable {X : Cx} {pins : List (Addr × Obj)} {σ : St} {H : Hp} {s : Shared} {N : List Str} {sc : Scope} {cap : List (Option Nat)}

theorem BlockOk.cells (B : BlockOk X.N X.env.scope N sc cap) (ok : X.Ok) : ∀ x ∈ sc.names, x.2 = .free → ∃ c, X.env.cells.lookup x.1 = some c := fun x hx hk => ok.has x.1 (B.free x hx hk)
theorem BlockOk.back (B : BlockOk X.N X.env.scope N sc cap) (ok : X.Ok) {x : Str} {c : Addr} (h : (closF X.env.cells sc.names []).lookup x = some c) : X.env.cells.lookup x = some c :=
  (closF_mem (B.cells ok) (PySem.mem_of_lookup h)).elim (fun z => by cases z) id
theorem BlockOk.on (B : BlockOk X.N X.env.scope N sc cap) (ok : X.Ok) {x : Str} {c : Addr} (hx : (x, NameKind.free) ∈ sc.names) (h : X.env.cells.lookup x = some c) : (closF X.env.cells sc.names []).lookup x = some c :=
  lookup_of_mem (closF_has h hx) fun d hd => by
    have := (closF_mem (B.cells ok) hd).elim (fun z => by cases z) id
    rw [h] at this
    exact (Option.some.inj this).symm

theorem block_start {fp : List Addr} {h₁ : Heap} {t' : Nat} {D C : Addr} (I : Inv X pins σ H s) (B : BlockOk X.N X.env.scope N sc cap) (hf : ∀ b ∈ fp, FpOk X pins H b ∧ b < s.heap.objs.size)
    (hD : D = s.heap.objs.size) (hC : C = s.heap.objs.size + 1) (k : ∀ b o, s.heap.get? b = some o → h₁.get? b = some o)
    (hl : h₁.get? D = some { cls := .type "list", data := .seq ([] : List Value).toArray }) (hn : ∃ m, h₁.Ns C m) :
    Inv (X.block N sc C s H fp) [] (capSt cap σ) (upd H D (.lst [])) { s with heap := h₁, toks := t' } := by
  subst hD
  have hfr : H s.heap.objs.size = none := I.hok.fresh (Nat.le_refl _)
  have hfC : H C = none := I.hok.fresh (by rw [hC]; exact Nat.le_succ _)
  have neD : ∀ b o, s.heap.get? b = some o → b ≠ s.heap.objs.size := fun b o e => Nat.ne_of_lt (Heap.lt_size e)
  have cellA : ∀ x c, (closF X.env.cells sc.names []).lookup x = some c → X.env.cells.lookup x = some c := fun x c e => B.back I.ok e
  refine ⟨⟨I.ok.mod, B.kind, I.ok.glob, I.ok.blt, ?_, ?_, ?_, ?_, I.ok.hd, I.ok.frames, .inl rfl, ?_, I.bs, Nat.le_trans I.ok.bsz I.sz, ?_, ?_, I.stack, I.stkFree⟩, rfl, I.bare, Un.laid k (Nat.le_refl _) hfr, ?_, ?_, ?_, ?_, ?_, ?_, ?_⟩
  · show s.heap.objs.size ≤ C
    rw [hC]; exact Nat.le_succ _
  · intro x y c h1 h2
    exact I.ok.inj x y c (cellA x c h1) (cellA y c h2)
  · intro x hx
    have hx' : (relabel sc X.env).names.lookup x = some .cell ∨ (relabel sc X.env).names.lookup x = some .free := hx
    have hm : (x, NameKind.free) ∈ sc.names := by
      rcases hx' with q | q
      · obtain ⟨k, hk, e | ⟨e, _⟩⟩ := mem_relabel q
        · subst e; exact absurd rfl (B.nocell _ hk)
        · subst e; exact hk
      · obtain ⟨k, hk, e | ⟨e, _⟩⟩ := mem_relabel q
        · subst e; exact hk
        · subst e; exact hk
    obtain ⟨c, hc⟩ := B.cells I.ok _ hm rfl
    exact ⟨c, B.on I.ok hm hc⟩
  · intro x c h
    exact absurd (show false = true from h) (by decide)
  · intro b hb
    have f := hf b hb
    refine ⟨?_, fun x c e => f.1.2.2.2.2.1 x c (cellA x c e)⟩
    show b ≠ C
    rw [hC]; exact Nat.ne_of_lt (Nat.lt_succ_of_lt f.2)
  · intro b o e hb
    have f := (hf b hb).1
    rcases f.2.2.2.1 with z | z
    · exact I.ok.noex b o e z
    · exact absurd (Nat.lt_of_lt_of_le (Heap.lt_size e) (Nat.le_trans I.ok.bsz z)) (Nat.lt_irrefl _)
  · intro b hb z
    have f := (hf b hb).1
    rcases List.mem_cons.mp (I.stkSub b z) with e | e
    · exact f.2.1 e
    · exact f.2.2.1 e
  · obtain ⟨m, hm⟩ := hn
    refine ⟨m, hm, fun j x v e1 e2 e3 => ?_⟩
    have e1 : N[j]? = some x := e1
    have e3 : Vis (relabel sc X.env) x := e3
    unfold capSt at e2
    rw [List.getElem?_map] at e2
    cases hc : cap[j]? with
    | none => rw [hc] at e2; cases e2
    | some o =>
      rw [hc] at e2
      cases o with
      | none => cases e2
      | some i =>
        have e2 : (σ[i]?).bind id = some v := Option.some.inj e2
        have hv : σ[i]? = some (some v) := by
          cases q : σ[i]? with
          | none => rw [q] at e2; cases e2
          | some w' => rw [q] at e2; exact congrArg some e2
        have hz : (some i, x) ∈ cap.zip N := by
          refine List.mem_of_getElem? (i := j) ?_
          rw [List.getElem?_zip_eq_some]
          exact ⟨hc, e1⟩
        have hcap := List.all_eq_true.mp B.cap _ hz
        simp only [Bool.and_eq_true, decide_eq_true_eq] at hcap
        obtain ⟨hN, hlk⟩ := hcap
        have hmem := PySem.mem_of_lookup hlk
        have hkO := B.free _ hmem rfl
        obtain ⟨m0, hn0, hl0⟩ := I.loc
        obtain ⟨u, ru, lk⟩ := hl0 i x v hN hv (.inr hkO)
        refine ⟨u, ru, .inr ⟨?_, ?_⟩⟩
        · show (relabel sc X.env).names.lookup x = some .cell ∨ (relabel sc X.env).names.lookup x = some .free
          rcases e3 with q | q
          · obtain ⟨k', hk', e | ⟨_, e⟩⟩ := mem_relabel q
            · subst e
              have := B.loc _ hk' rfl
              rw [hlk] at this
              cases this
            · cases e
          · exact q
        · rcases lk with ⟨q, _⟩ | ⟨_, c, hcc, ⟨oc, hoc, hod⟩⟩
          · have q' : X.env.scope.names.lookup x = some .local := q
            rcases hkO with z | z <;> (rw [q'] at z; cases z)
          · exact ⟨c, B.on I.ok hmem hcc, oc, k _ _ hoc, hod⟩
  · intro x c e
    obtain ⟨v, o, ho, hd⟩ := I.cell x c (cellA x c e)
    exact ⟨v, o, k _ _ ho, hd⟩
  · show upd H s.heap.objs.size (.lst []) C = none
    rw [upd_ne (by rw [hC]; exact Nat.succ_ne_self _)]
    exact hfC
  · intro x c e
    obtain ⟨v, o, ho, hd⟩ := I.cell x c (cellA x c e)
    rw [upd_ne (neD c o ho)]
    exact I.freeC x c (cellA x c e)
  · intro p hp
    exact absurd (show p ∈ ([] : List (Addr × Obj)) ++ [] from hp) (by simp)
  · exact I.hok.laid k (Nat.le_refl _) ⟨Nat.zero_le _, [], 0, .nil, hl⟩
  · show (capSt cap σ).length = N.length
    unfold capSt
    rw [List.length_map]
    exact B.len
end
end L2

set_option Elab.async false
set_option linter.all false
set_option maxRecDepth 100000
set_option maxHeartbeats 4000000
namespace L2
open PySem PySem.Spec PyProof.Rows

/-- the tests of a clause -/
def PTs (X : Cx) (ifs : List Expr) (t : TT) : Prop :=
  ∀ (pins : List (Addr × Obj)) (s : Shared) (σ : St) (H : Hp) (Q : Bool → Hp → Prop), Inv X pins σ H s → t σ H Q →
    wpAny (model X.prog X.w) X.A (forIn ifs true fun c r => if r = true then do let ok ← isTrue c X.env (eval c X.env); pure (ForInStep.yield ok) else pure (ForInStep.yield r)) (TP X pins σ Q) X.xe s
def tYes : TT := fun _ H Q => Q true H
theorem pts_nil {X : Cx} : PTs X [] tYes := fun _ _ _ H _ I h => wpAny_tests_nil ⟨H, I, h⟩
/-- the reading of a comprehension: W the invariant over the turn, a measure, what was gathered, the block's names, the heap -/
def CompW (J : It) (g : TG) (tc : TT) (te : TE) (τ0 : St) (H1 : Hp) (Q : VK) (D : Addr) : Prop :=
  ∃ W : Nat → Nat → List V → St → Hp → Prop, (∃ m, W 0 m [] τ0 (upd H1 D (.lst []))) ∧ ∀ i m ys τ H2, W i m ys τ H2 →
    H2 D = some (.lst ys) ∧ ((J.stop i H2 ∧ Q (.ref D) H2) ∨ (J.go i H2 ∧ ys.length < sizeLine ∧ ∃ M : List V → St → Hp → Prop, (∀ zs τ' H', M zs τ' H' → ∃ m', m' < m ∧ W (i + 1) m' zs τ' H') ∧
      ∀ x H3, J.yld i H2 x H3 → g x τ H3 fun τ' H4 => tc τ' H4 fun c H5 => if c = true then te τ' H5 fun y H6 => H6 D = some (.lst ys) ∧ M (ys ++ [y]) τ' (upd H6 D (.lst (ys ++ [y]))) else M ys τ' H5))
def tComp (wi : TI) (g : TG) (tc : TT) (te : TE) (st : St → St) : TE := fun σ H Q => wi σ H fun J H1 => ∀ D, H1 D = none → CompW J g tc te (st σ) H1 Q D

section
variable {X : Cx} {pins : List (Addr × Obj)} {σ : St} {s : Shared} {N : List Str} {sc : Scope} {cap : List (Option Nat)} {elt tg iter : Expr} {ifs : List Expr} {pos : Pos} {wi : TI} {g : TG} {tc : TT} {te : TE}

/-- what a comprehension leaves -/
structure CompEnd (X : Cx) (pins : List (Addr × Obj)) (σ : St) (Q : VK) (D C : Addr) (s' : Shared) : Prop where
  ex : ∃ H', Inv X pins σ H' s' ∧ FpOk X pins H' C ∧ (∃ m, s'.heap.Ns C m) ∧ Q (.ref D) H'

theorem comp_block {J : It} {H : Hp} {it : Addr} {fp : List Addr} {tn : Nat → Heap → Prop} {Q : VK} {RR : Value → Addr → Result → Shared → Prop} (hc : X.calm = true) (B : BlockOk X.N X.env.scope N sc cap)
    (hg : ∀ C s H ex, PG (X.block N sc C s H ex) tg g) (ht : ∀ C s H ex, PTs (X.block N sc C s H ex) ifs tc) (he : ∀ C s H ex, PE (X.block N sc C s H ex) elt te)
    (I : Inv X pins σ H s) (T : Turn X.prog X.w X.K tg J fp it tn) (h0 : tn 0 s.heap) (hf : ∀ b ∈ fp, FpOk X pins H b)
    (h : ∀ D, H D = none → CompW J g tc te (capSt cap σ) H Q D)
    (hRR : ∀ D C s', CompEnd X pins σ Q D C s' → RR (.ref D) C (.ok .next) s') :
    wpAny (model X.prog X.w) X.A (newList []) (fun acc s₃ => wpAny (model X.prog X.w) X.A (newFunctionEnv sc X.env.globals (closF X.env.cells sc.names []) [] X.env.qual none .none (some X.env)) (fun cenv s₄ =>
      codeAny (model X.prog X.w) X.A (.compStart (.ListComp elt [⟨tg, iter, ifs, 0⟩] sc pos) 0 (.ref it) acc { cenv with scope := relabel sc X.env }) (RR acc cenv.locals) s₄) X.xe s₃) X.xe s := by
  refine wpAny_newObj_type (wpAny_newFunctionEnv B.nocell (by intro y hy; simp at hy) (fun h₁ hns₁ hsb₁ => ?_) B.kind)
  dsimp only at hns₁ hsb₁ ⊢
  generalize hH2 : s.heap.push { cls := .type "list", dict := none, data := .seq ([] : List Value).toArray } = H2 at hns₁ hsb₁ ⊢
  have hC : H2.objs.size = s.heap.objs.size + 1 := by rw [← hH2, Heap.size_push]
  have hDC : s.heap.objs.size ≠ H2.objs.size := by rw [hC]; exact Nat.ne_of_lt (Nat.lt_succ_self _)
  have lo : ∀ b o, s.heap.get? b = some o → h₁.get? b = some o := fun b o e =>
    hsb₁.extBut b o (by rw [hC]; exact Nat.ne_of_lt (Nat.lt_succ_of_lt (Heap.lt_size e))) (Heap.get?_push_of_some _ (hH2 ▸ Heap.get?_push_of_some _ e))
  have hacc : h₁.get? s.heap.objs.size = some { cls := .type "list", data := .seq ([] : List Value).toArray } := hsb₁.extBut _ _ hDC (Heap.get?_push_of_some _ (hH2 ▸ Heap.get?_push_size _ rfl))
  have hfs : ∀ b ∈ fp, FpOk X pins H b ∧ b < s.heap.objs.size := fun b hb => by
    obtain ⟨o, e, _⟩ := T.obj 0 _ h0 b hb
    exact ⟨hf b hb, Heap.lt_size e⟩
  obtain ⟨W, ⟨m0, w0⟩, turn⟩ := h s.heap.objs.size (I.hok.fresh (Nat.le_refl _))
  generalize hCg : H2.objs.size = C at hns₁ hsb₁ hC hDC ⊢
  have I0 := block_start (t' := s.toks + ([] : List (Str × Value)).length) I B hfs rfl hC lo hacc ⟨_, hns₁⟩
  have h01 : tn 0 h₁ := T.keep 0 _ _ h0 fun b _ o e => lo b o e
  have cne : ∀ x c, (closF X.env.cells sc.names []).lookup x = some c → X.env.cells.lookup x = some c := fun x c e => B.back I.ok e
  -- the iterator's objects within the block
  have stat : ∀ {H' : Hp}, (∀ b ∈ fp, H' b = none) → ∀ b ∈ fp, FpOk (X.block N sc C s H fp) [] H' b := fun {H'} hn b hb => by
    obtain ⟨f, lt⟩ := hfs b hb
    refine ⟨hn b hb, ?_, fun z => ?_, .inl hb, fun x c e => f.2.2.2.2.1 x c (cne x c e), fun p hp => absurd (show p ∈ ([] : List (Addr × Obj)) ++ [] from hp) (by simp)⟩
    · show b ≠ C
      rw [hC]; exact Nat.ne_of_lt (Nat.lt_succ_of_lt lt)
    · rcases List.mem_cons.mp (I.stkSub b z) with e | e
      · exact f.2.1 e
      · exact f.2.2.1 e
  have fin : ∀ {τ : St} {H' : Hp} {s' : Shared}, Inv (X.block N sc C s H fp) [] τ H' s' → Q (.ref s.heap.objs.size) H' → CompEnd X pins σ Q s.heap.objs.size C s' := fun {τ H' s'} J' q => by
    have hch : ∀ b ∈ fp, (b ∈ X.ex ∨ X.s₀.heap.objs.size ≤ b) ∧ b ≠ X.env.locals ∧ (∀ x c, X.env.cells.lookup x = some c → c ≠ b) ∧ ∀ p ∈ X.pn ++ pins, p.1 ≠ b := fun b hb =>
      let f := hf b hb; ⟨f.2.2.2.1, f.2.1, f.2.2.2.2.1, f.2.2.2.2.2⟩
    refine ⟨H', I.call' (ch := fp) J'.os J'.base J'.hok J'.bare hch, I.fpOk (by rw [hC]; exact Nat.le_succ _) J'.free, ?_, q⟩
    obtain ⟨m, hn, _⟩ := J'.loc
    exact ⟨m, hn⟩
  have loop : ∀ s₃ : Shared, s₃ = { s with heap := h₁, toks := s.toks + ([] : List (Str × Value)).length } →
      codeAny (model X.prog X.w) X.A (.compLoop (.ListComp elt [⟨tg, iter, ifs, 0⟩] sc pos) 0 (.ref it) (.ref s.heap.objs.size) (X.block N sc C s H fp).env) (RR (.ref s.heap.objs.size) C) s₃ := by
    rintro s₃ rfl
    refine compLoop_any (fun n s' => ∃ i ys τ H', Inv (X.block N sc C s H fp) [] τ H' s' ∧ tn i s'.heap ∧ (∀ b ∈ fp, H' b = none) ∧ W i n ys τ H') ?_ m0 ⟨0, [], _, _, I0, h01, fun b hb => ?_, w0⟩
    · rintro n s3 ⟨i, ys, τ, H3, I3, st3, fr3, w3⟩
      obtain ⟨hD3, stop | ⟨go, hlt, M, hM, step⟩⟩ := turn i n ys τ H3 w3
      · refine thn (T.done (X.block N sc C s H fp) rfl rfl rfl hc i [] s3 τ H3 _ I3 (stat fr3) st3 stop.1) fun r s4 ⟨hr, I4⟩ => ?_
        subst hr
        exact hRR _ _ _ (fin I4 stop.2)
      · refine thn (T.item (X.block N sc C s H fp) rfl rfl rfl hc i [] s3 τ H3 _ I3 (stat fr3) st3 go) fun r s4 ⟨u, hr, h4⟩ => ?_
        subst hr
        refine thn h4 fun _ s5 ⟨x, H5, I5, r5, y5, st5, fr5⟩ => ?_
        have I5' := I5.pinned (stat fr5) (T.obj _ _ st5)
        refine wpAny_mono (hg C s H fp _ s5 τ H5 x u _ I5' r5 (step x H5 y5)) (fun _ s6 ⟨τ6, H6, I6, q6⟩ => ?_) (fun _ _ z => False.elim z)
        refine wpAny_mono (ht C s H fp _ s6 τ6 H6 _ I6 q6) (fun ok s7 ⟨H7, I7, q7⟩ => ?_) (fun _ _ z => False.elim z)
        have again : ∀ {τ8 : St} {H8 : Hp} {s8 : Shared} {zs : List V}, Inv (X.block N sc C s H fp) ([] ++ pinsAt fp s5.heap) τ8 H8 s8 → M zs τ8 H8 →
            ∃ m, m < n ∧ ∃ i ys τ H', Inv (X.block N sc C s H fp) [] τ H' s8 ∧ tn i s8.heap ∧ (∀ b ∈ fp, H' b = none) ∧ W i m ys τ H' := fun {τ8 H8 s8 zs} I8 w8' => by
          obtain ⟨m', hm, w8⟩ := hM zs τ8 H8 w8'
          refine ⟨m', hm, i + 1, zs, τ8, H8, I8.unpinned, T.keep _ _ _ st5 fun b hb o e => (I8.pin (b, o) (List.mem_append_right _ (List.mem_append_right _ (mem_pinsAt hb e)))).1, fun b hb => ?_, w8⟩
          obtain ⟨o, e, d⟩ := T.obj _ _ st5 b hb
          exact (I8.pin (b, o) (List.mem_append_right _ (List.mem_append_right _ (mem_pinsAt hb e)))).2.1
        cases ok with
        | false => exact again I7 q7
        | true =>
          refine wpAny_mono (he C s H fp _ s7 τ6 H7 _ I7 q7) (fun v s8 ⟨y, H8, I8, r8, hD8, q8⟩ => ?_) (fun _ _ z => False.elim z)
          refine wpAny_mono (mt_append (X := X.block N sc C s H fp) _ s8 τ6 H8 (.ref s.heap.objs.size) [y] (.ref s.heap.objs.size) [v] (fun _ H9 => M (ys ++ [y]) τ6 H9) I8 rfl (.cons r8 .nil) ⟨_, ys, y, rfl, rfl, hD8, hlt, q8⟩) (fun _ s9 ⟨_, H9, I9, _, q9⟩ => again I9 q9) (fun _ _ z => False.elim z)
    · have hne : b ≠ s.heap.objs.size := Nat.ne_of_lt (hfs b hb).2
      rw [upd_ne hne]
      exact (hf b hb).1
  exact codeAny_compStart_list (loop _ rfl) (T.self X.A 0 _ _ _ h01 (loop _ rfl))

/-- a comprehension as a value -/
theorem pe_comp (hc : X.calm = true) (B : BlockOk X.N X.env.scope N sc cap) (hi : PI X tg iter wi)
    (hg : ∀ C s H ex, PG (X.block N sc C s H ex) tg g) (ht : ∀ C s H ex, PTs (X.block N sc C s H ex) ifs tc) (he : ∀ C s H ex, PE (X.block N sc C s H ex) elt te)
    (hs : ∀ x, foldedSetIterable iter X.env x = pure x := by intro _; rfl) : PE X (.ListComp elt [⟨tg, iter, ifs, 0⟩] sc pos) (tComp wi g tc te (capSt cap)) := by
  intro pins s σ H Q I h
  rw [eval_ListComp]
  refine wpAny_comprehension_free (use := none) rfl hs (closureFor_eq (B.cells I.ok)) B.kind B.loc (thn (hi pins s σ H _ I h) fun xv s₁ h₁ => thn h₁ fun itv s₂ h₂ => ?_)
  obtain ⟨it, fp, tn, J, H2, e, I2, T, st2, f2, h2⟩ := h₂
  subst e
  refine comp_block (RR := fun acc C => compPost (model X.prog X.w) X.A X.xe none (EP X pins σ Q) acc C) hc B hg ht he I2 T st2 f2 h2 fun D C s' q => ?_
  obtain ⟨H', I', fC, ⟨m, hn⟩, q⟩ := q.ex
  refine ⟨m, hn, fun h' sb => ⟨.ref D, H', ?_, rfl, q⟩⟩
  exact I'.turned (t' := s'.toks) (fun b o hb e => (sb.2 b hb).trans e) fC.1 fC.2.1 fC.2.2.2.1 fC.2.2.2.2.1 fC.2.2.2.2.2

/-- name = comprehension, where the store comes ahead of the block's leaving -/
theorem ps_setC {i : Nat} {y : Str} {py spos : Pos} (hN : X.N.Nodup) (hiN : X.N[i]? = some y) (hx : Loc X.env.scope y) (hc : X.calm = true) (B : BlockOk X.N X.env.scope N sc cap) (hi : PI X tg iter wi)
    (hg : ∀ C s H ex, PG (X.block N sc C s H ex) tg g) (ht : ∀ C s H ex, PTs (X.block N sc C s H ex) ifs tc) (he : ∀ C s H ex, PE (X.block N sc C s H ex) elt te)
    (hsw : swapsWith (.ListComp elt [⟨tg, iter, ifs, 0⟩] sc pos) (some (.Name y py)) spos.line X.env = pure true := by rfl)
    (hs : ∀ x, foldedSetIterable iter X.env x = pure x := by intro _; rfl) (hfn : X.fn y = true ∨ X.env.scope.names.lookup y = some .local := by first | exact .inl rfl | exact .inr rfl | assumption) :
    PS X (.Assign [.Name y py] (.ListComp elt [⟨tg, iter, ifs, 0⟩] sc pos) spos) (tAsg (tComp wi g tc te (capSt cap)) (gName i)) := by
  intro pins s σ H Dn I h
  rw [exec_Assign_Name_used _ _ _ _ hsw]
  refine wpAny_bind (wpAny_standAt (wpAny_bind ?_))
  show wpAny _ X.A (do let _ ← comprehension (.ListComp elt [⟨tg, iter, ifs, 0⟩] sc pos) sc X.env _ (newList []) false (eval iter X.env) (some (assign (.Name y py) X.env))) _ _ s
  refine wpAny_bind (wpAny_mono (wpAny_comprehension_free (use := some (assign (.Name y py) X.env)) (Q := fun _ s' => SP X pins Dn .next s') rfl hs (closureFor_eq (B.cells I.ok)) B.kind B.loc
    (thn (hi pins s σ H _ I h) fun xv s₁ h₁ => thn h₁ fun itv s₂ h₂ => ?_)) (fun _ s' hq => wpAny_pure (wpAny_pure hq)) fun _ _ e => e)
  obtain ⟨it, fp, tn, J, H2, e, I2, T, st2, f2, h2⟩ := h₂
  subst e
  refine comp_block (Q := fun x H1 => gName i x σ H1 Dn.nx) (RR := fun acc C => compPost (model X.prog X.w) X.A X.xe (some (assign (.Name y py) X.env)) (fun _ s' => SP X pins Dn .next s') acc C) hc B hg ht he I2 T st2 f2 h2 fun D C s' q => ?_
  obtain ⟨H', I', fC, ⟨m, hn⟩, q⟩ := q.ex
  show wpAny _ X.A (assign (.Name y py) X.env (.ref D)) _ _ _
  refine wpAny_assign_Name (store_ok2 I' hN hiN hx (v := .ref D) rfl (fun s'' I'' ⟨a, sb, ha⟩ => ?_) hfn)
  have hCa : C ≠ a := by
    rcases ha with ha | ha
    · rw [ha]; exact fC.2.1
    · exact fun z => fC.2.2.2.2.1 y a ha z.symm
  refine ⟨m, hn.sameBut sb hCa, fun h' sb' => ⟨_, H', ?_, q⟩⟩
  exact I''.turned (t' := s''.toks) (fun b o hb e => (sb'.2 b hb).trans e) fC.1 fC.2.1 fC.2.2.2.1 fC.2.2.2.2.1 fC.2.2.2.2.2
end

/-! ### the forms one uses: n turns, an invariant over the turn, what was gathered, the block's names, the heap -/
theorem comp_by {J : It} {g : TG} {tc : TT} {te : TE} {τ0 : St} {H1 : Hp} {Q : VK} {D : Addr} (n : Nat) (hn : n ≤ sizeLine) (Pv : Nat → List V → St → Hp → Prop) (h0 : Pv 0 [] τ0 (upd H1 D (.lst [])))
    (hD : ∀ i ys τ H, Pv i ys τ H → H D = some (.lst ys) ∧ ys.length ≤ i)
    (hs : ∀ i ys τ H, i < n → Pv i ys τ H → J.go i H ∧ ∀ x H3, J.yld i H x H3 → g x τ H3 fun τ' H4 => tc τ' H4 fun c H5 => if c = true then te τ' H5 fun y H6 => H6 D = some (.lst ys) ∧ Pv (i + 1) (ys ++ [y]) τ' (upd H6 D (.lst (ys ++ [y]))) else Pv (i + 1) ys τ' H5)
    (he : ∀ ys τ H, Pv n ys τ H → J.stop n H ∧ Q (.ref D) H) : CompW J g tc te τ0 H1 Q D := by
  refine ⟨fun i m ys τ H => m = n - i ∧ i ≤ n ∧ Pv i ys τ H, ⟨n, rfl, Nat.zero_le _, h0⟩, ?_⟩
  rintro i m ys τ H ⟨rfl, hi, p⟩
  obtain ⟨hd, hl⟩ := hD i ys τ H p
  refine ⟨hd, ?_⟩
  by_cases hlt : i < n
  · obtain ⟨go, st⟩ := hs i ys τ H hlt p
    exact .inr ⟨go, by omega, Pv (i + 1), fun zs τ' H' q => ⟨n - (i + 1), by omega, rfl, hlt, q⟩, st⟩
  · have e : i = n := by omega
    subst e
    exact .inl (he ys τ H p)
end L2

set_option Elab.async false
set_option linter.all false
set_option maxRecDepth 100000
set_option maxHeartbeats 4000000
/-! What stands in place 2 of a record (an exception's context) stays there while the exception leaves a frame or lands in one:
every step on that way writes places 1 and 3 alone. Told once for all steps (Mild), then laid beside what the library tells of them. -/
namespace L2
open PySem
/-- at e stands a record whose place 2 holds v -/
def Two (e : Addr) (v : Value) (h : Heap) : Prop := ∃ o vs, h.get? e = some o ∧ o.data = .fields vs ∧ vs[2]? = some v
theorem Two.at {e : Addr} {v : Value} {h : Heap} {o : Obj} {vs : Array Value} (t : Two e v h) (he : h.get? e = some o) (hd : o.data = .fields vs) : vs[2]? = some v := by
  obtain ⟨o', us, h1, h2, h3⟩ := t
  cases he.symm.trans h1
  cases hd.symm.trans h2
  exact h3
/-- a step that changes no place 2 -/
def Mild {α : Type} (t : Sem α) : Prop := ∀ (M : Model) (Γ : Ctx) (Q : α → Pos → Shared → Prop) (E : Value → Pos → Shared → Prop) (p : Pos) (s : Shared) (e : Addr) (v : Value),
  Two e v s.heap → Sem.wp M Γ t Q E p s → Sem.wp M Γ t (fun a p' s' => Q a p' s' ∧ Two e v s'.heap) E p s
section
variable {α β : Type}
theorem Mild.bind {m : Sem α} {f : α → Sem β} (hm : Mild m) (hf : ∀ a, Mild (f a)) : Mild (m >>= f) := by
  intro M Γ Q E p s e v i h
  rw [Sem.wp_bind'] at h ⊢
  exact Sem.wp_mono M Γ m (fun a p' s' q => hf a M Γ Q E p' s' e v q.2 q.1) (fun _ _ _ q => q) p s (hm M Γ _ E p s e v i h)
theorem Mild.pure (a : α) : Mild (Pure.pure a : Sem α) := fun M Γ Q E p s e v i h => by
  rw [Sem.wp_pure'] at h ⊢
  exact ⟨h, i⟩
theorem Mild.stop (w : String) : Mild (unsupported w : Sem α) := fun M Γ Q E p s e v i h => by
  unfold unsupported at h
  rw [Sem.wp_unsupported] at h
  exact h.elim
theorem Mild.load (a : Addr) : Mild (load a) := fun M Γ Q E p s e v i h => by
  unfold PySem.load at h ⊢
  rw [Sem.wp_load] at h ⊢
  obtain ⟨o, e1, q⟩ := h
  rw [Sem.wp_pure] at q
  exact ⟨o, e1, by rw [Sem.wp_pure]; exact ⟨q, i⟩⟩
theorem Mild.stack : Mild stack := fun M Γ Q E p s e v i h => by
  unfold PySem.stack at h ⊢
  rw [Sem.wp_stack, Sem.wp_pure] at h ⊢
  exact ⟨h, i⟩
theorem Mild.alloc (o : Obj) : Mild (alloc o) := fun M Γ Q E p s e v i h => by
  unfold PySem.alloc at h ⊢
  rw [Sem.wp_alloc, Sem.wp_pure] at h ⊢
  obtain ⟨o', vs, h1, h2, h3⟩ := i
  exact ⟨h, o', vs, Heap.get?_push_of_some _ h1, h2, h3⟩
theorem Mild.update (a : Addr) {f : Obj → Obj} (hf : ∀ o vs, o.data = .fields vs → ∃ us, (f o).data = .fields us ∧ us[2]? = vs[2]?) : Mild (update a f) := fun M Γ Q E p s e v i h => by
  unfold PySem.update at h ⊢
  rw [Sem.wp_update, Sem.wp_pure] at h ⊢
  obtain ⟨o', vs, h1, h2, h3⟩ := i
  refine ⟨h.1, h.2, ?_⟩
  by_cases z : a = e
  · subst z
    obtain ⟨us, u1, u2⟩ := hf o' vs h2
    exact ⟨_, us, Heap.get?_update_self f h1 (Obj.isFreed_of_fields u1), u1, u2.trans h3⟩
  · exact ⟨o', vs, (Heap.get?_update_other _ _ z).trans h1, h2, h3⟩
end
theorem mild_field (v : Value) (i : Nat) : Mild (field v i) := by
  unfold field fieldsOf
  refine Mild.bind ?_ fun xs => ?_
  · cases v with
    | ref a =>
      refine Mild.bind (.load a) fun o => ?_
      cases o.data with
      | fields vs => exact .pure _
      | _ => exact .stop _
    | _ => exact .stop _
  · cases xs[i]? with
    | some x => exact .pure _
    | none => exact .stop _
theorem mild_set (v x : Value) {i : Nat} (hi : i ≠ 2) : Mild (setField v i x) := by
  unfold setField
  cases v with
  | ref a =>
    show Mild (updateField a i x)
    unfold updateField
    refine Mild.bind (.load a) fun o => ?_
    cases o.data with
    | fields vs =>
      show Mild (if i < vs.size then _ else _)
      split
      · exact .update a fun o us h => ⟨_, Obj.data_mapFields h _, by rw [Array.getElem?_setIfInBounds_ne hi]⟩
      · exact .stop _
    | _ => exact .stop _
  | _ => exact .stop _
theorem mild_fields (ty : String) (vs : List Value) : Mild (newFields ty vs) := by
  have fin : Mild (do let a ← alloc { cls := .type ty, dict := none, data := .fields vs.toArray }; Pure.pure (Value.ref a)) := Mild.bind (.alloc _) fun _ => .pure _
  unfold newFields newObj newObjAsIs
  dsimp only
  split
  · exact Mild.bind (.stop _) fun _ => fin
  · exact fin
theorem mild_import (env : Env) (outer : List Env) : Mild (behindIsImport env outer) := by
  unfold behindIsImport
  split
  · exact .pure _
  · split
    · exact .pure _
    · exact Mild.bind (mild_field _ _) fun _ => .pure _
theorem mild_back (env : Env) (b : Bool) (l : List Env) : Mild (keptBack env b l) := by
  cases l with
  | nil =>
    show Mild (if _ then _ else _)
    split
    · exact .pure _
    · unfold underTheClaimsCaller
      exact Mild.bind (Mild.bind .stack fun _ => .pure _) fun _ => .pure _
  | cons c l => exact .pure _
theorem mild_ready : ∀ l : List Env, Mild (readyFrames l)
  | [] => .pure _
  | env :: outer => by
    unfold readyFrames
    cases env.frame with
    | none => exact .stop _
    | some f =>
      refine Mild.bind (.load f) fun o => ?_
      split
      · exact .pure _
      · exact Mild.bind (mild_import _ _) fun _ => Mild.bind (mild_back _ _ _) fun _ => Mild.bind (.update f fun o vs h => ⟨vs, h, rfl⟩) fun _ => mild_ready outer
theorem mild_frameOf (env : Env) : Mild (frameOf env) := by
  unfold frameOf frameEnvs
  refine Mild.bind (Mild.bind .stack fun _ => .pure _) fun l => ?_
  refine Mild.bind ?_ fun o => ?_
  · cases l.dropWhile (fun x => x.frame != env.frame) with
    | nil => exact .pure _
    | cons a l => exact Mild.bind (mild_ready _) fun _ => .pure _
  · cases o with
    | some f => exact .pure _
    | none => exact .stop _
theorem mild_place (f : Addr) (b : Bool) : Mild (entryPlaceOf f b) := by
  unfold entryPlaceOf
  refine Mild.bind .stack fun l => ?_
  split
  · exact .pure _
  · exact .pure _
theorem mild_entry (a b c d e : Value) (l : List Value) : Mild (EntryCells.newEntry a b c d e l) := mild_fields _ _
theorem mild_flight (e : Value) (f : Option Addr) : Mild (setFlight e f) := by
  unfold setFlight
  refine Mild.bind (mild_field _ _) fun tb => ?_
  split
  · exact mild_set _ _ (by decide)
  · exact .pure _
theorem mild_note (e : Value) (env : Env) : Mild (noteFrame e env) := by
  unfold noteFrame
  cases env.frame with
  | none => exact .stop _
  | some f =>
    have fin : ∀ head : Value, Mild (do setField e 1 (← EntryCells.newEntry head (← frameOf env) .none (rawInt f) .none (← entryPlaceOf f (head != .none)))) := fun head =>
      Mild.bind (mild_frameOf env) fun _ => Mild.bind (mild_place _ _) fun _ => Mild.bind (mild_entry _ _ _ _ _ _) fun _ => mild_set _ _ (by decide)
    refine Mild.bind (mild_field _ _) fun head => ?_
    split
    · refine Mild.bind (mild_field _ _) fun x => ?_
      split
      · exact .pure _
      · exact Mild.bind (mild_set _ _ (by decide)) fun _ => fin head
    · exact fin head
theorem mild_leaving (env : Env) (e : Value) : Mild (leaving env e) := Mild.bind (mild_note e env) fun _ => mild_flight e none
/-- laid beside what else is told of the step -/
theorem Mild.also {α : Type} {t : Sem α} {M : Model} {A : Around} {Q : α → Shared → Prop} {E : Value → Shared → Prop} {s : Shared} {e : Addr} {v : Value} (ht : Mild t) (i : Two e v s.heap) (h : wpAny M A t Q E s) :
    wpAny M A t (fun a s' => Q a s' ∧ Two e v s'.heap) E s := fun Γ p hΓ => ht M Γ _ _ p s e v i (h Γ p hΓ)
end L2
namespace PySem
open L2
/-- an exception in flight, held in a frame, of no context -/
def Heap.FlyingC (base : Heap) (l : List Env) (e : Addr) (cls a0 : Value) (h : Heap) : Prop := Heap.FlyingW base l e cls a0 h ∧ Two e .none h
def Heap.HeldC (base : Heap) (l : List Env) (e : Addr) (cls a0 : Value) (L : Addr) (h : Heap) : Prop := Heap.HeldW base l e cls a0 L h ∧ Two e .none h
theorem Heap.FlyingC.there {base h : Heap} {l : List Env} {e : Addr} {cls a0 : Value} (x : Heap.FlyingC base l e cls a0 h) : ∃ ob, h.get? e = some ob ∧ ob.cls = cls := x.1.there
theorem Heap.FlyingC.first {base h : Heap} {l : List Env} {e : Addr} {cls a0 : Value} (x : Heap.FlyingC base l e cls a0 h) : ∃ oe vs, h.get? e = some oe ∧ oe.cls = cls ∧ oe.data = .fields vs ∧ vs[0]? = some a0 ∧ vs[2]? = some Value.none :=
  let ⟨oe, vs, h1, h2, h3, h4⟩ := x.1.first
  ⟨oe, vs, h1, h2, h3, h4, x.2.at h1 h3⟩
section
variable {M : Model} {A : Around} {E : Value → Shared → Prop} {s : Shared} {base : Heap} {e : Addr}
theorem wpAny_leaves_onC {env : Env} {outer : List Env} {L : Addr} {cls a0 : Value} {Q : Unit → Shared → Prop} (hfr : A.frames = some (env :: outer)) (hf : env.frame = some L) (hfl : Heap.FlyingC base (env :: outer) e cls a0 s.heap)
    (k : ∀ h', Heap.FlyingC base outer e cls a0 h' → s.heap.UpToSlots h' → Q () { s with heap := h' }) : wpAny M A (leaving env (.ref e)) Q E s :=
  wpAny_mono ((mild_leaving env _).also hfl.2 (wpAny_leaves_onW (Q := fun _ s' => ∃ h', s' = { s with heap := h' } ∧ Heap.FlyingW base outer e cls a0 h' ∧ s.heap.UpToSlots h') hfr hf hfl.1 fun h' a b => ⟨h', rfl, a, b⟩))
    (fun _ _ q => by
      obtain ⟨⟨h', rfl, a, b⟩, t⟩ := q
      exact k h' ⟨a, t⟩ b) fun _ _ q => q
theorem wpAny_looks_onC {env : Env} {outer : List Env} {L : Addr} {cls a0 : Value} {Q : Unit → Shared → Prop} (hfr : A.frames = some (env :: outer)) (hf : env.frame = some L) (hfl : Heap.FlyingC base (env :: outer) e cls a0 s.heap)
    (k : ∀ h', Heap.HeldC base (env :: outer) e cls a0 L h' → s.heap.UpToSlots h' → Q () { s with heap := h' }) : wpAny M A (noteFrame (.ref e) env) Q E s :=
  wpAny_mono ((mild_note _ env).also hfl.2 (wpAny_looks_onW (Q := fun _ s' => ∃ h', s' = { s with heap := h' } ∧ Heap.HeldW base (env :: outer) e cls a0 L h' ∧ s.heap.UpToSlots h') hfr hf hfl.1 fun h' a b => ⟨h', rfl, a, b⟩))
    (fun _ _ q => by
      obtain ⟨⟨h', rfl, a, b⟩, t⟩ := q
      exact k h' ⟨a, t⟩ b) fun _ _ q => q
theorem wpAny_landsC {l : List Env} {L : Addr} {cls a0 : Value} {Q : Unit → Shared → Prop} (hh : Heap.HeldC base l e cls a0 L s.heap) (k : ∀ h', Heap.FlyingC base l e cls a0 h' → s.heap.UpToSlots h' → Q () { s with heap := h' }) :
    wpAny M A (setFlight (.ref e) none) Q E s :=
  wpAny_mono ((mild_flight _ none).also hh.2 (wpAny_landsW (Q := fun _ s' => ∃ h', s' = { s with heap := h' } ∧ Heap.FlyingW base l e cls a0 h' ∧ s.heap.UpToSlots h') hh.1 fun h' a b => ⟨h', rfl, a, b⟩))
    (fun _ _ q => by
      obtain ⟨⟨h', rfl, a, b⟩, t⟩ := q
      exact k h' ⟨a, t⟩ b) fun _ _ q => q
theorem lands_againC {l : List Env} {cls a0 : Value} {Q : Unit → Shared → Prop} (hh : Heap.FlyingC base l e cls a0 s.heap) (k : ∀ h', Heap.FlyingC base l e cls a0 h' → s.heap.UpToSlots h' → Q () { s with heap := h' }) :
    wpAny M A (setFlight (.ref e) none) Q E s :=
  wpAny_mono ((mild_flight _ none).also hh.2 (PyProof.Rows.lands_againW (Q := fun _ s' => ∃ h', s' = { s with heap := h' } ∧ Heap.FlyingW base l e cls a0 h' ∧ s.heap.UpToSlots h') hh.1 fun h' a b => ⟨h', rfl, a, b⟩))
    (fun _ _ q => by
      obtain ⟨⟨h', rfl, a, b⟩, t⟩ := q
      exact k h' ⟨a, t⟩ b) fun _ _ q => q
theorem wpAny_leaves_madeC {h : Heap} {env : Env} {outer : List Env} {L : Addr} {cls : Value} {args : List Value} {Q : Unit → Shared → Prop} (hfr : A.frames = some (env :: outer)) (hf : env.frame = some L) (hkb : base.StaysIn h) (hl : h.FunFrames base (env :: outer)) (hx : Heap.MadeExcOf h s.heap e cls args)
    (k : ∀ h' t, Heap.FlyingC base outer e cls (.ref t) h' → h'.TupAt t args → base.get? t = none → s.heap.UpToSlots h' → Q () { s with heap := h' }) : wpAny M A (leaving env (.ref e)) Q E s := by
  obtain ⟨t0, h0, _⟩ := hx.there
  exact wpAny_mono ((mild_leaving env _).also (v := .none) ⟨_, _, h0, rfl, rfl⟩ (wpAny_leaves_madeW (Q := fun _ s' => ∃ h' t, s' = { s with heap := h' } ∧ Heap.FlyingW base outer e cls (.ref t) h' ∧ h'.TupAt t args ∧ base.get? t = none ∧ s.heap.UpToSlots h') hfr hf hkb hl hx fun h' t a b c d => ⟨h', t, rfl, a, b, c, d⟩))
    (fun _ _ q => by
      obtain ⟨⟨h', t, rfl, a, b, c, d⟩, i⟩ := q
      exact k h' t ⟨a, i⟩ b c d) fun _ _ q => q
end
end PySem

set_option Elab.async false
set_option linter.all false
set_option maxRecDepth 100000
set_option maxHeartbeats 4000000
/-! EXCEPTIONS over the hand layer: raise of an own class, the way through the frames, try with one clause -/
namespace L2
open PySem PySem.Spec PyProof.Rows

/-! ### what is tracked stands in the heap -/
theorem ObjOk.there {P : Program} {w : World} {H : Hp} {h : Heap} {a : Addr} {o : HO} (x : ObjOk P w H h a o) : ∃ ob, h.get? a = some ob := by
  cases o with
  | lst xs => obtain ⟨_, _, _, _, e⟩ := x; exact ⟨_, e⟩
  | tup xs => obtain ⟨_, _, _, ob, e, _⟩ := x; exact ⟨ob, e⟩
  | dK kvs => obtain ⟨_, _, _, _, o, _, _, e, _⟩ := x; exact ⟨o, e⟩
  | dT kvs => obtain ⟨_, _, _, _, o, _, _, e, _⟩ := x; exact ⟨o, e⟩
  | set S n => obtain ⟨o, _, _, _, e, _⟩ := x; exact ⟨o, e⟩
  | ins C dx fs => obtain ⟨_, _, _, e, _⟩ := x; exact ⟨_, e⟩
  | own y => obtain ⟨o, e⟩ := x; exact ⟨o, e⟩
  | xd fs => obtain ⟨_, ⟨o, _, _, e, _⟩, _⟩ := x; exact ⟨o, e⟩
  | rng lo hi => obtain ⟨_, _, _, e⟩ := x; exact ⟨_, e⟩
  | frz ob u => obtain ⟨e, _⟩ := x; exact ⟨ob, e⟩
  | tbl ps => exact ⟨_, (show h.get? a = some _ from x)⟩
  | met f y => exact ⟨_, (show h.get? a = some _ from x)⟩
  | ext φ => obtain ⟨_, ⟨o, e⟩, _⟩ := x; exact ⟨o, e⟩
theorem HOk.there {P : Program} {w : World} {H : Hp} {h : Heap} {a : Addr} {o : HO} (x : HOk P w H h) (e : H a = some o) : ∃ ob, h.get? a = some ob := (x a o e).there
theorem HOk.none_of {P : Program} {w : World} {H : Hp} {h : Heap} {a : Addr} (x : HOk P w H h) (e : h.get? a = none) : H a = none := by
  cases q : H a with
  | none => rfl
  | some o =>
    obtain ⟨ob, e'⟩ := x.there q
    rw [e] at e'
    cases e'

/-! ### an exception in flight -/
structure Fly (h : Heap) (H : Hp) (h0 : Heap) (e : Addr) (cls : Value) : Prop where
  ex : ∃ (oe : Obj) (vs : Array Value) (T : Addr) (oT : Obj) (ts : Array Value) (a0 : Value), h.get? e = some oe ∧ oe.cls = cls ∧ oe.data = .fields vs ∧ (vs[0]? = some a0 ∧ vs[2]? = some Value.none) ∧ vs[1]? = some (.ref T) ∧ T ≠ e ∧
    h.get? T = some oT ∧ oT.data = .fields ts ∧ ts[3]? = some .none ∧ H T = none ∧ h0.get? T = none
  free : H e = none
  new : h0.get? e = none
def CXo (P : Program) (w : World) : CXT := fun outer H s E x s' => ∃ (e : Addr) (cls : Value) (H' : Hp), x = .ref e ∧ Fly s'.heap H' s.heap e cls ∧ s'.os = s.os ∧ AllBare s'.gens ∧ Un (frs outer) [] H H' s.heap s'.heap ∧ HOk P w H' s'.heap ∧ E cls none H'

section
variable {X : Cx} {pins : List (Addr × Obj)} {σ : St} {H : Hp} {s s' : Shared}

/-- all objects kept but the frames' slots -/
theorem Inv.slots (I : Inv X pins σ H s) (ho : s'.os = s.os) (hg : AllBare s'.gens) (kp : ∀ b o, s.heap.get? b = some o → b ∉ frs X.stack → s'.heap.get? b = some o)
    (sl : ∀ b o, s.heap.get? b = some o → b ∈ frs X.stack → ∃ sl, s'.heap.get? b = some { o with slots := sl }) : Inv X pins σ H s' := by
  refine I.call' (ch := []) ho ⟨fun b o e _ hb _ => kp b o e hb, fun b o e _ hb _ => sl b o e hb, fun _ _ _ n _ => n, fun b o e _ => ?_, fun _ _ e => e, fun _ _ _ e => e, fun b ps e => ⟨#[], by rw [e]; simp⟩⟩ (fun b u e => ?_) hg (fun b hb => absurd hb (by simp))
  · by_cases hb : b ∈ frs X.stack
    · obtain ⟨sl', e'⟩ := sl b o e hb
      exact ⟨_, e'⟩
    · exact ⟨o, kp b o e hb⟩
  · have nf : ∀ c v, H c = some v → c ∉ frs X.stack := fun c v q z => by
      rw [I.stkFree c z] at q
      cases q
    refine (I.hok b u e).stay (fun c v hc q => kp c v q ?_) (fun _ q => q) fun _ _ q => q
    rcases hc with rfl | hc
    · exact nf _ _ e
    · exact nf _ _ hc

/-- what stood at the entry stands now -/
theorem Inv.old (I : Inv X pins σ H s) (hx : X.ex = []) {b : Addr} {o : Obj} (e : X.s₀.heap.get? b = some o) : ∃ o', s.heap.get? b = some o' := I.base.there b o e (by rw [hx]; simp)

/-- the frame is left by an exception that was made here -/
theorem leave_made {E : XK} {P : Program} {w : World} {K : PySem.W.Frag} {mg : Str → Option Value} {base : Heap} {N : List Str} {qual : Str} {scope : Scope} {f : Addr} {cd : Value} {A : Around} {outer : List Env} {s0 : Shared} {H0 : Hp}
    {h' : Heap} {e : Addr} {cls : Value} {vs : List Value} (I : Inv (cxOf (CXo P w) P w K mg base N qual scope f cd A outer s0 H0 E) pins σ H s) (m : Heap.MadeExcOf s.heap h' e cls vs) (q : E cls none H) :
    (cxOf (CXo P w) P w K mg base N qual scope f cd A outer s0 H0 E).xe (.ref e) { s with heap := h' } := by
  have hst := I.stack
  have hmem : ∀ env ∈ (envOfC qual scope s0.heap.objs.size f cd :: outer), ∀ a, env.frame = some a → a ∈ frs (envOfC qual scope s0.heap.objs.size f cd :: outer) := fun env he a ha => List.mem_filterMap.mpr ⟨env, he, ha⟩
  have hB : ∀ b o, s.heap.get? b = some o → b ∉ frs (envOfC qual scope s0.heap.objs.size f cd :: outer) → (PySem.W.hideAll s.heap (frs (envOfC qual scope s0.heap.objs.size f cd :: outer))).get? b = some o := fun b o e hb => PySem.W.hideAll_get _ e hb
  refine wpAny_leaves_madeC (base := PySem.W.hideAll s.heap (frs (envOfC qual scope s0.heap.objs.size f cd :: outer))) I.ok.frames rfl (fun b o e => PySem.W.of_hideAll _ e) (PySem.W.funFrames_hide hst hmem) m fun h'' t fl _ _ up => ?_
  have kp : ∀ b o, s.heap.get? b = some o → b ∉ frs (envOfC qual scope s0.heap.objs.size f cd :: outer) → h''.get? b = some o := fun b o e hb => fl.1.1 b o (hB b o e hb)
  have sl : ∀ b o, s.heap.get? b = some o → b ∈ frs (envOfC qual scope s0.heap.objs.size f cd :: outer) → ∃ sl, h''.get? b = some { o with slots := sl } := fun b o e hb => by
    obtain ⟨_, o', e', hd⟩ := hst.mem hb
    rw [e] at e'
    cases e'
    exact up b o (m.keeps b o e) hd
  have I2 : Inv (cxOf (CXo P w) P w K mg base N qual scope f cd A outer s0 H0 E) pins σ H { s with heap := h'' } := I.slots rfl I.bare kp sl
  have he : H e = none := I.hok.none_of m.new
  have h0e : s0.heap.get? e = none := by
    cases q : s0.heap.get? e with
    | none => rfl
    | some o =>
      obtain ⟨o', e'⟩ := I.old rfl q
      rw [m.new] at e'
      cases e'
  obtain ⟨⟨_, _, hfr, oe, ws, T, oT, ts, g1, ⟨g2, g3⟩, g4, g5, g6, g7, g8, g9, g10⟩, two⟩ := fl
  have g3 := And.intro g3 (two.at g1 g4)
  have hT : ∀ o, s.heap.get? T = some o → T ∈ frs (envOfC qual scope s0.heap.objs.size f cd :: outer) := fun o e => by
    by_cases hb : T ∈ frs (envOfC qual scope s0.heap.objs.size f cd :: outer)
    · exact hb
    · have := hB T o e hb
      rw [g6] at this
      cases this
  refine ⟨e, cls, H, rfl, ⟨⟨oe, ws, T, oT, ts, _, g1, g2, g4, g3, g5, g7, g8, g9, g10, ?_, ?_⟩, he, h0e⟩, I2.os, I2.bare, I2.base, I2.hok, q⟩
  · cases z : H T with
    | none => rfl
    | some u =>
      obtain ⟨ob, e'⟩ := I.hok.there z
      have := I.stkFree T (hT ob e')
      rw [z] at this
      cases this
  · cases z : s0.heap.get? T with
    | none => rfl
    | some u =>
      obtain ⟨ob, e'⟩ := I.old rfl z
      have hm := hT ob e'
      have hm' : T = s0.heap.objs.size ∨ T ∈ frs outer := List.mem_cons.mp hm
      rcases hm' with z' | z'
      · exact absurd (Heap.lt_size z) (by rw [z']; exact Nat.lt_irrefl _)
      · obtain ⟨_, o', e'', hd⟩ := hfr.mem z'
        rw [g8] at e''
        cases e''
        exact absurd g9 (hd ts)

/-- an exception of a callee leaves the frame -/
theorem leave_on {E : XK} {P : Program} {w : World} {K : PySem.W.Frag} {mg : Str → Option Value} {base : Heap} {N : List Str} {qual : Str} {scope : Scope} {f : Addr} {cd : Value} {A : Around} {outer : List Env} {s0 : Shared} {H0 : Hp} :
    Passes (CXo P w) (cxOf (CXo P w) P w K mg base N qual scope f cd A outer s0 H0 E) E := by
  intro pins σ H s x s' I hx
  obtain ⟨e, cls, H', rfl, F, os, bare, un, hok, q⟩ := hx
  have I1 : Inv (cxOf (CXo P w) P w K mg base N qual scope f cd A outer s0 H0 E) pins σ H' s' := I.call' (ch := []) os un hok bare (fun b hb => absurd hb (by simp))
  obtain ⟨⟨oe, ws, T, oT, ts, a0, g1, g2, g3, g4, g5, g6, g7, g8, g9, g10, g11⟩, he, hn⟩ := F
  have hst := I1.stack
  have hmem : ∀ env ∈ (envOfC qual scope s0.heap.objs.size f cd :: outer), ∀ a, env.frame = some a → a ∈ e :: T :: frs (envOfC qual scope s0.heap.objs.size f cd :: outer) := fun env he a ha =>
    List.mem_cons_of_mem _ (List.mem_cons_of_mem _ (List.mem_filterMap.mpr ⟨env, he, ha⟩))
  have hB : ∀ b o, s'.heap.get? b = some o → b ∉ e :: T :: frs (envOfC qual scope s0.heap.objs.size f cd :: outer) → (PySem.W.hideAll s'.heap (e :: T :: frs (envOfC qual scope s0.heap.objs.size f cd :: outer))).get? b = some o := fun b o e hb => PySem.W.hideAll_get _ e hb
  have hfl : Heap.FlyingC (PySem.W.hideAll s'.heap (e :: T :: frs (envOfC qual scope s0.heap.objs.size f cd :: outer))) (envOfC qual scope s0.heap.objs.size f cd :: outer) e cls a0 s'.heap :=
    ⟨⟨fun b o e => PySem.W.of_hideAll _ e, PySem.W.hideAll_none _ List.mem_cons_self, PySem.W.funFrames_hide hst hmem, oe, ws, T, oT, ts, g1, ⟨g2, g4.1⟩, g3, g5, PySem.W.hideAll_none _ (List.mem_cons_of_mem _ List.mem_cons_self), g6, g7, g8, g9⟩, oe, ws, g1, g3, g4.2⟩
  refine wpAny_leaves_onC I.ok.frames rfl hfl fun h'' fl up => ?_
  have nof : ∀ b, s.heap.get? b = none → s0.heap.get? b = none := fun b z => by
    cases q : s0.heap.get? b with
    | none => rfl
    | some o =>
      obtain ⟨o', e'⟩ := I.old rfl q
      rw [z] at e'
      cases e'
  -- the exception and its entry are no objects of the entry, no tracked ones, no frames
  have offe : e ∉ frs (envOfC qual scope s0.heap.objs.size f cd :: outer) := fun hb => by
    obtain ⟨_, o', e', hd⟩ := hst.mem hb
    rw [g1] at e'
    cases e'
    exact hd ws g3
  have offT : T ∉ frs (envOfC qual scope s0.heap.objs.size f cd :: outer) := fun hb => by
    obtain ⟨_, o', e', hd⟩ := hst.mem hb
    rw [g7] at e'
    cases e'
    exact hd ts g8
  have kp : ∀ b o, s'.heap.get? b = some o → b ≠ e → b ≠ T → b ∉ frs (envOfC qual scope s0.heap.objs.size f cd :: outer) → h''.get? b = some o := fun b o q n1 n2 n3 => fl.1.1 b o (hB b o q (by simp [n1, n2, n3]))
  have sl : ∀ b o, s'.heap.get? b = some o → b ∈ frs (envOfC qual scope s0.heap.objs.size f cd :: outer) → ∃ sl, h''.get? b = some { o with slots := sl } := fun b o q hb => by
    obtain ⟨_, o', e', hd⟩ := hst.mem hb
    rw [q] at e'
    cases e'
    exact up b o q hd
  obtain ⟨⟨_, _, hfr, oe2, ws2, T2, oT2, ts2, k1, ⟨k2, k3⟩, k4, k5, k6, k7, k8, k9, k10⟩, two⟩ := fl
  have k3 := And.intro k3 (two.at k1 k4)
  have hT2 : ∀ o, s'.heap.get? T2 = some o → T2 = T ∨ T2 ∈ frs (envOfC qual scope s0.heap.objs.size f cd :: outer) := fun o q => by
    by_cases n2 : T2 = T
    · exact .inl n2
    · by_cases n3 : T2 ∈ frs (envOfC qual scope s0.heap.objs.size f cd :: outer)
      · exact .inr n3
      · have := hB T2 o q (by simp [k7, n2, n3])
        rw [k6] at this
        cases this
  -- over the call and the leaving together
  have old : ∀ b o, s.heap.get? b = some o → b ≠ e ∧ b ≠ T := fun b o q => ⟨fun z => (by rw [z, hn] at q; cases q), fun z => (by rw [z, g11] at q; cases q)⟩
  have nt : ∀ b u, H' b = some u → b ≠ e ∧ b ≠ T ∧ b ∉ frs (envOfC qual scope s0.heap.objs.size f cd :: outer) := fun b u q => ⟨fun z => (by rw [z, he] at q; cases q), fun z => (by rw [z, g10] at q; cases q), fun z => (by rw [I1.stkFree b z] at q; cases q)⟩
  have I2 : Inv (cxOf (CXo P w) P w K mg base N qual scope f cd A outer s0 H0 E) pins σ H' { s' with heap := h'' } := by
    refine I.call' (ch := []) os ⟨fun b o q n hb _ => ?_, fun b o q n hb _ => ?_, fun b o q n hx => un.free b o q n hx, fun b o q hx => ?_, un.tups, un.frzs, un.tbls⟩ (fun b u q => ?_) bare (fun b hb => absurd hb (by simp))
    · exact kp b o (un.keep b o q n hb (by simp)) (old b o q).1 (old b o q).2 hb
    · obtain ⟨sl1, q1⟩ := un.slot b o q n hb (by simp)
      obtain ⟨sl2, q2⟩ := sl b _ q1 hb
      exact ⟨sl2, q2⟩
    · obtain ⟨o', q1⟩ := un.there b o q (by simp)
      by_cases hb : b ∈ frs (envOfC qual scope s0.heap.objs.size f cd :: outer)
      · obtain ⟨sl2, q2⟩ := sl b _ q1 hb
        exact ⟨_, q2⟩
      · exact ⟨o', kp b o' q1 (old b o q).1 (old b o q).2 hb⟩
    · refine (hok b u q).stay (fun c v hc z => ?_) (fun _ z => z) fun _ _ z => z
      rcases hc with rfl | hc
      · exact kp _ v z (nt _ _ q).1 (nt _ _ q).2.1 (nt _ _ q).2.2
      · exact kp _ v z (nt _ _ hc).1 (nt _ _ hc).2.1 (nt _ _ hc).2.2
  refine ⟨e, cls, H', rfl, ⟨⟨oe2, ws2, T2, oT2, ts2, _, k1, k2, k4, k3, k5, k7, k8, k9, k10, ?_, ?_⟩, he, nof e hn⟩, I2.os, I2.bare, I2.base, I2.hok, q⟩
  · cases z : H' T2 with
    | none => rfl
    | some u =>
      obtain ⟨ob, e'⟩ := hok.there z
      rcases hT2 ob e' with z' | z'
      · rw [z', g10] at z
        cases z
      · rw [I1.stkFree T2 z'] at z
        cases z
  · cases z : s0.heap.get? T2 with
    | none => rfl
    | some u =>
      obtain ⟨ob, e'⟩ := I1.old rfl z
      rcases hT2 ob e' with z' | z'
      · rw [z', nof T g11] at z
        cases z
      · have hm' : T2 = s0.heap.objs.size ∨ T2 ∈ frs outer := List.mem_cons.mp z'
        rcases hm' with w' | w'
        · exact absurd (Heap.lt_size z) (by rw [w']; exact Nat.lt_irrefl _)
        · obtain ⟨_, o', e'', hd⟩ := hfr.mem w'
          rw [k8] at e''
          cases e''
          exact absurd k9 (hd ts2)
end

/-! ### an own error class -/
/-- what the fragment says of an own class under ValueError without an __init__ -/
structure ExcC (K : PySem.W.Frag) (mg : Str → Option Value) (x : Str) (C : Addr) : Prop where
  mg : mg x = some (.ref C)
  ok : PySem.W.excIn K C [.type "ValueError", .type "Exception", .type "BaseException", .type "object"] "ValueError.__new__" = true
theorem exc_obj {K : PySem.W.Frag} {h : Heap} {C : Addr} {bmB : List Value} {newId : String} (X : K.In h) (q : PySem.W.excIn K C bmB newId = true) :
    ∃ bm N nm qn bs hdct sn sub ab col dd k0 k1 k2 k3 k5 mN, h.get? C = some (excClassObj nm qn C N bs bm hdct sn sub ab col dd k0 k1 k2 k3 k5 newId) ∧ h.Ns N mN ∧ mN "__init__" = none ∧ OwnTail h bmB bm := by
  unfold PySem.W.excIn at q
  split at q
  · rename_i dd cd sl ho
    split at q
    · rename_i C' bm k0 k1 k2 k3 n k5 hm hs
      simp only [Bool.and_eq_true, beq_iff_eq, Bool.not_eq_true'] at q
      obtain ⟨⟨⟨⟨⟨rfl, rfl⟩, hdel⟩, ht⟩, hok⟩, hni⟩ := q
      obtain ⟨nm, bs, mro, ns, qn, hd, sn, sub, ab, col, del⟩ := cd
      dsimp only at hm hdel hok hni
      subst hm hdel
      have hsl : sl = #[k0, k1, k2, k3, some (.builtin n), k5] := by
        obtain ⟨l⟩ := sl
        simp only at hs
        rw [hs]
      subst hsl
      exact ⟨bm, ns, nm, qn, bs, hd, sn, sub, ab, col, dd, k0, k1, k2, k3, k5, _, X _ _ ho, .of_isNs (PySem.W.isNs_of_in X hok), PySem.W.nsMap_none_of_in X hok hni, PySem.W.tail_of_in X ht⟩
    · cases q
  · cases q

/-- what may be raised: the class's own exceptions reach what is wanted -/
def Leaves (X : Cx) (E : St → XK) : Prop := ∀ (pins : List (Addr × Obj)) (σ : St) (H : Hp) (s : Shared) (h' : Heap) (e : Addr) (cls : Value) (vs : List Value), Inv X pins σ H s → Heap.MadeExcOf s.heap h' e cls vs → E σ cls none H → X.xe (.ref e) { s with heap := h' }
theorem leaves_cx {E : XK} {P : Program} {w : World} {K : PySem.W.Frag} {mg : Str → Option Value} {base : Heap} {N : List Str} {qual : Str} {scope : Scope} {f : Addr} {cd : Value} {A : Around} {outer : List Env} {s0 : Shared} {H0 : Hp} :
    Leaves (cxOf (CXo P w) P w K mg base N qual scope f cd A outer s0 H0 E) (fun _ => E) := fun _ _ _ _ _ _ _ _ I m q => leave_made I m q

section
variable {X : Cx} {x : Str} {C : Addr} {e0 : Expr} {es : List Expr} {np cpos pos : Pos} {t : TA} {E : St → XK}
def tRaise (C : Addr) (E : St → XK) (t : TA) : TS := fun _ σ H => t σ H fun vs H1 => vs.length ≤ sizeLine ∧ E σ (.ref C) none H1
theorem ps_raise (hc : X.calm = true) (c : ExcC X.K X.mg x C) (hL : Leaves X E) (hg : Gl X x) (ha : PA X (e0 :: es) t) (hd : (x == ("__debug__" : Str)) = false := by decide)
    (he : starEach (e0 :: es) X.env = (false, eval e0 X.env) :: starEach es X.env := by rfl) (hpl : (backTo cpos (starEach es X.env)).any (·.1) = false := by rfl) :
    PS X (.Raise (some (.Call (.Name x np) (e0 :: es) [] cpos)) none pos) (tRaise C E t) := by
  intro pins s σ H D I h
  obtain ⟨tl, N, nm, q, bs, hdct, sn, sub, ab, col, dd, k0, k1, k2, k3, k5, mN, hC, hN, hni, T⟩ := exc_obj I.ok.mod.kin c.ok
  refine wpAny_Raise_call_subT (C := C) (nm := nm) (q := q) (N := N) (bs := bs) (bm := tl) (hdct := hdct) (sn := sn) (sub := sub) (ab := ab) (col := col) (dd := dd) (k0 := k0) (k1 := k1) (k2 := k2) (k3 := k3) (k5 := k5)
    PySem.F.excBase_ValueError (mN := mN) (T.hasType PySem.F.excBase_ValueError.hasBase) (I.ok.hd hc) (by rw [he]; show (false || (backTo cpos (starEach es X.env)).any (·.1)) = false; rw [hpl]; rfl) hni (ld_glob I hg c.mg ⟨rfl, ?_⟩ hd)
  have ha' := ha cpos pins s σ H _ I h
  rw [he] at ha' ⊢
  exact Calls.evalArgs_plain (thn ha' fun us s2 ⟨vs, H2, I2, r2, hl, q2⟩ => ⟨rfl, by rw [← r2.length]; exact hl, I2.bk _ _ hC, hN.keeps I2.bk, T.keeps I2.bk, fun h' e m => hL pins σ H2 s2 h' e (.ref C) us I2 m q2⟩)
end

/-! ### calls whose exceptions are wanted by the names' values -/
def PassesX (CX : CXT) (X : Cx) (E : St → XK) : Prop := ∀ (pins : List (Addr × Obj)) (σ : St) (H : Hp) (s : Shared) (e : Value) (s' : Shared), Inv X pins σ H s → CX X.stack H s (E σ) e s' → X.xe e s'
theorem passes_cx {E : XK} {P : Program} {w : World} {K : PySem.W.Frag} {mg : Str → Option Value} {base : Heap} {N : List Str} {qual : Str} {scope : Scope} {f : Addr} {cd : Value} {A : Around} {outer : List Env} {s0 : Shared} {H0 : Hp} :
    PassesX (CXo P w) (cxOf (CXo P w) P w K mg base N qual scope f cd A outer s0 H0 E) (fun _ => E) := leave_on
def tCallX (sp : Sp) (dvs : List V) (E : St → XK) (t : TA) : TE := fun σ H Q => t σ H fun vs H1 => sp (vs ++ dvs) H1 Q (E σ)
def tMethX (C : Addr) (m : Str) (sp : Sp) (dvs : List V) (E : St → XK) (ta : TE) (t : TA) : TE := fun σ H Q => ta σ H fun x H1 => ∃ a dx fs, x = .ref a ∧ H1 a = some (.ins C dx fs) ∧ fs.lookup m = none ∧
  t σ H1 fun vs H2 => sp (x :: (vs ++ dvs)) H2 Q (E σ)
def tMakeX (C : Addr) (sp : Sp) (dvs : List V) (E : St → XK) (t : TA) : TE := fun σ H Q => t σ H fun vs H1 => ∀ x dx, H1 x = none → H1 dx = none → dx ≠ x →
  sp (.ref x :: (vs ++ dvs)) (upd (upd H1 dx (.own x)) x (.ins C dx [])) (fun v H2 => v = .non ∧ Q (.ref x) H2) (E σ)
section
variable {X : Cx} {CX : CXT} {k : Nat} {f C : Addr} {fd : FuncData} {ps : List Str} {sp : Sp} {dvs : List V} {ds : List Value} {E : St → XK} {x m : Str} {p pos apos : Pos} {e o : Expr} {es : List Expr} {ta : TE} {t : TA}
theorem run_fnX {E : XK} {pins : List (Addr × Obj)} {σ : St} {H : Hp} {s : Shared} {Q : VK} {us : List Value} {vs : List V} (F : FnOk X.prog X.w X.K X.mg X.base CX k f fd ps sp) (hr : Room k X.A) (hb : Binds X.K fd ps ds) (hd : Vals dvs ds)
    (hx : ∀ e s', CX X.stack H s E e s' → X.xe e s') (I : Inv X pins σ H s) (r : Vals vs us) (h : sp (vs ++ dvs) H Q E) : wpAny (model X.prog X.w) X.A (call (.ref f) us) (EP X pins σ Q) X.xe s := by
  have r2 : Vals (vs ++ dvs) (us ++ ds) := r.append hd
  have hl : (us ++ ds).length = ps.length := by rw [← r2.length]; exact F.len _ _ _ _ h
  refine wpAny_call (codeAny_mono (F.run X.A X.stack s H ⟨us, []⟩ (us ++ ds) (vs ++ dvs) Q E hr I.env0 (hb s us I.kIn hl) r2 h) fun r s' hq => ?_)
  cases r with
  | error e => exact hx e s' hq
  | ok fl =>
    cases fl with
    | ret u => exact I.after hq
    | next => exact False.elim hq
    | brk => exact False.elim hq
    | cont => exact False.elim hq
theorem pe_callX (F : FnOk X.prog X.w X.K X.mg X.base CX k f fd ps sp) (hr : Room k X.A) (hg : Gl X x) (hm : X.mg x = some (.ref f)) (hk : PySem.W.keepIn X.K (.ref f) = true) (hb : Binds X.K fd ps ds) (hd : Vals dvs ds) (hx : PassesX CX X E)
    (ha : PA X (e :: es) t) (hdb : (x == ("__debug__" : Str)) = false := by decide) (he : starEach (e :: es) X.env = (false, eval e X.env) :: starEach es X.env := by rfl) (hpl : (backTo pos (starEach es X.env)).any (·.1) = false := by rfl) :
    PE X (.Call (.Name x p) (e :: es) [] pos) (tCallX sp dvs E t) := by
  intro pins s σ H Q I h
  refine wpAny_Call_Name_kw (ld_glob I hg hm ?_ hdb)
  refine PySem.W.callWith_K (h₀ := X.base) I.ok.mod.kin hk (thn (ha pos pins s σ H _ I h) fun us s1 ⟨vs, H1, I1, r, q⟩ => ⟨I1.kIn, ?_⟩) he hpl
  exact run_fnX F hr hb hd (fun e s' => hx pins σ H1 s1 e s' I1) I1 r q
theorem run_makeX {E : XK} {pins : List (Addr × Obj)} {σ : St} {H : Hp} {s : Shared} {Q : VK} {us : List Value} {vs : List V} (M : Mk X.K C f) (F : FnOk X.prog X.w X.K X.mg X.base CX k f fd ps sp) (hr : Room (k + 1) X.A) (hb : Binds X.K fd ps ds) (hd : Vals dvs ds)
    (hx : ∀ H s e s', Inv X pins σ H s → CX X.stack H s E e s' → X.xe e s') (I : Inv X pins σ H s) (r : Vals vs us)
    (h : ∀ x dx, H x = none → H dx = none → dx ≠ x → sp (.ref x :: (vs ++ dvs)) (upd (upd H dx (.own x)) x (.ins C dx [])) (fun v H2 => v = .non ∧ Q (.ref x) H2) E) :
    wpAny (model X.prog X.w) X.A (call (.ref C) us) (EP X pins σ Q) X.xe s := by
  have hq := h (s.heap.objs.size + 1) s.heap.objs.size (I.hok.fresh (Nat.le_succ _)) (I.hok.fresh (Nat.le_refl _)) (Nat.ne_of_lt (Nat.lt_succ_self _))
  have I2 := Inv.made (C := C) I
  have r2 : Vals (V.ref (s.heap.objs.size + 1) :: (vs ++ dvs)) (Value.ref (s.heap.objs.size + 1) :: (us ++ ds)) := .cons rfl (r.append hd)
  have hl : (Value.ref (s.heap.objs.size + 1) :: us ++ ds).length = ps.length := by
    have e := r2.length
    rw [F.len _ _ _ _ hq] at e
    exact e.symm
  refine wpAny_call (make_map (f := f) I.kIn M.makes M.init (beq_iff_eq.mp M.fn) (codeAny_mono (F.run _ X.stack _ _ ⟨Value.ref (s.heap.objs.size + 1) :: us, []⟩ (Value.ref (s.heap.objs.size + 1) :: (us ++ ds)) _ _ E (hr.make C us [])
    (I2.env0.make C us []) (hb _ (Value.ref (s.heap.objs.size + 1) :: us) I2.kIn hl) r2 hq) fun r s' hq' => ?_))
  cases r with
  | error e => exact hx _ _ e s' I2 hq'
  | ok fl =>
    cases fl with
    | ret u =>
      obtain ⟨v, H', I3, rv, ev, q3⟩ := I2.after hq'
      subst ev
      exact ⟨rv, ⟨V.ref (s.heap.objs.size + 1), H', I3, rfl, q3⟩⟩
    | next => exact False.elim hq'
    | brk => exact False.elim hq'
    | cont => exact False.elim hq'
theorem pe_makeX (M : Mk X.K C f) (F : FnOk X.prog X.w X.K X.mg X.base CX k f fd ps sp) (hr : Room (k + 1) X.A) (hg : Gl X x) (hm : X.mg x = some (.ref C)) (hb : Binds X.K fd ps ds) (hd : Vals dvs ds) (hx : PassesX CX X E)
    (ha : PA X (e :: es) t) (hdb : (x == ("__debug__" : Str)) = false := by decide) (he : starEach (e :: es) X.env = (false, eval e X.env) :: starEach es X.env := by rfl) (hpl : (backTo pos (starEach es X.env)).any (·.1) = false := by rfl) :
    PE X (.Call (.Name x p) (e :: es) [] pos) (tMakeX C sp dvs E t) := by
  intro pins s σ H Q I h
  refine wpAny_Call_Name_kw (ld_glob I hg hm ?_ hdb)
  refine PySem.W.callWith_K (h₀ := X.base) I.ok.mod.kin M.kp (thn (ha pos pins s σ H _ I h) fun us s1 ⟨vs, H1, I1, r, q⟩ => ⟨I1.kIn, ?_⟩) he hpl
  exact run_makeX M F hr hb hd (fun H s e s' I' => hx pins σ H s e s' I') I1 r q
end

/-! ### a def whose exceptions are told -/
section
variable {P : Program} {w : World} {K : PySem.W.Frag} {mg : Str → Option Value} {base : Heap}
theorem Fun.okX {x qual : Str} {st : Stmt} {f : Addr} {fd : FuncData} {N ps : List Str} {k : Nat} {sp : Sp} (F : Fun K x qual st f fd) (S : FnScope N ps (defScope st)) (len : ∀ vs H Q E, sp vs H Q E → vs.length = ps.length)
    (hbody : ∀ (cdv : Value) (A : Around) (outer : List Env) (s : Shared) (H : Hp) (vs : List V) (Q : VK) (E : XK), Room k (A.deeper (envOfC qual (defScope st) s.heap.objs.size f cdv)) → sp vs H Q E →
      ∃ t, PSs (cxOf (CXo P w) P w K mg base N qual (defScope st) f cdv A outer s H E) (defBody st) t ∧ t { nx := fun _ H' => Q .non H', rt := Q } (start N vs) H) : FnOk P w K mg base (CXo P w) (k + 1) f fd ps sp := by
  obtain ⟨oc, od, kV, doc, pm, an, cdv, ct, osl, rfl, lk, hcd⟩ := F.ex
  exact fn_of lk hcd S len fun A outer s H vs Q E hr hsp => hbody cdv A outer s H vs Q E hr hsp
end
end L2

set_option Elab.async false
set_option linter.all false
set_option maxRecDepth 100000
set_option maxHeartbeats 4000000
/-! TRY, isinstance, all, any, zip of two lists, == of nested lists and tuples -/
namespace L2
open PySem PySem.Spec PyProof.Rows

section
variable {X : Cx} {pins pins' pn' : List (Addr × Obj)} {σ : St} {H H' : Hp} {s s1 : Shared}
/-- another wish, other pins, another place around -/
theorem Inv.re {xe' : Value → Shared → Prop} {A' : Around} {c' : Bool} (I : Inv X pins σ H s) (hp : ∀ p ∈ pn' ++ pins', s.heap.get? p.1 = some p.2 ∧ H p.1 = none ∧ p.1 ≠ X.env.locals ∧ p.1 ∉ X.fs ∧ ∀ v, p.2.data ≠ .cell v)
    (hd : c' = true → A'.handled = none) (hf : A'.frames = some X.stack) : Inv { X with pn := pn', xe := xe', A := A', calm := c' } pins' σ H s :=
  ⟨⟨I.ok.mod, I.ok.kind, I.ok.glob, I.ok.blt, I.ok.above, I.ok.inj, I.ok.has, I.ok.cab, hd, hf, I.ok.stk, I.ok.exf, I.ok.bs, I.ok.bsz, I.ok.noex, I.ok.exfs, I.ok.funs, I.ok.frf⟩, I.os, I.bare, I.base, I.loc, I.cell, I.free, I.freeC, hp, I.hok, I.len⟩
/-- behind a call that raised, and what was done to the exception since -/
theorem Inv.thru {h'' : Heap} (I : Inv X pins σ H s) (os : s1.os = s.os) (bare : AllBare s1.gens) (un : Un (frs X.stack) [] H H' s.heap s1.heap) (hok : HOk X.prog X.w H' s1.heap) (off : List Addr)
    (hoff : ∀ b ∈ off, s.heap.get? b = none ∧ H' b = none) (kp : ∀ b o, s1.heap.get? b = some o → b ∉ off → b ∉ frs X.stack → h''.get? b = some o)
    (sl : ∀ b o, s1.heap.get? b = some o → b ∈ frs X.stack → ∃ sl, h''.get? b = some { o with slots := sl }) : Inv X pins σ H' { s1 with heap := h'' } := by
  have I1 : Inv X pins σ H' s1 := I.call' (ch := []) os un hok bare (fun b hb => absurd hb (by simp))
  have old : ∀ b o, s.heap.get? b = some o → b ∉ off := fun b o q hb => by
    rw [(hoff b hb).1] at q
    cases q
  have nt : ∀ b u, H' b = some u → b ∉ off ∧ b ∉ frs X.stack := fun b u q => ⟨fun z => (by rw [(hoff b z).2] at q; cases q), fun z => (by rw [I1.stkFree b z] at q; cases q)⟩
  refine I.call' (ch := []) os ⟨fun b o q n hb _ => ?_, fun b o q n hb _ => ?_, fun b o q n hx => un.free b o q n hx, fun b o q hx => ?_, un.tups, un.frzs, un.tbls⟩ (fun b u q => ?_) bare (fun b hb => absurd hb (by simp))
  · exact kp b o (un.keep b o q n hb (by simp)) (old b o q) hb
  · obtain ⟨sl1, q1⟩ := un.slot b o q n hb (by simp)
    obtain ⟨sl2, q2⟩ := sl b _ q1 hb
    exact ⟨sl2, q2⟩
  · obtain ⟨o', q1⟩ := un.there b o q (by simp)
    by_cases hb : b ∈ frs X.stack
    · obtain ⟨sl2, q2⟩ := sl b _ q1 hb
      exact ⟨_, q2⟩
    · exact ⟨o', kp b o' q1 (old b o q) hb⟩
  · refine (hok b u q).stay (fun c v hc z => ?_) (fun _ z => z) fun _ _ z => z
    rcases hc with rfl | hc
    · exact kp _ v z (nt _ _ q).1 (nt _ _ q).2
    · exact kp _ v z (nt _ _ hc).1 (nt _ _ hc).2
/-- the frame's own names are forgotten -/
theorem Inv.forget {h' : Heap} {t' : Nat} {m' : Str → Option Value} (I : Inv X pins σ H s) (hn : h'.Ns X.env.locals m') (sb : Heap.SameBut X.env.locals s.heap h') :
    Inv X pins (List.replicate X.N.length none) H { s with heap := h', toks := t' } := by
  have neL : ∀ b o, X.s₀.heap.get? b = some o → b ≠ X.env.locals := fun b o e => Nat.ne_of_lt (Nat.lt_of_lt_of_le (Heap.lt_size e) I.ok.above)
  refine ⟨I.ok, I.os, I.bare, ⟨fun b o e n hb hx => ?_, fun b o e n hb hx => ?_, I.base.free, fun b o e hx => ?_, I.base.tups, I.base.frzs, I.base.tbls⟩, ⟨m', hn, fun i x v e1 e2 e3 => ?_⟩, fun x c e => ?_, I.free, I.freeC, fun p hp => ?_, fun b u e => ?_, by simp⟩
  · exact (sb.2 b (neL b o e)).trans (I.base.keep b o e n hb hx)
  · obtain ⟨sl, e1⟩ := I.base.slot b o e n hb hx
    exact ⟨sl, (sb.2 b (neL b o e)).trans e1⟩
  · obtain ⟨o', e1⟩ := I.base.there b o e hx
    exact ⟨o', (sb.2 b (neL b o e)).trans e1⟩
  · rw [List.getElem?_replicate] at e2
    split at e2 <;> cases e2
  · obtain ⟨v, z⟩ := I.cell x c e
    exact ⟨v, z.sameBut sb (I.cne x c e)⟩
  · obtain ⟨e, n, ne, nf, d⟩ := I.pin p hp
    exact ⟨(sb.2 p.1 ne).trans e, n, ne, nf, d⟩
  · refine (I.hok b u e).stay (fun c v hc q => (sb.2 c ?_).trans q) (fun _ q => q) fun _ _ q => q
    rintro rfl
    rcases hc with z | hc
    · rw [← z, I.free] at e
      cases e
    · rw [I.free] at hc
      cases hc
end

/-! ### try with one clause that always returns -/
def Cx.tried (X : Cx) (pn : List (Addr × Obj)) (R : St → Value → Hp → Prop) : Cx :=
  { X with pn := pn, A := X.A, calm := X.calm, xe := fun x s₁ => ∃ (pins : List (Addr × Obj)) (σ : St) (H : Hp) (s : Shared), Inv { X with pn := pn, xe := X.xe, A := X.A, calm := X.calm } pins σ H s ∧ CXo X.prog X.w X.stack H s (fun cls _ H' => R σ cls H') x s₁ }
def Cx.held (X : Cx) (pn : List (Addr × Obj)) (e : Addr) (oe : Obj) : Cx := { X with pn := pn ++ [(e, oe)], xe := fun _ _ => False, A := X.A.mark (some (.ref e)), calm := false }
def TryR (X : Cx) (c : Value) (i : Nat) (suite : List Stmt) (D : Ends) : St → Value → Hp → Prop := fun σ cls H => PySem.W.exmOne X.K cls c = some true ∧
  ∀ (e : Addr) (oe : Obj) (pn : List (Addr × Obj)), oe.cls = cls → ∃ th, PSs (X.held pn e oe) suite th ∧ th { nx := fun _ _ => False, rt := D.rt } (σ.set i (some (.ref e))) H
def tTry (tb : Ends → TS) : TS := fun D σ H => tb D D σ H
theorem passes_tried {X : Cx} {pn : List (Addr × Obj)} {R : St → Value → Hp → Prop} : PassesX (CXo X.prog X.w) (X.tried pn R) (fun σ cls _ H => R σ cls H) := by
  intro pins σ H s x s' I hx
  exact ⟨pins, σ, H, s, I.re (pn' := pn) (pins' := pins) (xe' := X.xe) (A' := X.A) (c' := X.calm) I.pin I.ok.hd I.ok.frames, hx⟩
theorem looks_ty {M : Model} {h : Heap} {e : Addr} {oe : Obj} {cls : Value} (h1 : h.get? e = some oe) (h2 : oe.cls = cls) : PySem.W.Looks M h (typeOf (.ref e)) cls := h2 ▸ (PySem.W.Looks.ld h1).andThen .now

end L2

set_option Elab.async false
set_option linter.all false
set_option maxRecDepth 100000
set_option maxHeartbeats 4000000
namespace L2
open PySem PySem.Spec PyProof.Rows

/-! ### isinstance -/
def clsV : V → Value
  | .ty n => .type n
  | .ref a => .ref a
  | _ => .none
theorem clsV_rel {c : V} {u : Value} (r : RelV c u) (h : clsV c ≠ .none) : u = clsV c := by
  cases c with
  | ty n => exact r
  | ref a => exact r
  | _ => exact absurd rfl h
theorem call_isi {X : Cx} : CallR X (.builtin "isinstance") (fun xs H Q => ∃ x c t b, xs = [x, c] ∧ TyOf X.K H x t ∧ clsV c ≠ .none ∧ PySem.W.kitOne X.K t (clsV c) = some b ∧ Q (.bl b) H) := by
  intro pins s σ H xs us Q I r h
  obtain ⟨x, c, t, b, rfl, ty, hc, hk, q⟩ := h
  obtain ⟨u, w', rfl, r1, r2⟩ := vals2 r
  rw [clsV_rel r2 hc]
  exact isinst_ok I r1 ty hk fun tk => ⟨.bl b, H, I.tok tk, rfl, q⟩

/-- what the fragment says of an own error class, for isinstance of its objects -/
structure ExcK (K : PySem.W.Frag) (C : Addr) : Prop where
  cl : (PySem.W.clsIn K C).isSome = true
  ga : PySem.W.findIn K (.ref C) "__getattribute__" = some (some (.builtin "BaseException.__getattribute__"))
  gh : PySem.W.findIn K (.ref C) "__getattr__" = some none
  ca : PySem.W.findIn K (.ref C) "__class__" = some (some (.builtin "object.__class__"))
  gt : PySem.W.specialIn K (.builtin "object.__class__") "__get__" = some (some (.builtin "getset_descriptor.__get__"))
  tk : PySem.W.takesIn K (.builtin "object.__class__") = some true
  mo : PySem.W.mroIn K C (.type "object") = some true
  mb : PySem.W.mroIn K C (.type "BaseException") = some true

section
open PySem.Builtin PySem.Builtin.ObjectAttr PySem.Builtin.Getset_descriptor
variable {prog : Program} {w : World} {A : Around} {E : Value → Shared → Prop} {K : PySem.W.Frag} {h : Heap} {g : Array GenState} {d : Drawn} {t : Nat} {os : OsState} {a C : Addr} {o : Obj}
theorem xc_get {R : Result → Shared → Prop} {tp : Value} (X : K.In h) (hx : h.get? a = some o) (hc : o.cls = .ref C) (k : ExcK K C) (hq : R (.ok (.ret (.ref C))) ⟨h, g, d, t, os⟩) :
    codeAny (model prog w) A (.call (.builtin "getset_descriptor.__get__") ⟨[.builtin "object.__class__", .ref a, tp], []⟩) R ⟨h, g, d, t, os⟩ := by
  have L0 : PySem.W.Looks (model prog w) h (typeOf (.ref a)) (.ref C) := looks_ty hx hc
  have L1 := PySem.W.looks_mroIn (M := model prog w) X k.mo
  refine codeAny_call_builtin PySem.W.KF.slot_gs.plain PySem.W.KF.entry_gs (PySem.W.KF.slot_gs.check _ _ _ _ _ _ _ _ PySem.W.KF.type_class (PySem.W.KF.args_gs _ _ _) ?_)
  unfold Builtin.«getset_descriptor.__get__» descrGet
  rw [PySem.W.dga_obj]
  refine wpAny_bind (wpAny_pure ?_)
  unfold descrGetter descrCheckInstance descrNameAndClass isInstance
  simp only [PySem.W.KF.owner_class]
  repeat lk
  refine ⟨Code.quiet_builtin _ (by decide +kernel), codeAny_builtin PySem.W.KF.entry_class ?_⟩
  unfold Builtin.«object.__class__» shownTypeOf
  repeat lk
  exact hq
theorem xc_find {M : Model} (X : K.In h) (k : ExcK K C) : PySem.W.Looks M h (PySem.Builtin.ObjectAttr.find (.ref a) (.ref C) "__class__") (.bind (.builtin "getset_descriptor.__get__") (.builtin "object.__class__")) := by
  have L3 := PySem.W.looks_takesIn (M := M) X k.tk
  refine (PySem.W.looks_findIn (M := M) X k.ca).andThen ((PySem.W.looks_specialIn (M := M) X k.gt).andThen ?_)
  exact (show PySem.W.Looks M h (PySem.Builtin.ObjectAttr.dataDescriptor? (some (.builtin "object.__class__")) (some (.builtin "getset_descriptor.__get__"))) (some (.builtin "getset_descriptor.__get__", .builtin "object.__class__")) from L3.andThen .now).andThen (PySem.W.Looks.tag .now)
theorem xc_entry {tk : Tok} {Q : Fin → Shared → Prop} (X : K.In h) (hx : h.get? a = some o) (hc : o.cls = .ref C) (k : ExcK K C) (hq : Q (.done (.ret (.ref C))) ⟨h, g, d, t, os⟩) :
    wpAny (model prog w) A (Builtin.«object.__getattribute__» ⟨[.ref a, .str "__class__" tk], []⟩) Q E ⟨h, g, d, t, os⟩ := by
  have L0 : PySem.W.Looks (model prog w) h (typeOf (.ref a)) (.ref C) := looks_ty hx hc
  have L1 := xc_find (M := model prog w) (a := a) X k
  refine wpAny_bind (wpAny_pure (wpAny_bind (wpAny_pure (wpAny_bind (L0.at (wpAny_bind (L1.at ?_)))))))
  show wpAny _ _ (holding [.builtin "object.__class__"] (call (.builtin "getset_descriptor.__get__") [.builtin "object.__class__", .ref a, .ref C]) >>= ret) _ _ _
  exact wpAny_bind (wpAny_holding (wpAny_call (xc_get X hx hc k (wpAny_pure hq))))
theorem xc_check {M : Model} {nameV : Value} {Q : Unit → Shared → Prop} (X : K.In h) (hx : h.get? a = some o) (hc : o.cls = .ref C) (k : ExcK K C) (hq : Q () ⟨h, g, d, t, os⟩) :
    wpAny M A (checkBuiltinCall "BaseException.__getattribute__" ⟨[.ref a, nameV], []⟩) Q E ⟨h, g, d, t, os⟩ := by
  have hk : builtinKind "BaseException.__getattribute__" = some .slot := by decide +kernel
  have hs : splitId "BaseException.__getattribute__" = some ("BaseException", "__getattribute__") := by decide +kernel
  have ha := PySem.F.args_bexc_ga (.ref a) nameV
  have LI : PySem.W.Looks M h (isInstance (.ref a) (.type "BaseException")) true := (looks_ty hx hc).andThen (PySem.W.looks_mroIn X k.mb)
  simp only [checkBuiltinCall, hk, hs]
  refine wpAny_bind (LI.at ?_)
  repeat (any_goals (first | assumption | wp_step))
theorem xc_class {Q : Option Value → Shared → Prop} (X : K.In h) (hx : h.get? a = some o) (hc : o.cls = .ref C) (k : ExcK K C) (hq : Q (some (.ref C)) ⟨h, g, d, t + 1, os⟩) :
    wpAny (model prog w) A (getAttr? (.ref a) "__class__") Q E ⟨h, g, d, t, os⟩ := by
  have L0 : PySem.W.Looks (model prog w) h (typeOf (.ref a)) (.ref C) := looks_ty hx hc
  have L1 := PySem.W.looks_findIn (M := model prog w) X k.ga
  have L2 := PySem.W.looks_findIn (M := model prog w) X k.gh
  have f3 := PySem.F.excAttr_ValueError.ga.bind (.ref a)
  have hx2 : (onTheHeap (Value.ref C) && Value.builtin "BaseException.__getattribute__" == Value.builtin "object.__getattribute__") = false := by
    have e : (Value.builtin "BaseException.__getattribute__" == Value.builtin "object.__getattribute__") = false := by decide +kernel
    rw [e]; rfl
  unfold getAttr? getAttrBy? getAttrBy
  refine wpAny_bind (wpAny_mkText (wpAny_bind (wpAny_attempt (wpAny_holding (wpAny_bind (L0.at (wpAny_bind (L1.at ?_))))))))
  dsimp only
  rw [if_neg (by rw [hx2]; exact Bool.false_ne_true)]
  unfold getAttrByItsOwn hookBefore
  rw [if_pos (show onTheHeap (Value.ref C) = true from rfl)]
  refine wpAny_bind (L2.at ?_)
  refine wpAny_bind (wpAny_attempt (wpAny_holding ?_))
  show wpAny _ _ (boundAndCalled (.builtin "BaseException.__getattribute__") (.ref a) (.str "__class__" t)) _ _ _
  unfold boundAndCalled
  refine wpAny_bind (wpAny_of_eq f3 ?_)
  show wpAny _ _ (call (.builtin "BaseException.__getattribute__") [.ref a, .str "__class__" t]) _ _ _
  refine wpAny_call (codeAny_call_builtin PySem.F.excAttr_ValueError.ga.plain PySem.F.entry_bexc_ga (xc_check X hx hc k (xc_entry X hx hc k ?_)))
  exact wpAny_of_eq (PySem.W.handedOut_of rfl) (wpAny_pure hq)
end
theorem kitx_exc {K : PySem.W.Frag} {e C : Addr} (k : ExcK K C) : PySem.W.KitX K (.ref e) (.ref C) (fun h => ∃ oe, h.get? e = some oe ∧ oe.cls = .ref C) where
  ty := fun _ _ _ ⟨_, h1, h2⟩ => looks_ty h1 h2
  it := fun M h X _ => by
    have hc := k.cl
    unfold PySem.W.clsIn at hc
    split at hc
    · rename_i c' d' cd' sl' ho
      intro A' Q' E' s' kk q
      unfold isType loadHead
      exact wpAny_bind (wpAny_loadPart (kk _ _ (X _ _ ho)) (wpAny_pure q))
    · cases hc
  ne := fun h tp dd its n sl X htp => by
    refine Bool.eq_false_iff.mpr fun q => ?_
    have e : C = tp := Value.ref.inj (beq_iff_eq.mp q)
    subst e
    have hc := k.cl
    unfold PySem.W.clsIn at hc
    split at hc
    · rename_i c' d' cd' sl' ho
      have z := (X _ _ ho).symm.trans htp
      cases z
    · cases hc
  ca := fun {_ _ _ _ _ s} X ⟨oe, h1, h2⟩ q => by
    obtain ⟨hh, g, d, t, os⟩ := s
    exact xc_class X h1 h2 k q
theorem call_isiX {X : Cx} : CallR X (.builtin "isinstance") (fun xs H Q => ∃ (a : Addr) (oe : Obj) (C : Addr) (c : V) (b : Bool), xs = [.ref a, c] ∧ (a, oe) ∈ X.pn ∧ oe.cls = .ref C ∧ ExcK X.K C ∧ clsV c ≠ .none ∧ PySem.W.kitOne X.K (.ref C) (clsV c) = some b ∧ Q (.bl b) H) := by
  intro pins s σ H xs us Q I r h
  obtain ⟨a, oe, C, c, b, rfl, hp, hc, k, hn, hk, q⟩ := h
  obtain ⟨u, w', rfl, r1, r2⟩ := vals2 r
  cases r1
  rw [clsV_rel r2 hn]
  have hpin := (I.pin (a, oe) (List.mem_append_left _ hp)).1
  exact PySem.W.kia_one (kitx_exc k) I.kIn ⟨oe, hpin, hc⟩ hk (fun z => nomatch z) fun tk => ⟨.bl b, H, I.tok tk, rfl, q⟩
end L2

set_option Elab.async false
set_option linter.all false
set_option maxRecDepth 100000
set_option maxHeartbeats 4000000
namespace L2
open PySem PySem.Spec PyProof.Rows

/-! ### all, any over a list of bools -/
theorem Vals.at {xs : List V} {us : List Value} {i : Nat} {u : Value} (r : Vals xs us) (h : us[i]? = some u) : ∃ x, xs[i]? = some x ∧ RelV x u := by
  have hl := r.length
  have hi : i < us.length := (List.getElem?_eq_some_iff.mp h).1
  have hx : xs[i]? = some (xs[i]'(by omega)) := List.getElem?_eq_getElem (by omega)
  obtain ⟨u', h1, h2⟩ := r.get hx
  rw [h] at h1
  cases h1
  exact ⟨_, hx, h2⟩
theorem all_range {bs : List Bool} : (List.range bs.length).all (fun i => (bs[i]?).getD false) = bs.all id := by
  rw [Bool.eq_iff_iff, List.all_eq_true, List.all_eq_true]
  constructor
  · intro h b hb
    obtain ⟨i, hi, e⟩ := List.mem_iff_getElem.mp hb
    have := h i (List.mem_range.mpr hi)
    rw [List.getElem?_eq_getElem hi] at this
    rw [← e]
    exact this
  · intro h i hi
    have hi' := List.mem_range.mp hi
    rw [List.getElem?_eq_getElem hi']
    exact h _ (List.getElem_mem hi')
theorem any_range {bs : List Bool} : (List.range bs.length).any (fun i => (bs[i]?).getD false) = bs.any id := by
  rw [Bool.eq_iff_iff, List.any_eq_true, List.any_eq_true]
  constructor
  · rintro ⟨i, hi, h⟩
    have hi' := List.mem_range.mp hi
    rw [List.getElem?_eq_getElem hi'] at h
    exact ⟨_, List.getElem_mem hi', h⟩
  · rintro ⟨b, hb, h⟩
    obtain ⟨i, hi, e⟩ := List.mem_iff_getElem.mp hb
    refine ⟨i, List.mem_range.mpr hi, ?_⟩
    rw [List.getElem?_eq_getElem hi, e]
    exact h
section
variable {X : Cx}
theorem bools_truth {A : Around} {prog : Program} {w : World} {bs : List Bool} {its : List Value} (r : Vals (bs.map V.bl) its) : TruthOf prog w A (fun i v => its.toArray[i]? = some v) (fun i => (bs[i]?).getD false) := by
  intro i v s Q E hP hQ
  obtain ⟨x, hx, rx⟩ := r.at (i := i) (u := v) (by simpa using hP)
  rw [List.getElem?_map] at hx
  cases e : bs[i]? with
  | none => rw [e] at hx; cases hx
  | some b =>
    rw [e] at hx
    cases hx
    cases rx
    have hQ : Q ((bs[i]?).getD false) s := hQ
    rw [e] at hQ
    exact wpAny_truthy_bool hQ
theorem call_all (hc : X.calm = true) : CallR X (.builtin "all") (fun xs H Q => ∃ (p : Addr) (bs : List Bool), xs = [.ref p] ∧ SqL X.K H p (bs.map V.bl) ∧ Q (.bl (bs.all id)) H) := by
  intro pins s σ H xs us Q I r h
  obtain ⟨p, bs, rfl, hq, q⟩ := h
  obtain ⟨u, rfl, rx⟩ := vals1 r
  cases rx
  obtain ⟨its, r', pl, hz⟩ := I.list hq
  obtain ⟨ol, hol, hol'⟩ := pl.isList
  have hlt : p < s.heap.objs.size := Heap.lt_size hol
  refine call_all_walk (wpAny_pyIter_list pl.isList ⟨s.heap.objs.size, _, _, _, _, _, fun i => (bs[i]?).getD false, rfl, Walks.list (A := X.A.in1) (show X.A.in1.handled = none from I.ok.hd hc) s.heap.objs.size p (Nat.ne_of_lt hlt) its.toArray, ⟨⟨_, Heap.get?_push_size _ rfl, rfl, rfl⟩, ⟨ol, Heap.get?_push_of_some _ hol, hol'⟩⟩, bools_truth r', fun h' tk hk => ?_⟩)
  refine ⟨.bl _, H, I.kept (t' := tk) (fun b o e => hk b o (by simpa using Nat.ne_of_lt (Heap.lt_size e)) (Heap.get?_push_of_some _ e)), rfl, ?_⟩
  have e : its.toArray.size = bs.length := by rw [List.size_toArray, ← r'.length, List.length_map]
  rw [e, all_range]
  exact q
theorem call_any (hc : X.calm = true) : CallR X (.builtin "any") (fun xs H Q => ∃ (p : Addr) (bs : List Bool), xs = [.ref p] ∧ SqL X.K H p (bs.map V.bl) ∧ Q (.bl (bs.any id)) H) := by
  intro pins s σ H xs us Q I r h
  obtain ⟨p, bs, rfl, hq, q⟩ := h
  obtain ⟨u, rfl, rx⟩ := vals1 r
  cases rx
  obtain ⟨its, r', pl, hz⟩ := I.list hq
  obtain ⟨ol, hol, hol'⟩ := pl.isList
  have hlt : p < s.heap.objs.size := Heap.lt_size hol
  refine call_any_walk (wpAny_pyIter_list pl.isList ⟨s.heap.objs.size, _, _, _, _, _, fun i => (bs[i]?).getD false, rfl, Walks.list (A := X.A.in1) (show X.A.in1.handled = none from I.ok.hd hc) s.heap.objs.size p (Nat.ne_of_lt hlt) its.toArray, ⟨⟨_, Heap.get?_push_size _ rfl, rfl, rfl⟩, ⟨ol, Heap.get?_push_of_some _ hol, hol'⟩⟩, bools_truth r', fun h' tk hk => ?_⟩)
  refine ⟨.bl _, H, I.kept (t' := tk) (fun b o e => hk b o (by simpa using Nat.ne_of_lt (Heap.lt_size e)) (Heap.get?_push_of_some _ e)), rfl, ?_⟩
  have e : its.toArray.size = bs.length := by rw [List.size_toArray, ← r'.length, List.length_map]
  rw [e, any_range]
  exact q
end

/-! ### zip of two lists -/
def Itz (K : PySem.W.Frag) (a b : Addr) : It :=
  ⟨fun i H => ∃ xs ys x y, SqL K H a xs ∧ SqL K H b ys ∧ xs[i]? = some x ∧ ys[i]? = some y,
   fun i H v H' => ∃ T x y, v = .ref T ∧ H T = none ∧ H' = upd H T (.tup [x, y]) ∧ (∀ xs, SqL K H a xs → xs[i]? = some x) ∧ ∀ ys, SqL K H b ys → ys[i]? = some y,
   fun i H => ∃ xs ys, SqL K H a xs ∧ SqL K H b ys ∧ (xs.length ≤ i ∨ ys.length ≤ i)⟩
def zipTn (a b z TI TO i1 i2 : Addr) (i : Nat) (h : Heap) : Prop := IsZip h z TI TO .none ∧ IsPair h TI (.ref i1) (.ref i2) ∧ (∃ p q, IsPair h TO p q) ∧ h.IsListIter i1 a i ∧ h.IsListIter i2 b i
theorem zip_inv {X : Cx} {pins : List (Addr × Obj)} {σ : St} {H : Hp} {s : Shared} {fp ch : List Addr} {h' : Heap} (I : Inv X pins σ H s) (hf : ∀ b ∈ fp, FpOk X pins H b) (hch : ∀ b ∈ ch, b ∈ fp) (k : ∀ c o, c ∉ ch → s.heap.get? c = some o → h'.get? c = some o) :
    Inv X pins σ H { s with heap := h' } := by
  have nt : ∀ b u, H b = some u → b ∉ ch := fun b u e z => by
    rw [(hf b (hch b z)).1] at e
    cases e
  refine I.step (g' := s.gens) (d' := s.drawn) (t' := s.toks) (ch := ch) (fun b hb => ?_) (fun b o _ _ hc e _ => k b o hc e) (fun b o _ _ hc e _ => ⟨o.slots, k b o hc e⟩) (fun _ _ _ _ n => n) (fun b o hc e => ⟨o, k b o hc e⟩) (fun _ _ e => e) (fun _ _ _ e => e) (fun b ps e => ⟨#[], by rw [e]; simp⟩) (fun m hm => ?_) (fun b u e => ?_) I.bare
  · have f := hf b (hch b hb)
    exact ⟨f.2.2.2.1, f.2.1, f.2.2.2.2.1, f.2.2.2.2.2⟩
  · obtain ⟨o, es, ep, ho, r⟩ := hm
    exact ⟨o, es, ep, k _ o (fun z => (hf _ (hch _ z)).2.1 rfl) ho, r⟩
  · refine (I.hok b u e).stay (fun c v hc q => k c v ?_ q) (fun _ q => q) fun _ _ q => q
    rcases hc with rfl | hc
    · exact nt _ _ e
    · exact nt _ _ hc
theorem turn_zip {P : Program} {w : World} {K : PySem.W.Frag} {elts : List Expr} {kk : Nat} {tp : Pos} (a b z TI TO i1 i2 : Addr) (D : ZipApart z TI TO i1 i2 a b) :
    Turn P w K (.Tuple elts kk tp) (Itz K a b) [z, TI, TO, i1, i2] z (zipTn a b z TI TO i1 i2) where
  mem := by simp
  obj := fun i h st c hc => by
    obtain ⟨h1, h2, ⟨p, q, h3⟩, ⟨o4, e4, _, d4⟩, ⟨o5, e5, _, d5⟩⟩ := st
    simp only [List.mem_cons, List.not_mem_nil, or_false] at hc
    rcases hc with rfl | rfl | rfl | rfl | rfl
    · exact ⟨_, h1, fun v z => nomatch z⟩
    · exact ⟨_, h2, fun v z => nomatch z⟩
    · exact ⟨_, h3, fun v z => nomatch z⟩
    · exact ⟨o4, e4, fun v z => by rw [d4] at z; cases z⟩
    · exact ⟨o5, e5, fun v z => by rw [d5] at z; cases z⟩
  keep := fun i h h' st k => by
    obtain ⟨h1, h2, ⟨p, q, h3⟩, h4, h5⟩ := st
    exact ⟨k z (by simp) _ h1, k TI (by simp) _ h2, ⟨p, q, k TO (by simp) _ h3⟩, h4.at fun o e => k i1 (by simp) o e, h5.at fun o e => k i2 (by simp) o e⟩
  item := by
    intro X hP hw hK hc i pins s σ H E I hf st hg
    subst hP hw hK
    obtain ⟨h1, h2, ⟨p, q, h3⟩, h4, h5⟩ := st
    obtain ⟨xs, ys, x, y, hq1, hq2, hx, hy⟩ := hg
    obtain ⟨its1, rv1, p1, hz1⟩ := I.list hq1
    obtain ⟨its2, rv2, p2, hz2⟩ := I.list hq2
    obtain ⟨u1, hu1, ru1⟩ := rv1.get hx
    obtain ⟨u2, hu2, ru2⟩ := rv2.get hy
    refine wpAny_pyNext_zip_item D h1 h2 h3 h4 h5 p1.isList p2.isList (x := u1) (y := u2) (by simpa using hu1) (by simpa using hu2) fun h' a1 a2 a3 a4 a5 a6 a7 => ?_
    refine ⟨_, rfl, wpAny_letOwnedTupleGo_zip a1 fun h'' b1 bs => ?_⟩
    have hnz : s.heap.objs.size ≠ z := Nat.ne_of_gt (Heap.lt_size h1)
    have hT : IsPair h'' s.heap.objs.size u1 u2 := (bs.2 _ hnz).trans a5
    have kk : ∀ c o, c ∉ [z, TO, i1, i2] → s.heap.get? c = some o → h''.get? c = some o := fun c o hc e => by
      simp only [List.mem_cons, List.not_mem_nil, or_false, not_or] at hc
      exact (bs.2 c hc.1).trans (a7 c o hc.1 hc.2.1 hc.2.2.1 hc.2.2.2 e)
    have hfr : H s.heap.objs.size = none := I.hok.fresh (Nat.le_refl _)
    have nt : ∀ c v, H c = some v → c ∉ [z, TO, i1, i2] ∧ c ≠ s.heap.objs.size := fun c v e => by
      refine ⟨fun hc => ?_, ne_of_none e hfr⟩
      have hm : c ∈ [z, TI, TO, i1, i2] := by
        simp only [List.mem_cons, List.not_mem_nil, or_false] at hc ⊢
        rcases hc with h | h | h | h <;> simp [h]
      rw [(hf c hm).1] at e
      cases e
    have sub : ∀ c ∈ [z, TO, i1, i2], c ∈ [z, TI, TO, i1, i2] := fun c hc => by
      simp only [List.mem_cons, List.not_mem_nil, or_false] at hc ⊢
      rcases hc with h | h | h | h <;> simp [h]
    have lt : ∀ c o, s.heap.get? c = some o → c ≠ s.heap.objs.size := fun c o e => Nat.ne_of_lt (Heap.lt_size e)
    have I2 : Inv X pins σ (upd H s.heap.objs.size (.tup [x, y])) { s with heap := h'' } := by
      refine I.step (g' := s.gens) (d' := s.drawn) (t' := s.toks) (ch := [z, TO, i1, i2]) (fun c hc => ?_) (fun c o _ _ hc e _ => kk c o hc e) (fun c o _ _ hc e _ => ⟨o.slots, kk c o hc e⟩) (fun c o _ e n => by rw [upd_ne (lt c o e)]; exact n)
        (fun c o hc e => ⟨o, kk c o hc e⟩) (fun c zs e => by rw [upd_ne (nt c _ e).2]; exact e) (fun c o v e => by rw [upd_ne (nt c _ e).2]; exact e) (fun c ps e => ⟨#[], by rw [upd_ne (nt c _ e).2, e]; simp⟩) (fun m hm => ?_) (fun c v e => ?_) I.bare
      · have f := hf c (sub c hc)
        exact ⟨f.2.2.2.1, f.2.1, f.2.2.2.2.1, f.2.2.2.2.2⟩
      · obtain ⟨o, es, ep, ho, r⟩ := hm
        exact ⟨o, es, ep, kk _ o (fun c => (hf _ (sub _ c)).2.1 rfl) ho, r⟩
      · by_cases hc : c = s.heap.objs.size
        · subst hc
          rw [upd_same] at e
          cases e
          exact ⟨by show 2 ≤ sizeLine; decide, [u1, u2], .cons ru1 (.cons ru2 .nil), _, hT, rfl, 0, rfl⟩
        · rw [upd_ne hc] at e
          refine (I.hok c v e).stay (fun c' v' hc' q => kk c' v' ?_ q) (fun c' q => by rw [upd_ne (nt c' _ q).2]; exact q) fun c' zs q => by rw [upd_ne (nt c' _ q).2]; exact q
          rcases hc' with rfl | hc'
          · exact (nt _ _ e).1
          · exact (nt _ _ hc').1
    refine ⟨.ref s.heap.objs.size, _, I2, rfl, ⟨_, x, y, rfl, hfr, rfl, fun zs hq => ?_, fun zs hq => ?_⟩, ⟨b1, ?_, ⟨u1, u2, (bs.2 _ D.TOz).trans a2⟩, a3.at fun o e => (bs.2 _ D.i1z).trans e, a4.at fun o e => (bs.2 _ D.i2z).trans e⟩, fun c hc => ?_⟩
    · rw [I.list_inj hq hq1]
      exact hx
    · rw [I.list_inj hq hq2]
      exact hy
    · exact (bs.2 _ D.TIz).trans (a7 _ _ D.TIz D.TITO D.TIi1 D.TIi2 h2)
    · obtain ⟨o, e⟩ : ∃ o, s.heap.get? c = some o := by
        simp only [List.mem_cons, List.not_mem_nil, or_false] at hc
        obtain ⟨o4, e4, _⟩ := h4
        obtain ⟨o5, e5, _⟩ := h5
        rcases hc with rfl | rfl | rfl | rfl | rfl
        · exact ⟨_, h1⟩
        · exact ⟨_, h2⟩
        · exact ⟨_, h3⟩
        · exact ⟨_, e4⟩
        · exact ⟨_, e5⟩
      rw [upd_ne (lt c o e)]
      exact (hf c hc).1
  done := by
    intro X hP hw hK hc i pins s σ H E I hf st hg
    subst hP hw hK
    obtain ⟨h1, h2, ⟨p, q, h3⟩, h4, h5⟩ := st
    obtain ⟨xs, ys, hq1, hq2, hend⟩ := hg
    obtain ⟨its1, rv1, p1, hz1⟩ := I.list hq1
    obtain ⟨its2, rv2, p2, hz2⟩ := I.list hq2
    have l1 := rv1.length
    have l2 := rv2.length
    refine wpAny_pyNext_zip_end (I.ok.hd hc) D h1 h2 h3 h4 h5 p1.isList p2.isList (by
      rcases hend with z | z
      · exact .inl (by simp; omega)
      · exact .inr (by simp; omega)) fun h' hk => ⟨rfl, ?_⟩
    refine zip_inv (ch := [z, TO, i1, i2]) I hf (fun c hc => ?_) fun c o hc e => ?_
    · simp only [List.mem_cons, List.not_mem_nil, or_false] at hc ⊢
      rcases hc with h | h | h | h <;> simp [h]
    · simp only [List.mem_cons, List.not_mem_nil, or_false, not_or] at hc
      exact hk c o hc.1 hc.2.1 hc.2.2.1 hc.2.2.2 e
  self := fun _ _ _ _ _ st h => wpAny_pyIter_zip st.1 h
def iZip (K : PySem.W.Frag) (ta : TA) : TI := fun σ H R => ta σ H fun vs H1 => ∃ a b, vs = [.ref a, .ref b] ∧ (∃ xs, SqL K H1 a xs) ∧ (∃ ys, SqL K H1 b ys) ∧ R (Itz K a b) H1
theorem boot_zipT : bootBuiltins "zip" = some (.type "zip") := by decide +kernel
theorem pi_zip {X : Cx} {elts : List Expr} {kk : Nat} {tp : Pos} {e1 e2 : Expr} {ta : TA} {p pos : Pos} (hg : Gl X "zip") (hm : X.mg "zip" = none) (ha : PA X [e1, e2] ta) (hs : starEach [e1, e2] X.env = [(false, eval e1 X.env), (false, eval e2 X.env)] := by rfl)
    (hs2 : starEach [e2] X.env = [(false, eval e2 X.env)] := by rfl) : PI X (.Tuple elts kk tp) (.Call (.Name "zip" p) [e1, e2] [] pos) (iZip X.K ta) := by
  intro pins s σ H R I h
  refine Call_ (ld_blt I hg hm boot_zipT (PyProof.Rows.callWith_type1 (thn (ha pos pins s σ H _ I h) fun us s1 ⟨vs, H1, I1, r1, q1⟩ => ?_) (by rw [hs, hs2]) (by rw [hs2]; rfl)))
  obtain ⟨a, b, e, ⟨xs, hq1⟩, ⟨ys, hq2⟩, q⟩ := q1
  subst e
  obtain ⟨u, w', rfl, ru, rw'⟩ := vals2 r1
  cases ru
  cases rw'
  obtain ⟨its1, rv1, p1, hz1⟩ := I1.list hq1
  obtain ⟨its2, rv2, p2, hz2⟩ := I1.list hq2
  have lt1 : a < s1.heap.objs.size := by obtain ⟨_, e, _⟩ := p1.isList; exact Heap.lt_size e
  have lt2 : b < s1.heap.objs.size := by obtain ⟨_, e, _⟩ := p2.isList; exact Heap.lt_size e
  refine call_zip_2 p1.isList p2.isList fun h' g1 g2 g3 g4 g5 g6 g7 => wpAny_pyIter_zip g1 ?_
  have I2 : Inv X pins σ H1 { s1 with heap := h' } := I1.kept (t' := s1.toks) g7
  refine ⟨s1.heap.objs.size + 4, [s1.heap.objs.size + 4, s1.heap.objs.size + 2, s1.heap.objs.size + 3, s1.heap.objs.size, s1.heap.objs.size + 1], _, _, H1, rfl, I2, turn_zip a b _ _ _ _ _ (zipApart_new lt1 lt2), ⟨g1, g2, ⟨_, _, g3⟩, g4, g5⟩, fun c hc => ?_, q⟩
  have le : s1.heap.objs.size ≤ c := by
    simp only [List.mem_cons, List.not_mem_nil, or_false] at hc
    rcases hc with rfl | rfl | rfl | rfl | rfl
    · exact Nat.le_add_right _ _
    · exact Nat.le_add_right _ _
    · exact Nat.le_add_right _ _
    · exact Nat.le_refl _
    · exact Nat.le_add_right _ _
  exact I1.fpOk le (I1.hok.fresh le)

/-! ### == of nested lists and tuples -/
inductive Dt where
  | non | bl (b : Bool) | int (i : Int) | str (x : Str) | lst (l : List Dt) | tup (l : List Dt)
mutual
def HasD (K : PySem.W.Frag) (H : Hp) : Dt → V → Prop
  | .non, v => v = .non
  | .bl b, v => v = .bl b
  | .int i, v => v = .int i
  | .str x, v => v = .str x
  | .lst l, v => ∃ a xs, v = .ref a ∧ SqL K H a xs ∧ HasDs K H l xs
  | .tup l, v => ∃ a xs, v = .ref a ∧ SqT K H a xs ∧ HasDs K H l xs
def HasDs (K : PySem.W.Frag) (H : Hp) : List Dt → List V → Prop
  | [], xs => xs = []
  | d :: l, xs => ∃ x r, xs = x :: r ∧ HasD K H d x ∧ HasDs K H l r
end
mutual
def dpD : Dt → Nat
  | .lst l => dpDs l + 1
  | .tup l => dpDs l + 1
  | _ => 0
def dpDs : List Dt → Nat
  | [] => 0
  | d :: l => max (dpD d) (dpDs l)
end
theorem HasDs.len {K : PySem.W.Frag} {H : Hp} : ∀ {l : List Dt} {xs : List V}, HasDs K H l xs → xs.length = l.length
  | [], _, h => by rw [show _ = [] from h]; rfl
  | d :: l, _, h => by
    obtain ⟨x, r, rfl, _, h2⟩ := h
    rw [List.length_cons, List.length_cons, HasDs.len h2]
section
variable {X : Cx} {pins : List (Addr × Obj)} {σ : St} {H : Hp} {s : Shared}
theorem all_tt (n : Nat) : ((List.range n).all fun _ => true) = true := List.all_eq_true.mpr fun _ _ => rfl
theorem rc_lstOf {A : Around} {a b : Addr} {xs ys : List V} (I : Inv X pins σ H s) (hq : SqL X.K H a xs) (hq' : SqL X.K H b ys) (hl : xs.length = ys.length) (hu : A.units < cLine)
    (he : ∀ {us vs : List Value}, Vals xs us → Vals ys vs → ∀ (j : Nat) (h1 : j < us.toArray.size) (h2 : j < vs.toArray.size), SeqAt.EqAt A.in1 s us.toArray[j] vs.toArray[j] true) : SeqAt.RcAt A s (.ref a) (.ref b) true := by
  obtain ⟨its, r, pl, hz⟩ := I.list hq
  obtain ⟨its', r', pl', hz'⟩ := I.list hq'
  have e1 := r.length
  have e2 := r'.length
  have := SeqAt.RcAt.lists (A := A) (e := fun _ => true) pl.isList pl'.isList (by simp; omega) hu (he r r')
  rw [all_tt] at this
  exact this
theorem rc_tupOf {A : Around} {a b : Addr} {xs ys : List V} (I : Inv X pins σ H s) (hq : SqT X.K H a xs) (hq' : SqT X.K H b ys) (hl : xs.length = ys.length) (hu : A.units < cLine)
    (he : ∀ {us vs : List Value}, Vals xs us → Vals ys vs → ∀ (j : Nat) (h1 : j < us.toArray.size) (h2 : j < vs.toArray.size), SeqAt.EqAt A.in1 s us.toArray[j] vs.toArray[j] true) : SeqAt.RcAt A s (.ref a) (.ref b) true := by
  obtain ⟨its, r, pl, hz⟩ := I.tuple hq
  obtain ⟨its', r', pl', hz'⟩ := I.tuple hq'
  have e1 := r.length
  have e2 := r'.length
  have e5 : its.length = its'.length := by omega
  have := SeqAt.RcAt.tuples (A := A) (e := fun _ => true) pl pl' hu (he r r')
  rw [all_tt] at this
  simpa [e5] using this
mutual
theorem eq_same (I : Inv X pins σ H s) : ∀ (d : Dt) {A : Around} {x y : V} {u v : Value}, HasD X.K H d x → HasD X.K H d y → RelV x u → RelV y v → A.units + dpD d < cLine → SeqAt.EqAt A s u v true
  | .non, A, x, y, u, v, hx, hy, rx, ry, hu => by
    cases (show x = _ from hx); cases (show y = _ from hy); cases rx; cases ry
    exact SeqAt.EqAt.same _
  | .bl b, A, x, y, u, v, hx, hy, rx, ry, hu => by
    cases (show x = _ from hx); cases (show y = _ from hy); cases rx; cases ry
    exact SeqAt.EqAt.same _
  | .int i, A, x, y, u, v, hx, hy, rx, ry, hu => by
    cases (show x = _ from hx); cases (show y = _ from hy)
    obtain ⟨t, rfl⟩ := rx
    obtain ⟨t', rfl⟩ := ry
    have := SeqAt.EqAt.int_int (A := A) (s := s) i t i t'
    rw [beq_self_eq_true] at this
    exact this
  | .str z, A, x, y, u, v, hx, hy, rx, ry, hu => by
    cases (show x = _ from hx); cases (show y = _ from hy)
    obtain ⟨t, rfl⟩ := rx
    obtain ⟨t', rfl⟩ := ry
    have := SeqAt.EqAt.str_str (A := A) (s := s) z t z t'
    rw [beq_self_eq_true] at this
    exact this
  | .lst l, A, x, y, u, v, hx, hy, rx, ry, hu => by
    obtain ⟨a, xs, rfl, hq, hd⟩ := hx
    obtain ⟨b, ys, rfl, hq', hd'⟩ := hy
    cases rx
    cases ry
    by_cases hab : a = b
    · subst hab; exact SeqAt.EqAt.same _
    · exact SeqAt.EqAt.of_refs hab (rc_lstOf I hq hq' (by rw [hd.len, hd'.len]) (by omega) fun r r' => eq_sames I l hd hd' r r' (by unfold dpD at hu; show A.units + 1 + dpDs l < cLine; omega))
  | .tup l, A, x, y, u, v, hx, hy, rx, ry, hu => by
    obtain ⟨a, xs, rfl, hq, hd⟩ := hx
    obtain ⟨b, ys, rfl, hq', hd'⟩ := hy
    cases rx
    cases ry
    by_cases hab : a = b
    · subst hab; exact SeqAt.EqAt.same _
    · exact SeqAt.EqAt.of_refs hab (rc_tupOf I hq hq' (by rw [hd.len, hd'.len]) (by omega) fun r r' => eq_sames I l hd hd' r r' (by unfold dpD at hu; show A.units + 1 + dpDs l < cLine; omega))
theorem eq_sames (I : Inv X pins σ H s) : ∀ (l : List Dt) {A : Around} {xs ys : List V} {us vs : List Value}, HasDs X.K H l xs → HasDs X.K H l ys → Vals xs us → Vals ys vs → A.units + dpDs l < cLine →
    ∀ (j : Nat) (h1 : j < us.toArray.size) (h2 : j < vs.toArray.size), SeqAt.EqAt A s us.toArray[j] vs.toArray[j] true
  | [], A, xs, ys, us, vs, hx, hy, rx, ry, hu => by
    cases (show xs = _ from hx)
    cases rx
    intro j h1 h2
    exact absurd h1 (by simp)
  | d :: l, A, xs, ys, us, vs, hx, hy, rx, ry, hu => by
    obtain ⟨x, r, rfl, hx1, hx2⟩ := hx
    obtain ⟨y, r', rfl, hy1, hy2⟩ := hy
    cases rx with
    | cons rx rxs =>
      cases ry with
      | cons ry rys =>
        have m1 : dpD d ≤ dpDs (d :: l) := by unfold dpDs; exact Nat.le_max_left _ _
        have m2 : dpDs l ≤ dpDs (d :: l) := by conv => rhs; unfold dpDs
                                               exact Nat.le_max_right _ _
        intro j h1 h2
        cases j with
        | zero => exact eq_same I d hx1 hy1 rx ry (by omega)
        | succ j =>
          have := eq_sames I l (A := A) hx2 hy2 rxs rys (by omega) j (by simpa using h1) (by simpa using h2)
          simpa using this
end
end
/-- == of two that read alike: True -/
def rSame (K : PySem.W.Frag) (A : Around) (k : Bool) : R2 := fun x y H Q => ∃ d, HasD K H d x ∧ HasD K H d y ∧ 0 < dpD d ∧ A.units + dpD d < cLine ∧ Q (.bl k) H
theorem op_eqD {X : Cx} : OpR X (compareOp .Eq) (rSame X.K X.A true) := by
  intro pins s σ H x y v u Q I rx ry h
  obtain ⟨d, hx, hy, h0, hu, q⟩ := h
  cases d with
  | lst l =>
    obtain ⟨a, xs, rfl, hq, hd⟩ := hx
    obtain ⟨b, ys, rfl, hq', hd'⟩ := hy
    cases rx
    cases ry
    exact (rc_lstOf I hq hq' (by rw [hd.len, hd'.len]) (by omega) fun r r' => eq_sames I l hd hd' r r' (by unfold dpD at hu; show X.A.units + 1 + dpDs l < cLine; omega)) _ _ _ _ ⟨.bl true, H, I, rfl, q⟩
  | tup l =>
    obtain ⟨a, xs, rfl, hq, hd⟩ := hx
    obtain ⟨b, ys, rfl, hq', hd'⟩ := hy
    cases rx
    cases ry
    exact (rc_tupOf I hq hq' (by rw [hd.len, hd'.len]) (by omega) fun r r' => eq_sames I l hd hd' r r' (by unfold dpD at hu; show X.A.units + 1 + dpDs l < cLine; omega)) _ _ _ _ ⟨.bl true, H, I, rfl, q⟩
  | _ => exact absurd h0 (by unfold dpD; decide)
theorem yes_if {τ : St} {H : Hp} {A B : Hp → Prop} (h : A H) : tYes τ H (fun c H5 => if c = true then A H5 else B H5) := by
  show if true = true then A H else B H
  exact iteT h
theorem name_yes_if {i : Nat} {x : V} {τ : St} {H : Hp} {A B : St → Hp → Prop} (h : A (τ.set i (some x)) H) : gName i x τ H (fun τ' H4 => tYes τ' H4 fun c H5 => if c = true then A τ' H5 else B τ' H5) := by
  show if true = true then A (τ.set i (some x)) H else B (τ.set i (some x)) H
  exact iteT h
end L2

set_option Elab.async false
set_option linter.all false
set_option maxRecDepth 100000
set_option maxHeartbeats 4000000
/-! ZIP of any number of lists (next and end for every number; the making for three and for four) -/
namespace L2
open PySem PySem.Spec PyProof.Rows
section
variable {prog : Program} {w : World} {A : Around} {E : Value → Shared → Prop} {s : Shared}
abbrev Tup (h : Heap) (T : Addr) (vs : Array Value) : Prop := h.get? T = some { cls := .type "tuple", data := .seq vs }

structure ZApart (z TI TO : Addr) (L : List (Addr × Addr)) : Prop where
  nd : (z :: TI :: TO :: L.map (·.1)).Nodup
  ls : ∀ p ∈ L, p.2 ∉ z :: TO :: L.map (·.1)
/-- between two items -/
structure ZMid (z TI TO : Addr) (L : List (Addr × Addr)) (us : List Value) (m : Nat) (h0 : Heap) (k : Nat) (h : Heap) : Prop where
  sz : h.objs.size = h0.objs.size
  zip : IsZip h z TI TO .ellipsis
  out : ∃ vs, Tup h TO vs ∧ vs.size = L.length ∧ ∀ j, j < k → vs[j]? = us[j]?
  its : ∀ (j : Nat) (p : Addr × Addr), L[j]? = some p → h.IsListIter p.1 p.2 (if j < k then m + 1 else m)
  old : ∀ c o, c ∉ z :: TO :: L.map (·.1) → h0.get? c = some o → h.get? c = some o

end

/-! ### the iterator: L is the (iterator, list) pairs; it ends where the first list ends -/
def Itn (K : PySem.W.Frag) (as : List Addr) : It :=
  ⟨fun i H => ∃ vs : List V, vs.length = as.length ∧ ∀ (j : Nat) (a : Addr) (v : V), as[j]? = some a → vs[j]? = some v → ∃ xs, SqL K H a xs ∧ xs[i]? = some v,
   fun i H v H' => ∃ (T : Addr) (vs : List V), v = .ref T ∧ H T = none ∧ H' = upd H T (.tup vs) ∧ vs.length = as.length ∧ ∀ (j : Nat) (a : Addr) (v : V), as[j]? = some a → vs[j]? = some v → ∀ xs, SqL K H a xs → xs[i]? = some v,
   fun i H => ∃ a as' xs, as = a :: as' ∧ SqL K H a xs ∧ xs.length ≤ i⟩
def znTn (L : List (Addr × Addr)) (z TI TO : Addr) (i : Nat) (h : Heap) : Prop :=
  IsZip h z TI TO .none ∧ Tup h TI (L.map fun p => Value.ref p.1).toArray ∧ (∃ vs, Tup h TO vs ∧ vs.size = L.length) ∧ ∀ p ∈ L, h.IsListIter p.1 p.2 i
end L2

set_option Elab.async false
set_option linter.all false
set_option maxRecDepth 100000
set_option maxHeartbeats 4000000
namespace L2
open PySem PySem.Spec PyProof.Rows
/-! ### four lists -/
abbrev itO (l : Addr) : Obj := { cls := .type "list_iterator", data := .fields #[.ref l, .int 0 0] }
abbrev z4a (h : Heap) (l1 l2 l3 l4 : Addr) : Heap := (((h.push (itO l1)).push (itO l2)).push (itO l3)).push (itO l4)
abbrev z4b (h : Heap) (l1 l2 l3 l4 : Addr) : Heap := (z4a h l1 l2 l3 l4).push { cls := .type "tuple", data := .seq #[.ref h.objs.size, .ref (h.push (itO l1)).objs.size, .ref ((h.push (itO l1)).push (itO l2)).objs.size, .ref (((h.push (itO l1)).push (itO l2)).push (itO l3)).objs.size] }
abbrev z4c (h : Heap) (l1 l2 l3 l4 : Addr) : Heap := (z4b h l1 l2 l3 l4).push { cls := .type "tuple", data := .seq #[.none, .none, .none, .none] }
abbrev z4d (h : Heap) (l1 l2 l3 l4 : Addr) : Heap := (z4c h l1 l2 l3 l4).push { cls := .type "zip", data := .fields #[.none, .bool false, .bool false, .ref (z4a h l1 l2 l3 l4).objs.size, .ref (z4b h l1 l2 l3 l4).objs.size] }
end L2

set_option Elab.async false
set_option linter.all false
set_option maxRecDepth 100000
set_option maxHeartbeats 4000000
namespace L2
open PySem PySem.Spec PyProof.Rows
section
variable {prog : Program} {w : World} {A : Around} {E : Value → Shared → Prop} {s : Shared}
abbrev zL (n l1 l2 l3 l4 : Addr) : List (Addr × Addr) := [(n, l1), (n + 1, l2), (n + 2, l3), (n + 3, l4)]
end
def iZip4 (K : PySem.W.Frag) (ta : TA) : TI := fun σ H R => ta σ H fun vs H1 => ∃ a b c d, vs = [.ref a, .ref b, .ref c, .ref d] ∧ (∃ xs, SqL K H1 a xs) ∧ (∃ xs, SqL K H1 b xs) ∧ (∃ xs, SqL K H1 c xs) ∧ (∃ xs, SqL K H1 d xs) ∧ R (Itn K [a, b, c, d]) H1
end L2

set_option Elab.async false
set_option linter.all false
set_option maxRecDepth 100000
set_option maxHeartbeats 4000000
namespace L2
open PySem PySem.Spec PyProof.Rows
/-- a loop over any iterator, by the turn's number -/
theorem for_it {J : It} {g : TG} {tb : TS} {D : Ends} {σ : St} {H : Hp} (n : Nat) (Pv : Nat → St → Hp → Prop) (h0 : Pv 0 σ H)
    (hs : ∀ i σ H, i < n → Pv i σ H → J.go i H ∧ ∀ x H', J.yld i H x H' → g x σ H' fun σ2 H2 => tb { D with nx := Pv (i + 1), ct := Pv (i + 1), bk := D.nx } σ2 H2) (hd : ∀ σ H, Pv n σ H → J.stop n H ∧ D.nx σ H) :
    ∃ W : Nat → Nat → St → Hp → Prop, (∃ m, W 0 m σ H) ∧ ∀ i m σ H, W i m σ H →
      (J.stop i H ∧ D.nx σ H) ∨ (J.go i H ∧ ∃ N : St → Hp → Prop, (∀ σ' H', N σ' H' → ∃ m', m' < m ∧ W (i + 1) m' σ' H') ∧ ∀ x H', J.yld i H x H' → g x σ H' fun σ2 H2 => tb { D with nx := N, ct := N, bk := D.nx } σ2 H2) := by
  refine ⟨fun i m σ H => m = n - i ∧ i ≤ n ∧ Pv i σ H, ⟨n, rfl, Nat.zero_le _, h0⟩, ?_⟩
  rintro i m σ H ⟨rfl, hi, p⟩
  by_cases hlt : i < n
  · obtain ⟨go, st⟩ := hs i σ H hlt p
    exact .inr ⟨go, Pv (i + 1), fun σ' H' q => ⟨n - (i + 1), by omega, rfl, hlt, q⟩, st⟩
  · have e : i = n := by omega
    subst e
    exact .inl (hd σ H p)
theorem same_refl {H : Hp} : Same H H := fun _ _ z => z
theorem same_new {H : Hp} {l : Addr} {o : HO} (h : H l = none) : Same H (upd H l o) := fun b u z => by rw [upd_ne (ne_of_none z h)]; exact z
end L2

set_option Elab.async false
set_option linter.all false
set_option maxRecDepth 100000
set_option maxHeartbeats 4000000
namespace L2
open PySem PySem.Spec PyProof.Rows
section
variable {X : Cx}
end
/-! ### enumerate of a list -/
def Ite (K : PySem.W.Frag) (a : Addr) : It :=
  ⟨fun i H => ∃ xs x, SqL K H a xs ∧ xs[i]? = some x,
   fun i H v H' => ∃ T x, v = .ref T ∧ H T = none ∧ H' = upd H T (.tup [.int (i : Int), x]) ∧ ∀ xs, SqL K H a xs → xs[i]? = some x,
   fun i H => ∃ xs, SqL K H a xs ∧ xs.length ≤ i⟩
def enumTn (a e it : Addr) (i : Nat) (h : Heap) : Prop := (∃ old, IsEnum h e it (i : Int) old) ∧ h.IsListIter it a i
def iEnum (K : PySem.W.Frag) (ta : TA) : TI := fun σ H R => ta σ H fun vs H1 => ∃ a, vs = [.ref a] ∧ (∃ xs, SqL K H1 a xs) ∧ R (Ite K a) H1
end L2
namespace L2
end L2
namespace L2
end L2
namespace L2
open PySem
def rLen (K : PySem.W.Frag) : List V → Hp → VK → Prop := fun xs H Q => ∃ p ys, xs = [.ref p] ∧ (SqL K H p ys ∨ SqT K H p ys) ∧ Q (.int ys.length) H
def rSum (K : PySem.W.Frag) : List V → Hp → VK → Prop := fun xs H Q => ∃ (p : Addr) (ns : List Int), xs = [.ref p] ∧ SqL K H p (ns.map V.int) ∧ Q (.int ns.sum) H
def rListOf (K : PySem.W.Frag) : List V → Hp → VK → Prop := fun xs H Q => ∃ p ys, xs = [.ref p] ∧ (SqL K H p ys ∨ SqT K H p ys) ∧ ∀ l, H l = none → Q (.ref l) (upd H l (.lst ys))
end L2
namespace L2
open PySem
def rIsi (K : PySem.W.Frag) : List V → Hp → VK → Prop := fun xs H Q => ∃ x c t b, xs = [x, c] ∧ TyOf K H x t ∧ clsV c ≠ Value.none ∧ PySem.W.kitOne K t (clsV c) = some b ∧ Q (.bl b) H
end L2

set_option Elab.async false
set_option linter.all false
set_option maxRecDepth 100000
set_option maxHeartbeats 4000000
namespace L2
open PySem PySem.Spec PyProof.Rows
/-! ### min, max of a list of ints with a default -/
section
variable {prog : Program} {w : World} {A : Around} {R : Result → Shared → Prop} {it : Addr} {fp wr : List Addr} {n : Nat} {Pv : Nat → Value → Prop} {Sv : Nat → Heap → Prop} {dv : Value}
abbrev best2 (v : Value) (c : Nat) : Obj := { cls := .type "list", dict := none, data := .seq #[v, v] c, slots := #[] }
abbrev best0 (c : Nat) : Obj := { cls := .type "list", dict := none, data := .seq #[] c, slots := #[] }
abbrev kwD (dv : Value) : List (Str × Value) := [("default", dv)]
end
section
variable {prog : Program} {w : World} {A : Around} {E : Value → Shared → Prop} {s : Shared}
end
section
variable {X : Cx}
/-- the word: the least (greatest) of the list, the default where it is empty -/
def rMinD (K : PySem.W.Frag) : List V → List V → Hp → VK → Prop := fun xs ks H Q => ∃ (p : Addr) (ns : List Int) (d : Int), xs = [.ref p] ∧ ks = [.int d] ∧ SqL K H p (ns.map V.int) ∧ ∀ m : Int, (ns = [] → m = d) → (ns ≠ [] → m ∈ ns ∧ ∀ v ∈ ns, m ≤ v) → Q (.int m) H
def rMaxD (K : PySem.W.Frag) : List V → List V → Hp → VK → Prop := fun xs ks H Q => ∃ (p : Addr) (ns : List Int) (d : Int), xs = [.ref p] ∧ ks = [.int d] ∧ SqL K H p (ns.map V.int) ∧ ∀ m : Int, (ns = [] → m = d) → (ns ≠ [] → m ∈ ns ∧ ∀ v ∈ ns, v ≤ m) → Q (.int m) H
def CallKD (X : Cx) (id : String) (r : List V → List V → Hp → VK → Prop) : Prop :=
  ∀ (pins : List (Addr × Obj)) (s : Shared) (σ : St) (H : Hp) (xs ks : List V) (us ws : List Value) (Q : VK), Inv X pins σ H s → Vals xs us → Vals ks ws → r xs ks H Q → ∃ d, ws = [d] ∧ wpAny (model X.prog X.w) X.A (call (.builtin id) us (kwD d)) (EP X pins σ Q) X.xe s
def tKD (r : List V → List V → Hp → VK → Prop) (t tk : TA) : TE := fun σ H Q => t σ H fun vs H1 => tk σ H1 fun zs H2 => r vs zs H2 Q
end
end L2
namespace L2
open PySem PySem.Spec PyProof.Rows
/-- != of two lists of unlike length -/
def rNeLen (K : PySem.W.Frag) (A : Around) : R2 := fun x y H Q => ∃ a b xs ys, x = .ref a ∧ y = .ref b ∧ SqL K H a xs ∧ SqL K H b ys ∧ xs.length ≠ ys.length ∧ A.units < cLine ∧ Q (.bl true) H
end L2

set_option Elab.async false
set_option linter.all false
set_option maxRecDepth 100000
set_option maxHeartbeats 4000000
namespace L2
open PySem PySem.Spec PyProof.Rows
/-! ### < of lists of ints, of pairs of an int and such a list -/
section
open PySem.SeqAt
open PySem.AutoSeq1 (wpAny_loadPart')
open PySem.MeetsSeq PySem.MeetsSeq2 PySem.MeetsSeq3
abbrev lsO (xs : List Value) (n : Nat) (d : Option Addr) (sl : Array (Option Value)) : Obj := { cls := .type "list", dict := d, data := .seq xs.toArray n, slots := sl }
abbrev tpO (xs : Array Value) (n : Nat) (d : Option Addr) (sl : Array (Option Value)) : Obj := { cls := .type "tuple", dict := d, data := .seq xs n, slots := sl }
end
section
variable {prog : Program} {w : World} {A : Around} {E : Value → Shared → Prop} {s : Shared}
/-- the word for two such pairs -/
def pairLt (e1 e2 : Int) (ns ms : List Int) : Bool := if e1 = e2 then HT.lexLt ns ms else decide (e1 < e2)
end
end L2

set_option Elab.async false
set_option linter.all false
set_option maxRecDepth 100000
set_option maxHeartbeats 4000000
namespace L2
open PySem PySem.Spec PyProof.Rows
/-! ### min of a list of pairs of an int and a list of ints -/
section
variable {prog : Program} {w : World} {A : Around} {R : Result → Shared → Prop} {it : Addr} {fp wr : List Addr} {n : Nat} {Pv : Nat → Value → Prop} {Sv : Nat → Heap → Prop} {h0 : Heap}
/-- all that stood in h0 stands in h -/
abbrev Kp (h0 h : Heap) : Prop := ∀ b o, h0.get? b = some o → h.get? b = some o
def CmpH (prog : Program) (w : World) (A : Around) (h0 : Heap) (n : Nat) (Pv : Nat → Value → Prop) (bt : Nat → Nat → Bool) : Prop :=
  ∀ (i j : Nat) (u v : Value) (sh : Shared) (Q E : Value → Shared → Prop), Pv i u → Pv j v → Kp h0 sh.heap → Q (.bool (bt i j)) sh → wpAny (model prog w) A (richCompare .Lt u v) Q E sh
end
section
variable {prog : Program} {w : World} {A : Around} {E : Value → Shared → Prop} {s : Shared}
end
/-- an entry: its place, its number, its list's place, its list -/
abbrev Ent := Addr × Int × Addr × List Int
section
variable {X : Cx}
def rMinP (K : PySem.W.Frag) : List V → Hp → VK → Prop := fun xs H Q => ∃ (p : Addr) (ts : List Ent) (len : Nat), xs = [.ref p] ∧ SqL K H p (ts.map fun t => V.ref t.1) ∧ ts ≠ [] ∧ (∀ t ∈ ts, H t.1 = some (.tup [.int t.2.1, .ref t.2.2.1]) ∧ H t.2.2.1 = some (.lst (t.2.2.2.map V.int)) ∧ t.2.2.2.length = len) ∧
  ∀ t ∈ ts, (∀ u ∈ ts, t.2.1 ≤ u.2.1) → Q (.ref t.1) H
end
end L2

set_option Elab.async false
set_option linter.all false
set_option maxRecDepth 100000
namespace L2
open PySem
/-- two pairs of ints -/
def rEqP (K : PySem.W.Frag) (A : Around) : R2 := fun x y H Q => ∃ (a b : Addr) (i j k l : Int), x = .ref a ∧ y = .ref b ∧ SqT K H a [.int i, .int j] ∧ SqT K H b [.int k, .int l] ∧ A.units + 1 < cLine ∧ Q (.bl (i == k && j == l)) H
end L2

set_option Elab.async false
set_option linter.all false
set_option maxRecDepth 100000
set_option maxHeartbeats 4000000
/-! ### texts: split, join, f"{i} of {k}", a try whose body never raises -/
namespace L2
open PySem PySem.Spec PyProof.Rows PySem.Builtin PySem.Builtin.Str
theorem vals_strs : ∀ {ts : List Str} {us : List Value}, Vals (ts.map V.str) us → ∃ l : List (Str × Tok), us = strValues l ∧ l.map (·.1) = ts
  | [], us, h => by
    cases h
    exact ⟨[], rfl, rfl⟩
  | t :: ts, us, h => by
    cases h with
    | cons r rs =>
      obtain ⟨k, rfl⟩ := r
      obtain ⟨l, rfl, e⟩ := vals_strs rs
      exact ⟨(t, k) :: l, rfl, by rw [List.map_cons, e]⟩
theorem strs_vals : ∀ l : List (Str × Tok), Vals ((l.map (·.1)).map V.str) (strValues l)
  | [] => .nil
  | p :: l => .cons ⟨p.2, rfl⟩ (strs_vals l)
theorem call_split1 {prog : Program} {w : World} {A : Around} {E : Value → Shared → Prop} {s : Shared} {Q : Value → Shared → Prop} {x y : Str} {t u : Tok} (hy : (y.length == 0) = false) (hsz : x.length + 2 ≤ sizeLine)
    (h : ∀ (l : List (Str × Tok)) (k : Nat), l.map (·.1) = Txt.split x y → Q (.ref s.heap.objs.size) { s with heap := s.heap.push { cls := .type "list", data := .seq (strValues l).toArray }, toks := k }) :
    wpAny (model prog w) A (call (.builtin "str.split") [.str x t, .str y u]) Q E s := by
  have hn : (partsBetween x (occurrences x y 0 x.length (x.length + 1)) y.length).length ≤ sizeLine := by
    have e1 := StrLaws.occ_length_le x y 0 x.length (x.length + 1)
    rw [length_partsBetween]; omega
  cases h1 : (decide (x.length < y.length) || decide (strKind x < strKind y))
  · cases hf : (occurrences x y 0 x.length (x.length + 1)).isEmpty
    · refine call_meets F.slot_str_split (typeIs_str _ _ _) F.entry_str_split (F.args_str_split_2 _ _) (meets_str_split_sep x y t u h1 hy hf (by omega) hn) ?_
      show wants Q E _ { s with toks := _, heap := s.heap.push { cls := .type "list", data := .seq (strsFrom s.toks (partsBetween x (occurrences x y 0 x.length (x.length + 1)) y.length)).toArray } }
      rw [strsFrom_eq]
      exact h (numbered s.toks _) _ ((numbered_texts _ _).trans ((if_neg (ne_true_of_eq_false h1)).trans (if_neg (ne_true_of_eq_false hf))).symm)
    · exact call_meets F.slot_str_split (typeIs_str _ _ _) F.entry_str_split (F.args_str_split_2 _ _) (meets_str_split_not_found x y t u h1 hy hf)
        (h [(x, t)] s.toks ((if_neg (ne_true_of_eq_false h1)).trans (if_pos hf)).symm)
  · exact call_meets F.slot_str_split (typeIs_str _ _ _) F.entry_str_split (F.args_str_split_2 _ _) (meets_str_split_cannot_occur x y t u h1)
      (h [(x, t)] s.toks (if_pos h1).symm)
section
variable {X : Cx}
def rSplit : V → List V → Hp → VK → Prop := fun x vs H Q => ∃ t y, x = .str t ∧ vs = [.str y] ∧ (y.length == 0) = false ∧ t.length + 2 ≤ sizeLine ∧ (Txt.split t y).length ≤ sizeLine ∧ ∀ p, H p = none → Q (.ref p) (upd H p (.lst ((Txt.split t y).map V.str)))
theorem mt_split : MtR X "str.split" rSplit := by
  intro pins s σ H x vs v us Q I rx rv h
  obtain ⟨t, y, rfl, rfl, hy, hz, hz2, q⟩ := h
  obtain ⟨kt, rfl⟩ := rx
  obtain ⟨u, rfl, ku, rfl⟩ := rv.one
  refine call_split1 hy hz fun l k e => ?_
  refine ⟨.ref s.heap.objs.size, _, I.laid (t' := k) (fun b o e => Heap.get?_push_of_some _ e) (Nat.le_refl _) (show ObjOk X.prog X.w _ _ _ (.lst ((Txt.split t y).map V.str)) from ⟨by rw [List.length_map]; exact hz2, strValues l, 0, ?_, ?_⟩), rfl, q _ (I.hok.fresh (Nat.le_refl _))⟩
  · rw [← e]
    exact strs_vals l
  · exact Heap.get?_push_size _ rfl
def rJoin (K : PySem.W.Frag) : V → List V → Hp → VK → Prop := fun x vs H Q => ∃ sep p ts, x = .str sep ∧ vs = [.ref p] ∧ SqL K H p (ts.map V.str) ∧ JoinOk sep ts = true ∧ Q (.str (Txt.join sep ts)) H
theorem mt_join : MtR X "str.join" (rJoin X.K) := by
  intro pins s σ H x vs v us Q I rx rv h
  obtain ⟨sep, p, ts, rfl, rfl, hq, ok, q⟩ := h
  obtain ⟨kt, rfl⟩ := rx
  obtain ⟨u, rfl, ru⟩ := rv.one
  cases ru
  obtain ⟨its, r, pl, hz⟩ := I.list hq
  obtain ⟨l, rfl, e⟩ := vals_strs r
  exact SC.join pl.isList e ok fun t' k => ⟨.str _, H, I.tok _, ⟨_, rfl⟩, q⟩
/-- f"{a}text{b}" of two whole numbers -/
def tFs (ta tb : TE) (y : Str) : TE := fun σ H Q => ta σ H fun x H1 => ∃ i, x = .int i ∧ i.natAbs.log2 < 1920 ∧ (toString i : Str).length ≤ 1000 ∧ y.length ≤ 1000 ∧ tb σ H1 fun z H2 => ∃ k, z = .int k ∧ k.natAbs.log2 < 1920 ∧ (toString k : Str).length ≤ 1000 ∧ Q (.str (toString i ++ y ++ toString k)) H2
end
/-! ### a try whose body never raises -/
/-! ### split undoes join -/
theorem cut_eq {c : Nat} : ∀ {a b s t : List Nat}, c ∉ a → c ∉ b → a ++ c :: s = b ++ c :: t → a = b ∧ s = t
  | [], [], s, t, _, _, h => ⟨rfl, (List.cons.inj h).2⟩
  | [], b :: bs, s, t, _, hb, h => absurd ((List.cons.inj h).1 ▸ List.mem_cons_self) hb
  | a :: as, [], s, t, ha, _, h => absurd ((List.cons.inj h).1 ▸ List.mem_cons_self) ha
  | a :: as, b :: bs, s, t, ha, hb, h => by
    obtain ⟨h1, h2⟩ := List.cons.inj h
    obtain ⟨e1, e2⟩ := cut_eq (fun z => ha (List.mem_cons_of_mem _ z)) (fun z => hb (List.mem_cons_of_mem _ z)) h2
    exact ⟨by rw [h1, e1], e2⟩
theorem join_cps (c : Nat) (a b : Str) (r : List Str) : (Str.join ⟨#[c]⟩ (a :: b :: r)).cps.toList = a.cps.toList ++ c :: (Str.join ⟨#[c]⟩ (b :: r)).cps.toList := by
  show (a ++ (⟨#[c]⟩ : Str) ++ Str.join ⟨#[c]⟩ (b :: r)).cps.toList = _
  rw [Str.cps_append, Str.cps_append, Array.toList_append, Array.toList_append, List.append_assoc]
  rfl
theorem str_eq {a b : Str} (h : a.cps.toList = b.cps.toList) : a = b := Str.ext' (Array.toList_inj.mp h)
theorem join_one {c : Nat} : ∀ {ps qs : List Str}, ps ≠ [] → qs ≠ [] → (∀ p ∈ ps, c ∉ p.cps.toList) → (∀ p ∈ qs, c ∉ p.cps.toList) → Str.join ⟨#[c]⟩ ps = Str.join ⟨#[c]⟩ qs → ps = qs
  | [], _, h, _, _, _, _ => absurd rfl h
  | _ :: _, [], _, h, _, _, _ => absurd rfl h
  | [a], [b], _, _, _, _, h => by
    have h : a = b := h
    rw [h]
  | [a], b :: b' :: r, _, _, h1, _, h => by
    have e := congrArg (fun x : Str => x.cps.toList) h
    have e : a.cps.toList = (Str.join ⟨#[c]⟩ (b :: b' :: r)).cps.toList := e
    rw [join_cps] at e
    exact absurd (by rw [e]; simp) (h1 a List.mem_cons_self)
  | a :: a' :: r, [b], _, _, _, h2, h => by
    have e := congrArg (fun x : Str => x.cps.toList) h
    have e : (Str.join ⟨#[c]⟩ (a :: a' :: r)).cps.toList = b.cps.toList := e
    rw [join_cps] at e
    exact absurd (by rw [← e]; simp) (h2 b List.mem_cons_self)
  | a :: a' :: r, b :: b' :: r', _, _, h1, h2, h => by
    have e := congrArg (fun x : Str => x.cps.toList) h
    have e : (Str.join ⟨#[c]⟩ (a :: a' :: r)).cps.toList = (Str.join ⟨#[c]⟩ (b :: b' :: r')).cps.toList := e
    rw [join_cps, join_cps] at e
    obtain ⟨e1, e2⟩ := cut_eq (h1 a List.mem_cons_self) (h2 b List.mem_cons_self) e
    have := join_one (ps := a' :: r) (qs := b' :: r') (by simp) (by simp) (fun p hp => h1 p (List.mem_cons_of_mem _ hp)) (fun p hp => h2 p (List.mem_cons_of_mem _ hp)) (str_eq e2)
    rw [this, str_eq e1]
theorem parts_free {x : Str} {c : Nat} : ∀ {cuts : List Nat} {a f : Nat}, StrLaws.ChainG x ⟨#[c]⟩ x.length a cuts f → (∀ k, f ≤ k → ¬ StrLaws.At x ⟨#[c]⟩ x.length k) → ∀ p ∈ StrLaws.partsFrom x 1 a cuts, c ∉ p.cps.toList
  | [], a, f, h, hf, p, hp => by
    have e : f = a := h
    subst e
    have e : p = strSub x f x.length := List.mem_singleton.mp hp
    rw [e]
    exact StrLaws.part_free x c f x.length (Nat.le_refl _) fun k h1 _ => hf k h1
  | d :: cuts, a, f, h, hf, p, hp => by
    obtain ⟨h1, h2, h3, h4⟩ := h
    rcases List.mem_cons.mp hp with z | z
    · rw [z]
      have hb : d + 1 ≤ x.length := h2.1
      exact StrLaws.part_free x c a d (by omega) h3
    · exact parts_free h4 hf p z
theorem split_free {x : Str} {c : Nat} (hc : c < 256) : ∀ p ∈ Txt.split x ⟨#[c]⟩, c ∉ p.cps.toList := by
  obtain ⟨f, h, hf⟩ := StrLaws.occ_tight x ⟨#[c]⟩ (Nat.le_refl 1)
  have whole : occurrences x ⟨#[c]⟩ 0 x.length (x.length + 1) = [] → c ∉ x.cps.toList := fun e => by
    rw [e] at h
    have e : f = 0 := h
    subst e
    have := StrLaws.part_free x c 0 x.length (Nat.le_refl _) fun k _ _ => hf k (Nat.zero_le _)
    rwa [StrLaws.sub_whole] at this
  unfold Txt.split
  split
  · rename_i h1
    intro p hp
    rw [List.mem_singleton.mp hp]
    rw [Bool.or_eq_true, decide_eq_true_iff, decide_eq_true_iff] at h1
    rcases h1 with z | z
    · have z : x.length < 1 := z
      intro hm
      have := List.length_pos_of_mem hm
      have e : x.cps.toList.length = x.length := by simp [Str.length]
      omega
    · have k1 : PySem.Builtin.Str.strKind (⟨#[c]⟩ : Str) = 1 := by
        unfold PySem.Builtin.Str.strKind
        rw [if_pos]
        simp [hc]
      rw [k1] at z
      unfold PySem.Builtin.Str.strKind at z
      split at z
      · omega
      · split at z <;> omega
  · split
    · rename_i h2
      intro p hp
      rw [List.mem_singleton.mp hp]
      exact whole (List.isEmpty_iff.mp h2)
    · rw [StrLaws.partsBetween_eq]
      exact parts_free h hf
theorem split_ne {x y : Str} : Txt.split x y ≠ [] := by
  unfold Txt.split
  split
  · simp
  · split
    · simp
    · rw [StrLaws.partsBetween_eq]
      obtain ⟨p, r, e⟩ := StrLaws.partsFrom_ne x y.length 0 (occurrences x y 0 x.length (x.length + 1))
      rw [e]
      simp
theorem split_join {c : Nat} (hc : c < 256) {ps : List Str} (h0 : ps ≠ []) (h : ∀ p ∈ ps, c ∉ p.cps.toList) : Txt.split (Str.join ⟨#[c]⟩ ps) ⟨#[c]⟩ = ps :=
  (join_one h0 split_ne h (split_free hc) (StrLaws.join_split _ _).symm).symm
end L2

set_option Elab.async false
set_option linter.all false
set_option maxRecDepth 100000
set_option maxHeartbeats 4000000
namespace L2
open PySem PySem.Spec PyProof.Rows
structure Flyw (h : Heap) (H : Hp) (h0 : Heap) (e : Addr) (cls : Value) : Prop where
  ex : ∃ (oe : Obj) (vs : Array Value) (T : Addr) (oT : Obj) (ts : Array Value) (a0 : Value), h.get? e = some oe ∧ oe.cls = cls ∧ oe.data = .fields vs ∧ vs[0]? = some a0 ∧ vs[1]? = some (.ref T) ∧ T ≠ e ∧
    h.get? T = some oT ∧ oT.data = .fields ts ∧ ts[3]? = some .none ∧ H T = none ∧ h0.get? T = none
  free : H e = none
  new : h0.get? e = none
def CXow (P : Program) (w : World) : CXT := fun outer H s E x s' => ∃ (e : Addr) (cls : Value) (H' : Hp), x = .ref e ∧ Flyw s'.heap H' s.heap e cls ∧ s'.os = s.os ∧ AllBare s'.gens ∧ Un (frs outer) [] H H' s.heap s'.heap ∧ HOk P w H' s'.heap ∧ E cls none H'

section
variable {X : Cx} {pins : List (Addr × Obj)} {σ : St} {H : Hp} {s s' : Shared}
/-- the frame is left by an exception that was made here -/
theorem leave_madew {E : XK} {P : Program} {w : World} {K : PySem.W.Frag} {mg : Str → Option Value} {base : Heap} {N : List Str} {qual : Str} {scope : Scope} {f : Addr} {cd : Value} {A : Around} {outer : List Env} {s0 : Shared} {H0 : Hp}
    {h' : Heap} {e : Addr} {cls : Value} {vs : List Value} (I : Inv (cxOf (CXow P w) P w K mg base N qual scope f cd A outer s0 H0 E) pins σ H s) (m : Heap.MadeExcOf s.heap h' e cls vs) (q : E cls none H) :
    (cxOf (CXow P w) P w K mg base N qual scope f cd A outer s0 H0 E).xe (.ref e) { s with heap := h' } := by
  have hst := I.stack
  have hmem : ∀ env ∈ (envOfC qual scope s0.heap.objs.size f cd :: outer), ∀ a, env.frame = some a → a ∈ frs (envOfC qual scope s0.heap.objs.size f cd :: outer) := fun env he a ha => List.mem_filterMap.mpr ⟨env, he, ha⟩
  have hB : ∀ b o, s.heap.get? b = some o → b ∉ frs (envOfC qual scope s0.heap.objs.size f cd :: outer) → (PySem.W.hideAll s.heap (frs (envOfC qual scope s0.heap.objs.size f cd :: outer))).get? b = some o := fun b o e hb => PySem.W.hideAll_get _ e hb
  refine wpAny_leaves_madeW (base := PySem.W.hideAll s.heap (frs (envOfC qual scope s0.heap.objs.size f cd :: outer))) I.ok.frames rfl (fun b o e => PySem.W.of_hideAll _ e) (PySem.W.funFrames_hide hst hmem) m fun h'' t fl _ _ up => ?_
  have kp : ∀ b o, s.heap.get? b = some o → b ∉ frs (envOfC qual scope s0.heap.objs.size f cd :: outer) → h''.get? b = some o := fun b o e hb => fl.1 b o (hB b o e hb)
  have sl : ∀ b o, s.heap.get? b = some o → b ∈ frs (envOfC qual scope s0.heap.objs.size f cd :: outer) → ∃ sl, h''.get? b = some { o with slots := sl } := fun b o e hb => by
    obtain ⟨_, o', e', hd⟩ := hst.mem hb
    rw [e] at e'
    cases e'
    exact up b o (m.keeps b o e) hd
  have I2 : Inv (cxOf (CXow P w) P w K mg base N qual scope f cd A outer s0 H0 E) pins σ H { s with heap := h'' } := I.slots rfl I.bare kp sl
  have he : H e = none := I.hok.none_of m.new
  have h0e : s0.heap.get? e = none := by
    cases q : s0.heap.get? e with
    | none => rfl
    | some o =>
      obtain ⟨o', e'⟩ := I.old rfl q
      rw [m.new] at e'
      cases e'
  obtain ⟨_, _, hfr, oe, ws, T, oT, ts, g1, ⟨g2, g3⟩, g4, g5, g6, g7, g8, g9, g10⟩ := fl
  have hT : ∀ o, s.heap.get? T = some o → T ∈ frs (envOfC qual scope s0.heap.objs.size f cd :: outer) := fun o e => by
    by_cases hb : T ∈ frs (envOfC qual scope s0.heap.objs.size f cd :: outer)
    · exact hb
    · have := hB T o e hb
      rw [g6] at this
      cases this
  refine ⟨e, cls, H, rfl, ⟨⟨oe, ws, T, oT, ts, _, g1, g2, g4, g3, g5, g7, g8, g9, g10, ?_, ?_⟩, he, h0e⟩, I2.os, I2.bare, I2.base, I2.hok, q⟩
  · cases z : H T with
    | none => rfl
    | some u =>
      obtain ⟨ob, e'⟩ := I.hok.there z
      have := I.stkFree T (hT ob e')
      rw [z] at this
      cases this
  · cases z : s0.heap.get? T with
    | none => rfl
    | some u =>
      obtain ⟨ob, e'⟩ := I.old rfl z
      have hm := hT ob e'
      have hm' : T = s0.heap.objs.size ∨ T ∈ frs outer := List.mem_cons.mp hm
      rcases hm' with z' | z'
      · exact absurd (Heap.lt_size z) (by rw [z']; exact Nat.lt_irrefl _)
      · obtain ⟨_, o', e'', hd⟩ := hfr.mem z'
        rw [g8] at e''
        cases e''
        exact absurd g9 (hd ts)

/-- an exception of a callee leaves the frame -/
theorem leave_onw {E : XK} {P : Program} {w : World} {K : PySem.W.Frag} {mg : Str → Option Value} {base : Heap} {N : List Str} {qual : Str} {scope : Scope} {f : Addr} {cd : Value} {A : Around} {outer : List Env} {s0 : Shared} {H0 : Hp} :
    Passes (CXow P w) (cxOf (CXow P w) P w K mg base N qual scope f cd A outer s0 H0 E) E := by
  intro pins σ H s x s' I hx
  obtain ⟨e, cls, H', rfl, F, os, bare, un, hok, q⟩ := hx
  have I1 : Inv (cxOf (CXow P w) P w K mg base N qual scope f cd A outer s0 H0 E) pins σ H' s' := I.call' (ch := []) os un hok bare (fun b hb => absurd hb (by simp))
  obtain ⟨⟨oe, ws, T, oT, ts, a0, g1, g2, g3, g4, g5, g6, g7, g8, g9, g10, g11⟩, he, hn⟩ := F
  have hst := I1.stack
  have hmem : ∀ env ∈ (envOfC qual scope s0.heap.objs.size f cd :: outer), ∀ a, env.frame = some a → a ∈ e :: T :: frs (envOfC qual scope s0.heap.objs.size f cd :: outer) := fun env he a ha =>
    List.mem_cons_of_mem _ (List.mem_cons_of_mem _ (List.mem_filterMap.mpr ⟨env, he, ha⟩))
  have hB : ∀ b o, s'.heap.get? b = some o → b ∉ e :: T :: frs (envOfC qual scope s0.heap.objs.size f cd :: outer) → (PySem.W.hideAll s'.heap (e :: T :: frs (envOfC qual scope s0.heap.objs.size f cd :: outer))).get? b = some o := fun b o e hb => PySem.W.hideAll_get _ e hb
  have hfl : Heap.FlyingW (PySem.W.hideAll s'.heap (e :: T :: frs (envOfC qual scope s0.heap.objs.size f cd :: outer))) (envOfC qual scope s0.heap.objs.size f cd :: outer) e cls a0 s'.heap :=
    ⟨fun b o e => PySem.W.of_hideAll _ e, PySem.W.hideAll_none _ List.mem_cons_self, PySem.W.funFrames_hide hst hmem, oe, ws, T, oT, ts, g1, ⟨g2, g4⟩, g3, g5, PySem.W.hideAll_none _ (List.mem_cons_of_mem _ List.mem_cons_self), g6, g7, g8, g9⟩
  refine wpAny_leaves_onW I.ok.frames rfl hfl fun h'' fl up => ?_
  have nof : ∀ b, s.heap.get? b = none → s0.heap.get? b = none := fun b z => by
    cases q : s0.heap.get? b with
    | none => rfl
    | some o =>
      obtain ⟨o', e'⟩ := I.old rfl q
      rw [z] at e'
      cases e'
  -- the exception and its entry are no objects of the entry, no tracked ones, no frames
  have offe : e ∉ frs (envOfC qual scope s0.heap.objs.size f cd :: outer) := fun hb => by
    obtain ⟨_, o', e', hd⟩ := hst.mem hb
    rw [g1] at e'
    cases e'
    exact hd ws g3
  have offT : T ∉ frs (envOfC qual scope s0.heap.objs.size f cd :: outer) := fun hb => by
    obtain ⟨_, o', e', hd⟩ := hst.mem hb
    rw [g7] at e'
    cases e'
    exact hd ts g8
  have kp : ∀ b o, s'.heap.get? b = some o → b ≠ e → b ≠ T → b ∉ frs (envOfC qual scope s0.heap.objs.size f cd :: outer) → h''.get? b = some o := fun b o q n1 n2 n3 => fl.1 b o (hB b o q (by simp [n1, n2, n3]))
  have sl : ∀ b o, s'.heap.get? b = some o → b ∈ frs (envOfC qual scope s0.heap.objs.size f cd :: outer) → ∃ sl, h''.get? b = some { o with slots := sl } := fun b o q hb => by
    obtain ⟨_, o', e', hd⟩ := hst.mem hb
    rw [q] at e'
    cases e'
    exact up b o q hd
  obtain ⟨_, _, hfr, oe2, ws2, T2, oT2, ts2, k1, ⟨k2, k3⟩, k4, k5, k6, k7, k8, k9, k10⟩ := fl
  have hT2 : ∀ o, s'.heap.get? T2 = some o → T2 = T ∨ T2 ∈ frs (envOfC qual scope s0.heap.objs.size f cd :: outer) := fun o q => by
    by_cases n2 : T2 = T
    · exact .inl n2
    · by_cases n3 : T2 ∈ frs (envOfC qual scope s0.heap.objs.size f cd :: outer)
      · exact .inr n3
      · have := hB T2 o q (by simp [k7, n2, n3])
        rw [k6] at this
        cases this
  -- over the call and the leaving together
  have old : ∀ b o, s.heap.get? b = some o → b ≠ e ∧ b ≠ T := fun b o q => ⟨fun z => (by rw [z, hn] at q; cases q), fun z => (by rw [z, g11] at q; cases q)⟩
  have nt : ∀ b u, H' b = some u → b ≠ e ∧ b ≠ T ∧ b ∉ frs (envOfC qual scope s0.heap.objs.size f cd :: outer) := fun b u q => ⟨fun z => (by rw [z, he] at q; cases q), fun z => (by rw [z, g10] at q; cases q), fun z => (by rw [I1.stkFree b z] at q; cases q)⟩
  have I2 : Inv (cxOf (CXow P w) P w K mg base N qual scope f cd A outer s0 H0 E) pins σ H' { s' with heap := h'' } := by
    refine I.call' (ch := []) os ⟨fun b o q n hb _ => ?_, fun b o q n hb _ => ?_, fun b o q n hx => un.free b o q n hx, fun b o q hx => ?_, un.tups, un.frzs, un.tbls⟩ (fun b u q => ?_) bare (fun b hb => absurd hb (by simp))
    · exact kp b o (un.keep b o q n hb (by simp)) (old b o q).1 (old b o q).2 hb
    · obtain ⟨sl1, q1⟩ := un.slot b o q n hb (by simp)
      obtain ⟨sl2, q2⟩ := sl b _ q1 hb
      exact ⟨sl2, q2⟩
    · obtain ⟨o', q1⟩ := un.there b o q (by simp)
      by_cases hb : b ∈ frs (envOfC qual scope s0.heap.objs.size f cd :: outer)
      · obtain ⟨sl2, q2⟩ := sl b _ q1 hb
        exact ⟨_, q2⟩
      · exact ⟨o', kp b o' q1 (old b o q).1 (old b o q).2 hb⟩
    · refine (hok b u q).stay (fun c v hc z => ?_) (fun _ z => z) fun _ _ z => z
      rcases hc with rfl | hc
      · exact kp _ v z (nt _ _ q).1 (nt _ _ q).2.1 (nt _ _ q).2.2
      · exact kp _ v z (nt _ _ hc).1 (nt _ _ hc).2.1 (nt _ _ hc).2.2
  refine ⟨e, cls, H', rfl, ⟨⟨oe2, ws2, T2, oT2, ts2, _, k1, k2, k4, k3, k5, k7, k8, k9, k10, ?_, ?_⟩, he, nof e hn⟩, I2.os, I2.bare, I2.base, I2.hok, q⟩
  · cases z : H' T2 with
    | none => rfl
    | some u =>
      obtain ⟨ob, e'⟩ := hok.there z
      rcases hT2 ob e' with z' | z'
      · rw [z', g10] at z
        cases z
      · rw [I1.stkFree T2 z'] at z
        cases z
  · cases z : s0.heap.get? T2 with
    | none => rfl
    | some u =>
      obtain ⟨ob, e'⟩ := I1.old rfl z
      rcases hT2 ob e' with z' | z'
      · rw [z', nof T g11] at z
        cases z
      · have hm' : T2 = s0.heap.objs.size ∨ T2 ∈ frs outer := List.mem_cons.mp z'
        rcases hm' with w' | w'
        · exact absurd (Heap.lt_size z) (by rw [w']; exact Nat.lt_irrefl _)
        · obtain ⟨_, o', e'', hd⟩ := hfr.mem w'
          rw [k8] at e''
          cases e''
          exact absurd k9 (hd ts2)
end
theorem leaves_cxw {E : XK} {P : Program} {w : World} {K : PySem.W.Frag} {mg : Str → Option Value} {base : Heap} {N : List Str} {qual : Str} {scope : Scope} {f : Addr} {cd : Value} {A : Around} {outer : List Env} {s0 : Shared} {H0 : Hp} :
    Leaves (cxOf (CXow P w) P w K mg base N qual scope f cd A outer s0 H0 E) (fun _ => E) := fun _ _ _ _ _ _ _ _ I m q => leave_madew I m q

theorem passes_cxw {E : XK} {P : Program} {w : World} {K : PySem.W.Frag} {mg : Str → Option Value} {base : Heap} {N : List Str} {qual : Str} {scope : Scope} {f : Addr} {cd : Value} {A : Around} {outer : List Env} {s0 : Shared} {H0 : Hp} :
    PassesX (CXow P w) (cxOf (CXow P w) P w K mg base N qual scope f cd A outer s0 H0 E) (fun _ => E) := leave_onw
section
variable {P : Program} {w : World} {K : PySem.W.Frag} {mg : Str → Option Value} {base : Heap}
theorem Fun.okXw {x qual : Str} {st : Stmt} {f : Addr} {fd : FuncData} {N ps : List Str} {k : Nat} {sp : Sp} (F : Fun K x qual st f fd) (S : FnScope N ps (defScope st)) (len : ∀ vs H Q E, sp vs H Q E → vs.length = ps.length)
    (hbody : ∀ (cdv : Value) (A : Around) (outer : List Env) (s : Shared) (H : Hp) (vs : List V) (Q : VK) (E : XK), Room k (A.deeper (envOfC qual (defScope st) s.heap.objs.size f cdv)) → sp vs H Q E →
      ∃ t, PSs (cxOf (CXow P w) P w K mg base N qual (defScope st) f cdv A outer s H E) (defBody st) t ∧ t { nx := fun _ H' => Q .non H', rt := Q } (start N vs) H) : FnOk P w K mg base (CXow P w) (k + 1) f fd ps sp := by
  obtain ⟨oc, od, kV, doc, pm, an, cdv, ct, osl, rfl, lk, hcd⟩ := F.ex
  exact fn_of lk hcd S len fun A outer s H vs Q E hr hsp => hbody cdv A outer s H vs Q E hr hsp
end
def Cx.triedw (X : Cx) (pn : List (Addr × Obj)) (R : St → Value → Hp → Prop) : Cx :=
  { X with pn := pn, A := X.A, calm := X.calm, xe := fun x s₁ => ∃ (pins : List (Addr × Obj)) (σ : St) (H : Hp) (s : Shared), Inv { X with pn := pn, xe := X.xe, A := X.A, calm := X.calm } pins σ H s ∧ CXow X.prog X.w X.stack H s (fun cls _ H' => R σ cls H') x s₁ }
theorem passes_triedw {X : Cx} {pn : List (Addr × Obj)} {R : St → Value → Hp → Prop} : PassesX (CXow X.prog X.w) (X.triedw pn R) (fun σ cls _ H => R σ cls H) := by
  intro pins σ H s x s' I hx
  exact ⟨pins, σ, H, s, I.re (pn' := pn) (pins' := pins) (xe' := X.xe) (A' := X.A) (c' := X.calm) I.pin I.ok.hd I.ok.frames, hx⟩
theorem ps_tryw {X : Cx} {body : List Stmt} {cx n : Str} {c : Value} {np hpos pos : Pos} {b₀ : Stmt} {suite : List Stmt} {i : Nat} {tb : Ends → TS} (hc : X.calm = true) (hst : X.stack = X.env :: X.outer) (hfr : X.env.frame = some X.env.locals)
    (hN : X.N.Nodup) (hi : X.N[i]? = some n) (hl : X.env.scope.names.lookup n = some .local) (hg : Gl X cx) (hm : X.mg cx = some c) (hb : ∀ D pn, PSs (X.triedw pn (TryR X c i (b₀ :: suite) D)) body (tb D))
    (hd : (cx == ("__debug__" : Str)) = false := by decide) : PS X (.Try body [.ExceptHandler (some (.Name cx np)) (some n) (b₀ :: suite) hpos] [] [] pos) (tTry tb) := by
  intro pins s σ H D I h
  have It : Inv (X.triedw (X.pn ++ pins) (TryR X c i (b₀ :: suite) D)) [] σ H s := I.re (pins' := []) (fun p hp => I.pin p (by simpa using hp)) I.ok.hd I.ok.frames
  have back : ∀ {σ' : St} {H' : Hp} {s' : Shared}, Inv (X.triedw (X.pn ++ pins) (TryR X c i (b₀ :: suite) D)) [] σ' H' s' → Inv X pins σ' H' s' := fun {σ' H' s'} J =>
    J.re (pn' := X.pn) (pins' := pins) (xe' := X.xe) (A' := X.A) (c' := X.calm) (fun p hp => J.pin p (by simpa [Cx.triedw] using hp)) J.ok.hd J.ok.frames
  refine wpAny_Try_except (wpAny_mono (hb D (X.pn ++ pins) [] s σ H D It h) (fun f s1 q => ?_) (fun x s1 q => ?_))
  · cases f with
    | next => obtain ⟨σ', H', J, q⟩ := q; exact wpAny_execs_nil ⟨σ', H', back J, q⟩
    | brk => obtain ⟨σ', H', J, q⟩ := q; exact ⟨σ', H', back J, q⟩
    | cont => obtain ⟨σ', H', J, q⟩ := q; exact ⟨σ', H', back J, q⟩
    | ret u => obtain ⟨v, σ', H', J, r, q⟩ := q; exact ⟨v, σ', H', back J, r, q⟩
  · obtain ⟨pins', σ', H1, s0, J0, e, cls, H', rfl, F, os, bare, un, hok, hR⟩ := q
    have J : Inv X pins σ' H1 s0 := J0.re (pn' := X.pn) (pins' := pins) (xe' := X.xe) (A' := X.A) (c' := X.calm) (fun p hp => J0.pin p (List.mem_append_left _ hp)) J0.ok.hd J0.ok.frames
    obtain ⟨⟨oe, ws, T, oT, ts, a0, g1, g2, g3, g4, g5, g6, g7, g8, g9, g10, g11⟩, he, hn⟩ := F
    have J1 : Inv X pins σ' H' s1 := J.call' (ch := []) os un hok bare (fun b hb => absurd hb (by simp))
    have hst1 := J1.stack
    have hmem : ∀ env ∈ X.stack, ∀ a, env.frame = some a → a ∈ e :: T :: frs X.stack := fun env he a ha => List.mem_cons_of_mem _ (List.mem_cons_of_mem _ (List.mem_filterMap.mpr ⟨env, he, ha⟩))
    have hB : ∀ b o, s1.heap.get? b = some o → b ∉ [e, T] → b ∉ frs X.stack → (PySem.W.hideAll s1.heap (e :: T :: frs X.stack)).get? b = some o := fun b o q n1 n2 => PySem.W.hideAll_get _ q (by
      intro z
      rcases List.mem_cons.mp z with z | z
      · exact n1 (by simp [z])
      · rcases List.mem_cons.mp z with z | z
        · exact n1 (by simp [z])
        · exact n2 z)
    have hfl : Heap.FlyingW (PySem.W.hideAll s1.heap (e :: T :: frs X.stack)) X.stack e cls a0 s1.heap :=
      ⟨fun b o q => PySem.W.of_hideAll _ q, PySem.W.hideAll_none _ List.mem_cons_self, PySem.W.funFrames_hide hst1 hmem, oe, ws, T, oT, ts, g1, ⟨g2, g4⟩, g3, g5, PySem.W.hideAll_none _ (List.mem_cons_of_mem _ List.mem_cons_self), g6, g7, g8, g9⟩
    have hoff : ∀ b ∈ [e, T], s0.heap.get? b = none ∧ H' b = none := fun b hb => by
      rcases List.mem_cons.mp hb with rfl | hb
      · exact ⟨hn, he⟩
      · rcases List.mem_cons.mp hb with rfl | hb
        · exact ⟨g11, g10⟩
        · cases hb
    have far : ∀ {h2 : Heap}, Heap.FlyingW (PySem.W.hideAll s1.heap (e :: T :: frs X.stack)) X.stack e cls a0 h2 → s1.heap.UpToSlots h2 → Inv X pins σ' H' { s1 with heap := h2 } := fun {h2} fl up =>
      J.thru os bare un hok [e, T] hoff (fun b o q n1 n2 => fl.1 b o (hB b o q n1 n2)) fun b o q hb => by
        obtain ⟨_, o', e', hd⟩ := hst1.mem hb
        rw [q] at e'
        cases e'
        exact up b o q hd
    rw [hst] at hfl
    refine wpAny_looks_onW (by rw [I.ok.frames, hst]) hfr hfl fun h4 held4 up4 => ?_
    refine wpAny_landsW held4 fun h5 fl5 up5 => ?_
    have I5 : Inv X pins σ' H' { s1 with heap := h5 } := far (by rw [hst]; exact fl5) (up4.trans up5)
    refine wpAny_handleBy_cons (codeAny_handlers_test ?_) (by intro q; cases q)
    have I5' : Inv { X with pn := X.pn, xe := fun _ _ => False, A := X.A.mark (some (.ref e)), calm := false } pins σ' H' { s1 with heap := h5 } := I5.re I5.pin (fun z => absurd z (by decide)) I5.ok.frames
    refine ld_glob I5' hg hm ?_ hd
    obtain ⟨ob5, hob5, hc5⟩ := fl5.there
    refine (PySem.W.exm_one I5.kIn (looks_ty hob5 hc5) hR.1).here ?_
    refine codeAny_handlers_suite_as (lands_againW fl5 fun h6 fl6 up6 => ?_)
    have I6 : Inv X pins σ' H' { s1 with heap := h6 } := far (by rw [hst]; exact fl6) ((up4.trans up5).trans up6)
    obtain ⟨oe6, ws6, k1, k2, k3, _⟩ := fl6.first
    have I6p : Inv (X.held (X.pn ++ pins) e oe6) [] σ' H' { s1 with heap := h6 } := I6.re (fun p hp => by
      rw [List.append_nil] at hp
      rcases List.mem_append.mp hp with hp | hp
      · exact I6.pin p hp
      · have e' : p = (e, oe6) := by simpa using hp
        subst e'
        refine ⟨k1, he, fun z => ?_, fun z => ?_, fun v z => ?_⟩
        · obtain ⟨m, ⟨oL, es, ep, hoL, hdL, _⟩, _⟩ := I6.loc
          have z' : e = X.env.locals := z
          rw [← z', k1] at hoL
          cases hoL
          rw [k3] at hdL
          cases hdL
        · obtain ⟨_, o', e', hd⟩ := I6.funs.mem z
          rw [k1] at e'
          cases e'
          exact hd ws6 k3
        · have z' : oe6.data = .cell v := z
          rw [k3] at z'
          cases z') (fun z => absurd z (by decide)) I6.ok.frames
    refine store_ok (X := X.held (X.pn ++ pins) e oe6) I6p hN hi (.inl hl) (v := .ref e) rfl (fun s7 I7 => ?_) (.inr hl)
    obtain ⟨th, hth, q7⟩ := hR.2 e oe6 (X.pn ++ pins) k2
    refine wpAny_mono (hth [] s7 _ H' _ I7 q7) (fun f s8 q8 => ?_) (fun _ _ z => False.elim z)
    cases f with
    | next => obtain ⟨_, _, _, q⟩ := q8; exact False.elim q
    | brk => obtain ⟨_, _, _, q⟩ := q8; exact False.elim q
    | cont => obtain ⟨_, _, _, q⟩ := q8; exact False.elim q
    | ret u =>
      obtain ⟨v, σ8, H8, I8, rv, q⟩ := q8
      obtain ⟨m, hn8, _⟩ := I8.loc
      refine wpAny_nameGoes hl hn8 (by show (X.env.scope.kind == .class || (X.env.scope.kind == .module && X.env.locals != X.env.globals)) = false; rw [I.ok.kind]; rfl) fun h9 m9 hn9 sb9 => ?_
      have I9 := I8.forget (t' := s8.toks + 1) hn9 sb9
      refine ⟨v, List.replicate X.N.length none, H8, ?_, rv, q⟩
      exact I9.re (pn' := X.pn) (pins' := pins) (xe' := X.xe) (A' := X.A) (c' := X.calm) (fun p hp => I9.pin p (List.mem_append_left _ (List.mem_append_left _ hp))) I.ok.hd I.ok.frames
end L2

set_option Elab.async false
set_option linter.all false
set_option maxRecDepth 100000
set_option maxHeartbeats 4000000
namespace L2
open PySem PySem.Spec PyProof.Rows
/-- an exception, its mark of flight fl -/
structure Flyf (h : Heap) (H : Hp) (h0 : Heap) (ch : List Addr) (e : Addr) (cls fl : Value) : Prop where
  ex : ∃ (oe : Obj) (vs : Array Value) (T : Addr) (oT : Obj) (ts : Array Value) (a0 : Value), h.get? e = some oe ∧ oe.cls = cls ∧ oe.data = .fields vs ∧ vs[0]? = some a0 ∧ vs[1]? = some (.ref T) ∧ T ≠ e ∧
    h.get? T = some oT ∧ oT.data = .fields ts ∧ ts[3]? = some fl ∧ H T = none ∧ (h0.get? T = none ∨ T ∈ ch)
  free : H e = none
  new : h0.get? e = none ∨ e ∈ ch
def FlyingF (base : Heap) (l : List Env) (e : Addr) (cls a0 fl : Value) (h : Heap) : Prop := base.StaysIn h ∧ base.get? e = none ∧ h.FunFrames base l ∧ h.TracedAtW base e cls a0 fl
section
variable {M : Model} {A : Around} {E : Value → Shared → Prop} {s : Shared}
theorem leaves_anyW {base : Heap} {env : Env} {outer : List Env} {L e : Addr} {cls a0 fl : Value} {Q : Unit → Shared → Prop} (hfr : A.frames = some (env :: outer)) (hf : env.frame = some L) (hfl : FlyingF base (env :: outer) e cls a0 fl s.heap)
    (hQ : ∀ h', Heap.FlyingW base outer e cls a0 h' → s.heap.UpToSlots h' → Q () { s with heap := h' }) : wpAny M A (leaving env (.ref e)) Q E s := by
  obtain ⟨f1, f2, f3, f4⟩ := hfl
  by_cases q : fl = rawInt L
  · subst q
    unfold leaving
    refine wpAny_bind (wpAny_noteFrame_againW hf f4 ?_)
    refine wpAny_landsW ⟨f1, f2, f3, f4⟩ fun h' k up => ?_
    obtain ⟨k1, k2, ⟨_, _, k3⟩, k4⟩ := k
    exact hQ h' ⟨k1, k2, k3, k4⟩ up
  · obtain ⟨oe, vs, T, oT, ts, he, ⟨hcls, h0⟩, hd, h1, hnT, hTe, hT, hdT, h3⟩ := f4
    subst hcls
    unfold leaving noteFrame
    simp only [hf]
    refine wpAny_bind (wpAny_bind (wpAny_field he hd h1 ?_))
    rw [if_pos (show (Value.ref T != Value.none) = true from by simp)]
    refine wpAny_bind (wpAny_field hT hdT h3 ?_)
    rw [if_neg (show ¬ ((fl == rawInt L) = true) from fun z => q (eq_of_beq z))]
    refine wpAny_bind (wpAny_setField hT hdT (Array.getElem?_eq_some_iff.mp h3).1 ?_)
    have other : ∀ b, b ≠ T → (s.heap.update T (Obj.mapFields (·.setIfInBounds 3 Value.none))).get? b = s.heap.get? b := fun b hb => Heap.get?_update_other _ _ (Ne.symm hb)
    have noRecord : ∀ b o, s.heap.get? b = some o → (∀ vs, o.data ≠ .fields vs) → b ≠ T := fun b o hb hnf q => by
      rw [q, hT] at hb
      cases hb
      exact hnf ts hdT
    refine wpAny_newEntryW hfr (f3.of_keeps fun b o hb hnf => ⟨o, (other b (noRecord b o hb hnf)).trans hb, rfl⟩) hf ((other e (Ne.symm hTe)).trans he)
      (fun b o hbo => (other b fun q => by rw [q, hnT] at hbo; cases hbo).trans (f1 b o hbo)) f2 hd (Array.getElem?_eq_some_iff.mp h1).1 h0
      fun h' hL => ?_
    obtain ⟨k1, ⟨_, _, k2⟩, k3, k4⟩ := hL
    exact hQ h' ⟨k1, f2, k2, k3⟩ fun b o hb hnf => k4 b o ((other b (noRecord b o hb hnf)).trans hb) hnf
end
section
variable {X : Cx} {pins : List (Addr × Obj)} {σ : St} {H : Hp} {s s' : Shared}
/-- an exception of a callee leaves the frame -/
theorem leave_anyw {fl cls : Value} {ch : List Addr} {e : Addr} {H' : Hp} {E : XK} {P : Program} {w : World} {K : PySem.W.Frag} {mg : Str → Option Value} {base : Heap} {N : List Str} {qual : Str} {scope : Scope} {f : Addr} {cd : Value} {A : Around} {outer : List Env} {s0 : Shared} {H0 : Hp}
    (I : Inv (cxOf (CXow P w) P w K mg base N qual scope f cd A outer s0 H0 E) pins σ H s) (hch : ∀ b ∈ ch, (b ∈ (cxOf (CXow P w) P w K mg base N qual scope f cd A outer s0 H0 E).ex ∨ s0.heap.objs.size ≤ b) ∧ b ≠ s0.heap.objs.size ∧ (∀ x c, (cxOf (CXow P w) P w K mg base N qual scope f cd A outer s0 H0 E).env.cells.lookup x = some c → c ≠ b) ∧ ∀ p ∈ (cxOf (CXow P w) P w K mg base N qual scope f cd A outer s0 H0 E).pn ++ pins, p.1 ≠ b)
    (os : s'.os = s.os) (bare : AllBare s'.gens) (un : Un (frs (envOfC qual scope s0.heap.objs.size f cd :: outer)) ch H H' s.heap s'.heap) (hok : HOk P w H' s'.heap) (F : Flyf s'.heap H' s.heap ch e cls fl) (q : E cls none H') :
    (cxOf (CXow P w) P w K mg base N qual scope f cd A outer s0 H0 E).xe (.ref e) s' := by
  have I1 : Inv (cxOf (CXow P w) P w K mg base N qual scope f cd A outer s0 H0 E) pins σ H' s' := I.call' (ch := ch) os un hok bare hch
  obtain ⟨⟨oe, ws, T, oT, ts, a0, g1, g2, g3, g4, g5, g6, g7, g8, g9, g10, g11⟩, he, hn⟩ := F
  have hst := I1.stack
  have hmem : ∀ env ∈ (envOfC qual scope s0.heap.objs.size f cd :: outer), ∀ a, env.frame = some a → a ∈ e :: T :: frs (envOfC qual scope s0.heap.objs.size f cd :: outer) := fun env he a ha =>
    List.mem_cons_of_mem _ (List.mem_cons_of_mem _ (List.mem_filterMap.mpr ⟨env, he, ha⟩))
  have hB : ∀ b o, s'.heap.get? b = some o → b ∉ e :: T :: frs (envOfC qual scope s0.heap.objs.size f cd :: outer) → (PySem.W.hideAll s'.heap (e :: T :: frs (envOfC qual scope s0.heap.objs.size f cd :: outer))).get? b = some o := fun b o e hb => PySem.W.hideAll_get _ e hb
  have hfl : FlyingF (PySem.W.hideAll s'.heap (e :: T :: frs (envOfC qual scope s0.heap.objs.size f cd :: outer))) (envOfC qual scope s0.heap.objs.size f cd :: outer) e cls a0 fl s'.heap :=
    ⟨fun b o e => PySem.W.of_hideAll _ e, PySem.W.hideAll_none _ List.mem_cons_self, PySem.W.funFrames_hide hst hmem, oe, ws, T, oT, ts, g1, ⟨g2, g4⟩, g3, g5, PySem.W.hideAll_none _ (List.mem_cons_of_mem _ List.mem_cons_self), g6, g7, g8, g9⟩
  refine leaves_anyW I.ok.frames rfl hfl fun h'' fl up => ?_
  have nof : ∀ b, (s.heap.get? b = none ∨ b ∈ ch) → s0.heap.get? b = none := fun b z => by
    cases q : s0.heap.get? b with
    | none => rfl
    | some o =>
      rcases z with z | z
      · obtain ⟨o', e'⟩ := I.old rfl q
        rw [z] at e'
        cases e'
      · rcases (hch b z).1 with z' | z'
        · exact absurd (show b ∈ ([] : List Addr) from z') (by simp)
        · exact absurd (Heap.lt_size q) (Nat.not_lt.mpr z')
  -- the exception and its entry are no objects of the entry, no tracked ones, no frames
  have offe : e ∉ frs (envOfC qual scope s0.heap.objs.size f cd :: outer) := fun hb => by
    obtain ⟨_, o', e', hd⟩ := hst.mem hb
    rw [g1] at e'
    cases e'
    exact hd ws g3
  have offT : T ∉ frs (envOfC qual scope s0.heap.objs.size f cd :: outer) := fun hb => by
    obtain ⟨_, o', e', hd⟩ := hst.mem hb
    rw [g7] at e'
    cases e'
    exact hd ts g8
  have kp : ∀ b o, s'.heap.get? b = some o → b ≠ e → b ≠ T → b ∉ frs (envOfC qual scope s0.heap.objs.size f cd :: outer) → h''.get? b = some o := fun b o q n1 n2 n3 => fl.1 b o (hB b o q (by simp [n1, n2, n3]))
  have sl : ∀ b o, s'.heap.get? b = some o → b ∈ frs (envOfC qual scope s0.heap.objs.size f cd :: outer) → ∃ sl, h''.get? b = some { o with slots := sl } := fun b o q hb => by
    obtain ⟨_, o', e', hd⟩ := hst.mem hb
    rw [q] at e'
    cases e'
    exact up b o q hd
  obtain ⟨_, _, hfr, oe2, ws2, T2, oT2, ts2, k1, ⟨k2, k3⟩, k4, k5, k6, k7, k8, k9, k10⟩ := fl
  have hT2 : ∀ o, s'.heap.get? T2 = some o → T2 = T ∨ T2 ∈ frs (envOfC qual scope s0.heap.objs.size f cd :: outer) := fun o q => by
    by_cases n2 : T2 = T
    · exact .inl n2
    · by_cases n3 : T2 ∈ frs (envOfC qual scope s0.heap.objs.size f cd :: outer)
      · exact .inr n3
      · have := hB T2 o q (by simp [k7, n2, n3])
        rw [k6] at this
        cases this
  -- over the call and the leaving together
  have old : ∀ b o, s.heap.get? b = some o → b ∉ ch → b ≠ e ∧ b ≠ T := fun b o q hx => ⟨fun z => hn.elim (fun hn => by rw [z, hn] at q; cases q) (fun hn => hx (z ▸ hn)), fun z => g11.elim (fun hn => by rw [z, hn] at q; cases q) (fun hn => hx (z ▸ hn))⟩
  have nt : ∀ b u, H' b = some u → b ≠ e ∧ b ≠ T ∧ b ∉ frs (envOfC qual scope s0.heap.objs.size f cd :: outer) := fun b u q => ⟨fun z => (by rw [z, he] at q; cases q), fun z => (by rw [z, g10] at q; cases q), fun z => (by rw [I1.stkFree b z] at q; cases q)⟩
  have I2 : Inv (cxOf (CXow P w) P w K mg base N qual scope f cd A outer s0 H0 E) pins σ H' { s' with heap := h'' } := by
    refine I.call' (ch := ch) os ⟨fun b o q n hb hx => ?_, fun b o q n hb hx => ?_, fun b o q n hx => un.free b o q n hx, fun b o q hx => ?_, un.tups, un.frzs, un.tbls⟩ (fun b u q => ?_) bare hch
    · exact kp b o (un.keep b o q n hb hx) (old b o q hx).1 (old b o q hx).2 hb
    · obtain ⟨sl1, q1⟩ := un.slot b o q n hb hx
      obtain ⟨sl2, q2⟩ := sl b _ q1 hb
      exact ⟨sl2, q2⟩
    · obtain ⟨o', q1⟩ := un.there b o q hx
      by_cases hb : b ∈ frs (envOfC qual scope s0.heap.objs.size f cd :: outer)
      · obtain ⟨sl2, q2⟩ := sl b _ q1 hb
        exact ⟨_, q2⟩
      · exact ⟨o', kp b o' q1 (old b o q hx).1 (old b o q hx).2 hb⟩
    · refine (hok b u q).stay (fun c v hc z => ?_) (fun _ z => z) fun _ _ z => z
      rcases hc with rfl | hc
      · exact kp _ v z (nt _ _ q).1 (nt _ _ q).2.1 (nt _ _ q).2.2
      · exact kp _ v z (nt _ _ hc).1 (nt _ _ hc).2.1 (nt _ _ hc).2.2
  refine ⟨e, cls, H', rfl, ⟨⟨oe2, ws2, T2, oT2, ts2, _, k1, k2, k4, k3, k5, k7, k8, k9, k10, ?_, ?_⟩, he, nof e hn⟩, I2.os, I2.bare, I2.base, I2.hok, q⟩
  · cases z : H' T2 with
    | none => rfl
    | some u =>
      obtain ⟨ob, e'⟩ := hok.there z
      rcases hT2 ob e' with z' | z'
      · rw [z', g10] at z
        cases z
      · rw [I1.stkFree T2 z'] at z
        cases z
  · cases z : s0.heap.get? T2 with
    | none => rfl
    | some u =>
      obtain ⟨ob, e'⟩ := I1.old rfl z
      rcases hT2 ob e' with z' | z'
      · rw [z', nof T g11] at z
        cases z
      · have hm' : T2 = s0.heap.objs.size ∨ T2 ∈ frs outer := List.mem_cons.mp z'
        rcases hm' with w' | w'
        · exact absurd (Heap.lt_size z) (by rw [w']; exact Nat.lt_irrefl _)
        · obtain ⟨_, o', e'', hd⟩ := hfr.mem w'
          rw [k8] at e''
          cases e''
          exact absurd k9 (hd ts2)
end
end L2

set_option Elab.async false
set_option linter.all false
set_option maxRecDepth 100000
set_option maxHeartbeats 4000000
namespace L2
open PySem PySem.Spec PyProof.Rows
theorem noteFrame_frame {x : Value} {env env' : Env} (h : env.frame = env'.frame) : noteFrame x env = noteFrame x env' := by
  unfold noteFrame PySem.frameOf
  rw [h]
/-- what an exception that comes from within must show to leave the frame -/
def LeaveAny (X : Cx) (R : Value → Hp → Prop) : Prop := ∀ (pins : List (Addr × Obj)) (σ : St) (H : Hp) (s s' : Shared) (ch : List Addr) (e : Addr) (cls fl : Value) (H' : Hp), Inv X pins σ H s →
  (∀ b ∈ ch, (b ∈ X.ex ∨ X.s₀.heap.objs.size ≤ b) ∧ b ≠ X.env.locals ∧ (∀ x c, X.env.cells.lookup x = some c → c ≠ b) ∧ ∀ p ∈ X.pn ++ pins, p.1 ≠ b) → s'.os = s.os → AllBare s'.gens → Un (frs X.stack) ch H H' s.heap s'.heap → HOk X.prog X.w H' s'.heap →
  Flyf s'.heap H' s.heap ch e cls fl → R cls H' → X.xe (.ref e) s'
theorem leaveAny_cx {E : XK} {P : Program} {w : World} {K : PySem.W.Frag} {mg : Str → Option Value} {base : Heap} {N : List Str} {qual : Str} {scope : Scope} {f : Addr} {cd : Value} {A : Around} {outer : List Env} {s0 : Shared} {H0 : Hp} :
    LeaveAny (cxOf (CXow P w) P w K mg base N qual scope f cd A outer s0 H0 E) (fun cls H => E cls none H) := fun _ _ _ _ _ _ _ _ _ _ I hch os bare un hok F q => leave_anyw I hch os bare un hok F q
def Cx.blockX (X : Cx) (N : List Str) (scope : Scope) (C : Addr) (s : Shared) (H : Hp) (ex : List Addr) (R : Value → Hp → Prop) : Cx :=
  { X.block N scope C s H ex with xe := fun x s₁ => ∃ (pins : List (Addr × Obj)) (τ : St) (H7 : Hp) (s7 : Shared), Inv (X.block N scope C s H ex) pins τ H7 s7 ∧ CXow X.prog X.w X.stack H7 s7 (fun cls _ H' => R cls H') x s₁ }
theorem passes_block {X : Cx} {N : List Str} {scope : Scope} {C : Addr} {s : Shared} {H : Hp} {ex : List Addr} {R : Value → Hp → Prop} : PassesX (CXow X.prog X.w) (X.blockX N scope C s H ex R) (fun _ cls _ H => R cls H) := by
  intro pins σ H s x s' I hx
  exact ⟨pins, σ, H, s, I.re (pn' := []) (pins' := pins) I.pin I.ok.hd I.ok.frames, hx⟩
section
variable {X : Cx} {pins : List (Addr × Obj)} {σ : St} {s : Shared} {N : List Str} {sc : Scope} {cap : List (Option Nat)} {elt tg iter : Expr} {ifs : List Expr} {pos : Pos} {wi : TI} {g : TG} {tc : TT} {te : TE}
theorem comp_blockX {R : Value → Hp → Prop} {J : It} {H : Hp} {it : Addr} {fp : List Addr} {tn : Nat → Heap → Prop} {Q : VK} {RR : Value → Addr → Result → Shared → Prop} (hc : X.calm = true) (B : BlockOk X.N X.env.scope N sc cap)
    (hg : ∀ C s H ex, PG (X.blockX N sc C s H ex R) tg g) (ht : ∀ C s H ex, PTs (X.blockX N sc C s H ex R) ifs tc) (he : ∀ C s H ex, PE (X.blockX N sc C s H ex R) elt te)
    (I : Inv X pins σ H s) (T : Turn X.prog X.w X.K tg J fp it tn) (h0 : tn 0 s.heap) (hf : ∀ b ∈ fp, FpOk X pins H b)
    (h : ∀ D, H D = none → CompW J g tc te (capSt cap σ) H Q D)
    (hRR : ∀ D C s', CompEnd X pins σ Q D C s' → RR (.ref D) C (.ok .next) s') (hst : X.stack = X.env :: X.outer) (hfr : X.env.frame = some X.env.locals) (hLA : LeaveAny X R)
    (hRE : ∀ D C x s', (∃ m, s'.heap.Ns C m ∧ ∀ h', Heap.SameBut C s'.heap h' → ∀ cenv : Env, cenv.locals = C → wpAny (model X.prog X.w) X.A (passOn "comprehension.variables-let-go" x cenv : Sem Value) (fun _ _ => False) X.xe { s' with heap := h' }) → RR (.ref D) C (.error x) s') :
    wpAny (model X.prog X.w) X.A (newList []) (fun acc s₃ => wpAny (model X.prog X.w) X.A (newFunctionEnv sc X.env.globals (closF X.env.cells sc.names []) [] X.env.qual none .none (some X.env)) (fun cenv s₄ =>
      codeAny (model X.prog X.w) X.A (.compStart (.ListComp elt [⟨tg, iter, ifs, 0⟩] sc pos) 0 (.ref it) acc { cenv with scope := relabel sc X.env }) (RR acc cenv.locals) s₄) X.xe s₃) X.xe s := by
  refine wpAny_newObj_type (wpAny_newFunctionEnv B.nocell (by intro y hy; simp at hy) (fun h₁ hns₁ hsb₁ => ?_) B.kind)
  dsimp only at hns₁ hsb₁ ⊢
  generalize hH2 : s.heap.push { cls := .type "list", dict := none, data := .seq ([] : List Value).toArray } = H2 at hns₁ hsb₁ ⊢
  have hC : H2.objs.size = s.heap.objs.size + 1 := by rw [← hH2, Heap.size_push]
  have hDC : s.heap.objs.size ≠ H2.objs.size := by rw [hC]; exact Nat.ne_of_lt (Nat.lt_succ_self _)
  have lo : ∀ b o, s.heap.get? b = some o → h₁.get? b = some o := fun b o e =>
    hsb₁.extBut b o (by rw [hC]; exact Nat.ne_of_lt (Nat.lt_succ_of_lt (Heap.lt_size e))) (Heap.get?_push_of_some _ (hH2 ▸ Heap.get?_push_of_some _ e))
  have hacc : h₁.get? s.heap.objs.size = some { cls := .type "list", data := .seq ([] : List Value).toArray } := hsb₁.extBut _ _ hDC (Heap.get?_push_of_some _ (hH2 ▸ Heap.get?_push_size _ rfl))
  have hfs : ∀ b ∈ fp, FpOk X pins H b ∧ b < s.heap.objs.size := fun b hb => by
    obtain ⟨o, e, _⟩ := T.obj 0 _ h0 b hb
    exact ⟨hf b hb, Heap.lt_size e⟩
  obtain ⟨W, ⟨m0, w0⟩, turn⟩ := h s.heap.objs.size (I.hok.fresh (Nat.le_refl _))
  generalize hCg : H2.objs.size = C at hns₁ hsb₁ hC hDC ⊢
  have I00 := block_start (t' := s.toks + ([] : List (Str × Value)).length) I B hfs rfl hC lo hacc ⟨_, hns₁⟩
  have I0 : Inv (X.blockX N sc C s H fp R) [] _ _ _ := I00.re (pn' := []) (pins' := []) I00.pin I00.ok.hd I00.ok.frames
  have h01 : tn 0 h₁ := T.keep 0 _ _ h0 fun b _ o e => lo b o e
  have cne : ∀ x c, (closF X.env.cells sc.names []).lookup x = some c → X.env.cells.lookup x = some c := fun x c e => B.back I.ok e
  -- the iterator's objects within the block
  have stat : ∀ {H' : Hp}, (∀ b ∈ fp, H' b = none) → ∀ b ∈ fp, FpOk (X.blockX N sc C s H fp R) [] H' b := fun {H'} hn b hb => by
    obtain ⟨f, lt⟩ := hfs b hb
    refine ⟨hn b hb, ?_, fun z => ?_, .inl hb, fun x c e => f.2.2.2.2.1 x c (cne x c e), fun p hp => absurd (show p ∈ ([] : List (Addr × Obj)) ++ [] from hp) (by simp)⟩
    · show b ≠ C
      rw [hC]; exact Nat.ne_of_lt (Nat.lt_succ_of_lt lt)
    · rcases List.mem_cons.mp (I.stkSub b z) with e | e
      · exact f.2.1 e
      · exact f.2.2.1 e
  have fin : ∀ {τ : St} {H' : Hp} {s' : Shared}, Inv (X.blockX N sc C s H fp R) [] τ H' s' → Q (.ref s.heap.objs.size) H' → CompEnd X pins σ Q s.heap.objs.size C s' := fun {τ H' s'} J' q => by
    have hch : ∀ b ∈ fp, (b ∈ X.ex ∨ X.s₀.heap.objs.size ≤ b) ∧ b ≠ X.env.locals ∧ (∀ x c, X.env.cells.lookup x = some c → c ≠ b) ∧ ∀ p ∈ X.pn ++ pins, p.1 ≠ b := fun b hb =>
      let f := hf b hb; ⟨f.2.2.2.1, f.2.1, f.2.2.2.2.1, f.2.2.2.2.2⟩
    refine ⟨H', I.call' (ch := fp) J'.os J'.base J'.hok J'.bare hch, I.fpOk (by rw [hC]; exact Nat.le_succ _) J'.free, ?_, q⟩
    obtain ⟨m, hn, _⟩ := J'.loc
    exact ⟨m, hn⟩
  have hCn : s.heap.get? C = none := by
    cases q : s.heap.get? C with
    | none => rfl
    | some o => exact absurd (Heap.lt_size q) (by rw [hC]; exact Nat.not_lt.mpr (Nat.le_succ _))
  have err : ∀ {x : Value} {s₁ : Shared}, (X.blockX N sc C s H fp R).xe x s₁ → notedBy (model X.prog X.w) X.A (X.blockX N sc C s H fp R).env (fun e s' => RR (.ref s.heap.objs.size) C (.error e) s') x s₁ := fun {x s₁} z => by
    obtain ⟨pins', τ, H7, s7, J, e, cls, H', rfl, F, os, bare, un, hok, hR⟩ := z
    have hch : ∀ b ∈ fp, (b ∈ X.ex ∨ X.s₀.heap.objs.size ≤ b) ∧ b ≠ X.env.locals ∧ (∀ x c, X.env.cells.lookup x = some c → c ≠ b) ∧ ∀ p ∈ X.pn ++ pins, p.1 ≠ b := fun b hb =>
      let f := hf b hb; ⟨f.2.2.2.1, f.2.1, f.2.2.2.2.1, f.2.2.2.2.2⟩
    obtain ⟨⟨oe, ws, T, oT, ts, a0, g1, g2, g3, g4, g5, g6, g7, g8, g9, g10, g11⟩, he, hn⟩ := F
    have J1 : Inv (X.block N sc C s H fp) pins' τ H' s₁ := J.call' (ch := []) os un hok bare (fun b hb => absurd hb (by simp))
    have hst1 : s₁.heap.FunFrames X.base X.stack := J1.funs
    have hmem : ∀ env ∈ X.stack, ∀ a, env.frame = some a → a ∈ e :: T :: frs X.stack := fun env he a ha => List.mem_cons_of_mem _ (List.mem_cons_of_mem _ (List.mem_filterMap.mpr ⟨env, he, ha⟩))
    have hB : ∀ b o, s₁.heap.get? b = some o → b ∉ [e, T] → b ∉ frs X.stack → (PySem.W.hideAll s₁.heap (e :: T :: frs X.stack)).get? b = some o := fun b o q n1 n2 => PySem.W.hideAll_get _ q (by
      intro z
      rcases List.mem_cons.mp z with z | z
      · exact n1 (by simp [z])
      · rcases List.mem_cons.mp z with z | z
        · exact n1 (by simp [z])
        · exact n2 z)
    have hfl : Heap.FlyingW (PySem.W.hideAll s₁.heap (e :: T :: frs X.stack)) X.stack e cls a0 s₁.heap :=
      ⟨fun b o q => PySem.W.of_hideAll _ q, PySem.W.hideAll_none _ List.mem_cons_self, PySem.W.funFrames_hide hst1 hmem, oe, ws, T, oT, ts, g1, ⟨g2, g4⟩, g3, g5, PySem.W.hideAll_none _ (List.mem_cons_of_mem _ List.mem_cons_self), g6, g7, g8, g9⟩
    have hoff : ∀ b ∈ [e, T], s7.heap.get? b = none ∧ H' b = none := fun b hb => by
      rcases List.mem_cons.mp hb with rfl | hb
      · exact ⟨hn, he⟩
      · rcases List.mem_cons.mp hb with rfl | hb
        · exact ⟨g11, g10⟩
        · cases hb
    have hfl' : Heap.FlyingW (PySem.W.hideAll s₁.heap (e :: T :: frs X.stack)) (X.env :: X.outer) e cls a0 s₁.heap := by
      rw [← hst]
      exact hfl
    unfold notedBy
    rw [noteFrame_frame (env := (X.blockX N sc C s H fp R).env) (env' := X.env) rfl]
    refine wpAny_looks_onW (by rw [I.ok.frames, hst]) hfr hfl' fun h4 held4 up4 => ?_
    have J4 : Inv (X.block N sc C s H fp) pins' τ H' { s₁ with heap := h4 } := J.thru os bare un hok [e, T] hoff (fun b o q n1 n2 => held4.1 b o (hB b o q n1 n2)) fun b o q hb => by
      obtain ⟨_, o', e', hd⟩ := hst1.mem hb
      rw [q] at e'
      cases e'
      exact up4 b o q hd
    obtain ⟨m, hnC, _⟩ := J4.loc
    refine hRE _ _ _ _ ⟨m, hnC, fun h5 sb cenv hcl => ?_⟩
    obtain ⟨_, _, hf4, oe4, ws4, T4, oT4, ts4, k1, ⟨k2, k3⟩, k4, k5, k6, k7, k8, k9, k10⟩ := held4
    have ndC : ∀ b o vs, h4.get? b = some o → o.data = .fields vs → b ≠ C := fun b o vs q d z => by
      obtain ⟨o', es, ep, ho', hd', _⟩ := hnC
      have z' : b = (X.block N sc C s H fp).env.locals := z
      rw [← z', q] at ho'
      cases ho'
      rw [d] at hd'
      cases hd'
    have e5 : h5.get? e = some oe4 := (sb.2 e (ndC e _ _ k1 k4)).trans k1
    have t5 : h5.get? T4 = some oT4 := (sb.2 T4 (ndC T4 _ _ k8 k9)).trans k8
    have sz3 : 3 < ts4.size := (Array.getElem?_eq_some_iff.mp k10).1
    unfold PySem.passOn
    refine wpAny_bind (wpAny_field e5 k4 k5 ?_)
    rw [if_neg (by simp)]
    refine wpAny_bind ?_
    unfold setFlight
    refine wpAny_bind (wpAny_field e5 k4 k5 ?_)
    rw [if_pos (show (Value.ref T4 != Value.none) = true from by simp)]
    refine wpAny_setField t5 k9 sz3 (wpAny_throw ?_)
    generalize (cenv.frame.elim Value.none fun f => rawInt f) = fl
    have neT : ∀ b, b ≠ T4 → (h5.update T4 (Obj.mapFields (·.setIfInBounds 3 fl))).get? b = h5.get? b := fun b hb => Heap.get?_update_other _ _ (Ne.symm hb)
    have ne9 : ∀ b, b ≠ C → b ≠ T4 → (h5.update T4 (Obj.mapFields (·.setIfInBounds 3 fl))).get? b = h4.get? b := fun b h1 h2 => (neT b h2).trans (sb.2 b h1)
    -- T4 stands nowhere that is tracked, and is no frame
    have tT : H' T4 = none := by
      cases q : H' T4 with
      | none => rfl
      | some u =>
        have hT2 : ∀ o, s₁.heap.get? T4 = some o → T4 = T ∨ T4 ∈ frs X.stack := fun o q => by
          by_cases n2 : T4 = T
          · exact .inl n2
          · by_cases n3 : T4 ∈ frs X.stack
            · exact .inr n3
            · have := hB T4 o q (by simp [k7, n2]) n3
              rw [k6] at this
              cases this
        obtain ⟨ob, e'⟩ := hok.there q
        rcases hT2 ob e' with z' | z'
        · rw [z', g10] at q
          cases q
        · rw [J1.stkFree T4 z'] at q
          cases q
    have nwT : s.heap.get? T4 = none ∨ T4 ∈ fp := by
      by_cases hb : T4 ∈ fp
      · exact .inr hb
      · refine .inl ?_
        cases q : s.heap.get? T4 with
        | none => rfl
        | some o =>
          obtain ⟨o7, q7⟩ := J.base.there T4 o q hb
          obtain ⟨o1, q1⟩ := un.there T4 o7 q7 (by simp)
          by_cases n2 : T4 = T
          · rw [n2, g11] at q7
            cases q7
          · by_cases n3 : T4 ∈ frs X.stack
            · obtain ⟨_, o', e'', hd⟩ := hf4.mem (by rw [hst] at n3; exact n3)
              rw [k8] at e''
              cases e''
              exact absurd k9 (hd ts4)
            · have := hB T4 o1 q1 (by simp [k7, n2]) n3
              rw [k6] at this
              cases this
    have nwe : s.heap.get? e = none ∨ e ∈ fp := by
      by_cases hb : e ∈ fp
      · exact .inr hb
      · refine .inl ?_
        cases q : s.heap.get? e with
        | none => rfl
        | some o =>
          obtain ⟨o7, q7⟩ := J.base.there e o q hb
          rw [hn] at q7
          cases q7
    have off : ∀ b o, s.heap.get? b = some o → b ∉ fp → b ≠ C ∧ b ≠ T4 := fun b o q hx => ⟨fun z => (by rw [z, hCn] at q; cases q), fun z => nwT.elim (fun h => by rw [z, h] at q; cases q) (fun h => hx (z ▸ h))⟩
    have b4 := J4.base
    refine hLA pins σ H s _ fp e cls fl H' I hch J4.os J4.bare ⟨fun b o q n hb hx => ?_, fun b o q n hb hx => ?_, b4.free, fun b o q hx => ?_, b4.tups, b4.frzs, b4.tbls⟩ (fun b u q => ?_) ⟨⟨oe4, ws4, T4, _, _, _, ?_, k2, k4, k3, k5, k7, Heap.get?_update_self _ t5 (Obj.isFreed_of_fields (Obj.data_mapFields k9 _)), Obj.data_mapFields k9 _, by simp [sz3], tT, nwT⟩, he, nwe⟩ hR
    · rw [ne9 b (off b o q hx).1 (off b o q hx).2]
      exact b4.keep b o q n hb hx
    · rw [ne9 b (off b o q hx).1 (off b o q hx).2]
      exact b4.slot b o q n hb hx
    · rw [ne9 b (off b o q hx).1 (off b o q hx).2]
      exact b4.there b o q hx
    · have nC : H' C = none := J4.free
      have ne : ∀ c v, H' c = some v → c ≠ C ∧ c ≠ T4 := fun c v z => ⟨fun z' => (by rw [z', nC] at z; cases z), fun z' => (by rw [z', tT] at z; cases z)⟩
      refine (J4.hok b u q).stay (fun c v hc z => ?_) (fun _ z => z) fun _ _ z => z
      rcases hc with rfl | hc
      · rw [ne9 _ (ne _ _ q).1 (ne _ _ q).2]
        exact z
      · rw [ne9 _ (ne _ _ hc).1 (ne _ _ hc).2]
        exact z
    · rw [neT e (Ne.symm k7)]
      exact e5
  have loop : ∀ s₃ : Shared, s₃ = { s with heap := h₁, toks := s.toks + ([] : List (Str × Value)).length } →
      codeAny (model X.prog X.w) X.A (.compLoop (.ListComp elt [⟨tg, iter, ifs, 0⟩] sc pos) 0 (.ref it) (.ref s.heap.objs.size) (X.blockX N sc C s H fp R).env) (RR (.ref s.heap.objs.size) C) s₃ := by
    rintro s₃ rfl
    refine compLoop_any (fun n s' => ∃ i ys τ H', Inv (X.blockX N sc C s H fp R) [] τ H' s' ∧ tn i s'.heap ∧ (∀ b ∈ fp, H' b = none) ∧ W i n ys τ H') ?_ m0 ⟨0, [], _, _, I0, h01, fun b hb => ?_, w0⟩
    · rintro n s3 ⟨i, ys, τ, H3, I3, st3, fr3, w3⟩
      obtain ⟨hD3, stop | ⟨go, hlt, M, hM, step⟩⟩ := turn i n ys τ H3 w3
      · refine thn (T.done (X.blockX N sc C s H fp R) rfl rfl rfl hc i [] s3 τ H3 _ I3 (stat fr3) st3 stop.1) fun r s4 ⟨hr, I4⟩ => ?_
        subst hr
        exact hRR _ _ _ (fin I4 stop.2)
      · refine thn (T.item (X.blockX N sc C s H fp R) rfl rfl rfl hc i [] s3 τ H3 _ I3 (stat fr3) st3 go) fun r s4 ⟨u, hr, h4⟩ => ?_
        subst hr
        refine thn h4 fun _ s5 ⟨x, H5, I5, r5, y5, st5, fr5⟩ => ?_
        have I5' := I5.pinned (stat fr5) (T.obj _ _ st5)
        refine wpAny_mono (hg C s H fp _ s5 τ H5 x u _ I5' r5 (step x H5 y5)) (fun _ s6 ⟨τ6, H6, I6, q6⟩ => ?_) (fun _ _ z => err z)
        refine wpAny_mono (ht C s H fp _ s6 τ6 H6 _ I6 q6) (fun ok s7 ⟨H7, I7, q7⟩ => ?_) (fun _ _ z => err z)
        have again : ∀ {τ8 : St} {H8 : Hp} {s8 : Shared} {zs : List V}, Inv (X.blockX N sc C s H fp R) ([] ++ pinsAt fp s5.heap) τ8 H8 s8 → M zs τ8 H8 →
            ∃ m, m < n ∧ ∃ i ys τ H', Inv (X.blockX N sc C s H fp R) [] τ H' s8 ∧ tn i s8.heap ∧ (∀ b ∈ fp, H' b = none) ∧ W i m ys τ H' := fun {τ8 H8 s8 zs} I8 w8' => by
          obtain ⟨m', hm, w8⟩ := hM zs τ8 H8 w8'
          refine ⟨m', hm, i + 1, zs, τ8, H8, I8.unpinned, T.keep _ _ _ st5 fun b hb o e => (I8.pin (b, o) (List.mem_append_right _ (List.mem_append_right _ (mem_pinsAt hb e)))).1, fun b hb => ?_, w8⟩
          obtain ⟨o, e, d⟩ := T.obj _ _ st5 b hb
          exact (I8.pin (b, o) (List.mem_append_right _ (List.mem_append_right _ (mem_pinsAt hb e)))).2.1
        cases ok with
        | false => exact again I7 q7
        | true =>
          refine wpAny_mono (he C s H fp _ s7 τ6 H7 _ I7 q7) (fun v s8 ⟨y, H8, I8, r8, hD8, q8⟩ => ?_) (fun _ _ z => err z)
          refine wpAny_mono (mt_append (X := X.blockX N sc C s H fp R) _ s8 τ6 H8 (.ref s.heap.objs.size) [y] (.ref s.heap.objs.size) [v] (fun _ H9 => M (ys ++ [y]) τ6 H9) I8 rfl (.cons r8 .nil) ⟨_, ys, y, rfl, rfl, hD8, hlt, q8⟩) (fun _ s9 ⟨_, H9, I9, _, q9⟩ => again I9 q9) (fun _ _ z => err z)
    · have hne : b ≠ s.heap.objs.size := Nat.ne_of_lt (hfs b hb).2
      rw [upd_ne hne]
      exact (hf b hb).1
  exact codeAny_compStart_list (loop _ rfl) (T.self X.A 0 _ _ _ h01 (loop _ rfl))

/-- name = comprehension, where the store comes ahead of the block's leaving -/
theorem ps_setCX {R : Value → Hp → Prop} {i : Nat} {y : Str} {py spos : Pos} (hN : X.N.Nodup) (hiN : X.N[i]? = some y) (hx : Loc X.env.scope y) (hc : X.calm = true) (hst : X.stack = X.env :: X.outer) (hfr : X.env.frame = some X.env.locals) (hLA : LeaveAny X R) (B : BlockOk X.N X.env.scope N sc cap) (hi : PI X tg iter wi)
    (hg : ∀ C s H ex, PG (X.blockX N sc C s H ex R) tg g) (ht : ∀ C s H ex, PTs (X.blockX N sc C s H ex R) ifs tc) (he : ∀ C s H ex, PE (X.blockX N sc C s H ex R) elt te)
    (hsw : swapsWith (.ListComp elt [⟨tg, iter, ifs, 0⟩] sc pos) (some (.Name y py)) spos.line X.env = pure true := by rfl)
    (hs : ∀ x, foldedSetIterable iter X.env x = pure x := by intro _; rfl) (hfn : X.fn y = true ∨ X.env.scope.names.lookup y = some .local := by first | exact .inl rfl | exact .inr rfl | assumption) :
    PS X (.Assign [.Name y py] (.ListComp elt [⟨tg, iter, ifs, 0⟩] sc pos) spos) (tAsg (tComp wi g tc te (capSt cap)) (gName i)) := by
  intro pins s σ H Dn I h
  rw [exec_Assign_Name_used _ _ _ _ hsw]
  refine wpAny_bind (wpAny_standAt (wpAny_bind ?_))
  show wpAny _ X.A (do let _ ← comprehension (.ListComp elt [⟨tg, iter, ifs, 0⟩] sc pos) sc X.env _ (newList []) false (eval iter X.env) (some (assign (.Name y py) X.env))) _ _ s
  refine wpAny_bind (wpAny_mono (wpAny_comprehension_free (use := some (assign (.Name y py) X.env)) (Q := fun _ s' => SP X pins Dn .next s') rfl hs (closureFor_eq (B.cells I.ok)) B.kind B.loc
    (thn (hi pins s σ H _ I h) fun xv s₁ h₁ => thn h₁ fun itv s₂ h₂ => ?_)) (fun _ s' hq => wpAny_pure (wpAny_pure hq)) fun _ _ e => e)
  obtain ⟨it, fp, tn, J, H2, e, I2, T, st2, f2, h2⟩ := h₂
  subst e
  refine comp_blockX (R := R) (Q := fun x H1 => gName i x σ H1 Dn.nx) (RR := fun acc C => compPost (model X.prog X.w) X.A X.xe (some (assign (.Name y py) X.env)) (fun _ s' => SP X pins Dn .next s') acc C) hc B hg ht he I2 T st2 f2 h2 (fun D C s' q => ?_) hst hfr hLA (fun D C x s' q => q)
  obtain ⟨H', I', fC, ⟨m, hn⟩, q⟩ := q.ex
  show wpAny _ X.A (assign (.Name y py) X.env (.ref D)) _ _ _
  refine wpAny_assign_Name (store_ok2 I' hN hiN hx (v := .ref D) rfl (fun s'' I'' ⟨a, sb, ha⟩ => ?_) hfn)
  have hCa : C ≠ a := by
    rcases ha with ha | ha
    · rw [ha]; exact fC.2.1
    · exact fun z => fC.2.2.2.2.1 y a ha z.symm
  refine ⟨m, hn.sameBut sb hCa, fun h' sb' => ⟨_, H', ?_, q⟩⟩
  exact I''.turned (t' := s''.toks) (fun b o hb e => (sb'.2 b hb).trans e) fC.1 fC.2.1 fC.2.2.2.1 fC.2.2.2.2.1 fC.2.2.2.2.2
end
end L2

set_option Elab.async false
set_option linter.all false
set_option maxRecDepth 100000
set_option maxHeartbeats 4000000
namespace L2
open PySem PySem.Spec PyProof.Rows
theorem runUnchain {prog : Program} {w : World} {A : Around} {E : Value → Shared → Prop} {s : Shared} {e2 e1 : Addr} {o1 : Obj} {vs1 : Array Value} {Q : Value → Shared → Prop} (h1 : s.heap.get? e1 = some o1) (hd : o1.data = .fields vs1) (h2 : vs1[2]? = some Value.none) (h : Q .none s) :
    wpAny (model prog w) A (runValue (.builtin "proto.unchain" ⟨[.ref e2, .ref e1, .ref e1, .bool false], []⟩)) Q E s := by
  refine wpAny_runValue ?_
  refine codeAny_builtin (b := Builtin.«proto.unchain») (entryFor_of_fast (by kernel_rfl)) ?_
  show wpAny _ _ (field (.ref e1) 2 >>= _) _ _ s
  refine wpAny_bind (wpAny_field h1 hd h2 ?_)
  rw [if_pos (show (Value.none == Value.none) = true from rfl)]
  first
    | exact wpAny_pure h
    | exact wpAny_bind (wpAny_pure h)
    | (refine wpAny_bind ?_; exact wpAny_pure (wpAny_pure h))
section
variable {prog : Program} {w : World} {A : Around} {E : Value → Shared → Prop} {s : Shared} {env : Env}
variable {nm q : Str} {C N : Addr} {bs bm : List Value} {hdct : Bool} {sn : List Str} {sub : List Value} {ab : Bool} {col : Option Bool} {dd : Option Addr} {k0 k1 k2 k3 k5 : Option Value} {newId : String}
variable {nm' q' : Str} {C' N' : Addr} {bs' bm' : List Value} {hdct' : Bool} {sn' : List Str} {sub' : List Value} {ab' : Bool} {col' : Option Bool} {dd' : Option Addr} {k0' k1' k2' k3' k5' : Option Value} {newId' : String}
theorem raise_from {x c : Sem Value} {e1 : Addr} {Q : Flow → Shared → Prop} (hbase : bm.contains (.type "BaseException") = true) (hbase' : bm'.contains (.type "BaseException") = true) (hh : A.handled = some (.ref e1))
    (h : wpAny (model prog w) A x (fun v s₁ => wpAny (model prog w) A c (fun cv s₂ => ∃ e t o1 vs1, v = .ref e ∧ cv = .ref e1 ∧ e1 ≠ e ∧ s₂.heap.get? C = some (excClassObj nm q C N bs bm hdct sn sub ab col dd k0 k1 k2 k3 k5 newId) ∧
      s₂.heap.get? C' = some (excClassObj nm' q' C' N' bs' bm' hdct' sn' sub' ab' col' dd' k0' k1' k2' k3' k5' newId') ∧ s₂.heap.get? e1 = some o1 ∧ o1.cls = .ref C' ∧ o1.data = .fields vs1 ∧ vs1[2]? = some Value.none ∧
      s₂.heap.get? e = some { cls := .ref C, data := .fields #[.ref t, .none, .none, .none, .bool false, .none] } ∧
      ∀ h', h'.get? e = some { cls := .ref C, data := .fields #[.ref t, .none, .ref e1, .ref e1, .bool true, .none] } → Heap.SameBut e s₂.heap h' → E (.ref e) { s₂ with heap := h' }) E s₁) E s) :
    wpAny (model prog w) A (raiseStmt env (some x) (some c)) Q E s := by
  have hcB : (Value.ref C :: bm).contains (.type "BaseException") = true := by rw [List.contains_cons, hbase, Bool.or_true]
  have hcB' : (Value.ref C' :: bm').contains (.type "BaseException") = true := by rw [List.contains_cons, hbase', Bool.or_true]
  unfold raiseStmt
  refine wpAny_bind (wpAny_mono h (fun v s₁ h₁ => ?_) fun _ _ x => x)
  refine wpAny_bind (wpAny_holding (wpAny_mono h₁ (fun cv s₂ h₂ => wpAny_bind (wpAny_pure ?_)) fun _ _ x => x))
  obtain ⟨e, t, o1, vs1, rfl, rfl, ne, hC, hC', he1, hc1, hd1, hv2, he, hE⟩ := h₂
  obtain ⟨cls1, dc1, dat1, sl1⟩ := o1
  simp only at hc1 hd1
  subst hc1 hd1
  obtain ⟨hp, g, d, tk, os⟩ := s₂
  repeat (first | with_reducible refine wpAny_loadPart_at he ?_ | with_reducible refine wpAny_loadPart_at hC ?_ | (with_reducible refine wpAny_isSubtype_exc hC ?_; rw [hcB]) | wp_step)
  show wpAny _ _ (isSubtype (.ref C') (.type "BaseException")) _ _ _
  refine wpAny_isSubtype_exc hC' ?_
  rw [hcB']
  show wpAny _ _ (pure (Value.ref e1)) _ _ _
  refine wpAny_pure ?_
  show wpAny _ _ (setField (Value.ref e) 3 (Value.ref e1) >>= _) _ _ _
  refine wpAny_bind (wpAny_setField he rfl (by simp) ?_)
  have he3 : (hp.update e (Obj.mapFields (·.setIfInBounds 3 (Value.ref e1)))).get? e = some { cls := .ref C, data := .fields #[.ref t, .none, .none, .ref e1, .bool false, .none] } := Heap.get?_update_self _ he rfl
  have s3 : Heap.SameBut e hp (hp.update e (Obj.mapFields (·.setIfInBounds 3 (Value.ref e1)))) := Heap.SameBut.update ..
  generalize hp.update e (Obj.mapFields (·.setIfInBounds 3 (Value.ref e1))) = hp3 at he3 s3 ⊢
  refine wpAny_bind (wpAny_setField he3 rfl (by simp) ?_)
  have he4 : (hp3.update e (Obj.mapFields (·.setIfInBounds 4 (Value.bool true)))).get? e = some { cls := .ref C, data := .fields #[.ref t, .none, .none, .ref e1, .bool true, .none] } := Heap.get?_update_self _ he3 rfl
  have s4 : Heap.SameBut e hp3 (hp3.update e (Obj.mapFields (·.setIfInBounds 4 (Value.bool true)))) := Heap.SameBut.update ..
  generalize hp3.update e (Obj.mapFields (·.setIfInBounds 4 (Value.bool true))) = hp4 at he4 s4 ⊢
  have s34 := s3.trans s4
  have hC4 : hp4.get? C = some (excClassObj nm q C N bs bm hdct sn sub ab col dd k0 k1 k2 k3 k5 newId) := by
    rw [s34.2 C (fun z => by rw [z] at hC; rw [he] at hC; cases hC)]
    exact hC
  have he14 := (s34.2 e1 ne).trans he1
  clear he he3 hC hC' he1
  repeat (first | with_reducible refine wpAny_loadPart_at he4 ?_ | with_reducible refine wpAny_loadPart_at hC4 ?_ | (with_reducible refine wpAny_isSubtype_exc hC4 ?_; rw [hcB]) | wp_step)
  show wpAny _ _ (raiseNew (Value.ref e)) Q E ⟨hp4, g, d, tk, os⟩
  unfold raiseNew
  refine wpAny_bind (wpAny_handled ?_)
  rw [hh]
  show wpAny _ _ (if (Value.ref e1 != Value.ref e) = true then _ else _) _ _ _
  rw [if_pos (by simp [ne])]
  refine wpAny_bind (wpAny_holding (runUnchain (s := ⟨hp4, g, d, tk, os⟩) he14 rfl hv2 ?_))
  show wpAny _ _ (setField (Value.ref e) 2 (Value.ref e1) >>= _) _ _ _
  refine wpAny_bind (wpAny_setField he4 rfl (by simp) ?_)
  have he5 : (hp4.update e (Obj.mapFields (·.setIfInBounds 2 (Value.ref e1)))).get? e = some { cls := .ref C, data := .fields #[.ref t, .none, .ref e1, .ref e1, .bool true, .none] } := Heap.get?_update_self _ he4 rfl
  have s5 : Heap.SameBut e hp4 (hp4.update e (Obj.mapFields (·.setIfInBounds 2 (Value.ref e1)))) := Heap.SameBut.update ..
  exact wpAny_throw (hE _ he5 (s34.trans s5))
end
end L2

set_option Elab.async false
set_option linter.all false
set_option maxRecDepth 100000
set_option maxHeartbeats 4000000
namespace L2
open PySem PySem.Spec PyProof.Rows
section
variable {X : Cx} {pins : List (Addr × Obj)} {σ : St} {H : Hp} {s s' : Shared}
theorem leave_postw {fl cls : Value} {e : Addr} {H' : Hp} {E : XK} {P : Program} {w : World} {K : PySem.W.Frag} {mg : Str → Option Value} {base : Heap} {N : List Str} {qual : Str} {scope : Scope} {f : Addr} {cd : Value} {A : Around} {outer : List Env} {s0 : Shared} {H0 : Hp}
    (I1 : Inv (cxOf (CXow P w) P w K mg base N qual scope f cd A outer s0 H0 E) pins σ H' s') (F : Flyf s'.heap H' s0.heap [] e cls fl) (q : E cls none H') :
    (cxOf (CXow P w) P w K mg base N qual scope f cd A outer s0 H0 E).xe (.ref e) s' := by
  obtain ⟨⟨oe, ws, T, oT, ts, a0, g1, g2, g3, g4, g5, g6, g7, g8, g9, g10, g11⟩, he, hn⟩ := F
  have hst := I1.stack
  have hmem : ∀ env ∈ (envOfC qual scope s0.heap.objs.size f cd :: outer), ∀ a, env.frame = some a → a ∈ e :: T :: frs (envOfC qual scope s0.heap.objs.size f cd :: outer) := fun env he a ha =>
    List.mem_cons_of_mem _ (List.mem_cons_of_mem _ (List.mem_filterMap.mpr ⟨env, he, ha⟩))
  have hB : ∀ b o, s'.heap.get? b = some o → b ∉ e :: T :: frs (envOfC qual scope s0.heap.objs.size f cd :: outer) → (PySem.W.hideAll s'.heap (e :: T :: frs (envOfC qual scope s0.heap.objs.size f cd :: outer))).get? b = some o := fun b o e hb => PySem.W.hideAll_get _ e hb
  have hfl : FlyingF (PySem.W.hideAll s'.heap (e :: T :: frs (envOfC qual scope s0.heap.objs.size f cd :: outer))) (envOfC qual scope s0.heap.objs.size f cd :: outer) e cls a0 fl s'.heap :=
    ⟨fun b o e => PySem.W.of_hideAll _ e, PySem.W.hideAll_none _ List.mem_cons_self, PySem.W.funFrames_hide hst hmem, oe, ws, T, oT, ts, g1, ⟨g2, g4⟩, g3, g5, PySem.W.hideAll_none _ (List.mem_cons_of_mem _ List.mem_cons_self), g6, g7, g8, g9⟩
  refine leaves_anyW I1.ok.frames rfl hfl fun h'' fl up => ?_
  have g11 : s0.heap.get? T = none := g11.elim id (fun z => absurd z (by simp))
  have hn : s0.heap.get? e = none := hn.elim id (fun z => absurd z (by simp))
  -- the exception and its entry are no objects of the entry, no tracked ones, no frames
  have offe : e ∉ frs (envOfC qual scope s0.heap.objs.size f cd :: outer) := fun hb => by
    obtain ⟨_, o', e', hd⟩ := hst.mem hb
    rw [g1] at e'
    cases e'
    exact hd ws g3
  have offT : T ∉ frs (envOfC qual scope s0.heap.objs.size f cd :: outer) := fun hb => by
    obtain ⟨_, o', e', hd⟩ := hst.mem hb
    rw [g7] at e'
    cases e'
    exact hd ts g8
  have kp : ∀ b o, s'.heap.get? b = some o → b ≠ e → b ≠ T → b ∉ frs (envOfC qual scope s0.heap.objs.size f cd :: outer) → h''.get? b = some o := fun b o q n1 n2 n3 => fl.1 b o (hB b o q (by simp [n1, n2, n3]))
  have sl : ∀ b o, s'.heap.get? b = some o → b ∈ frs (envOfC qual scope s0.heap.objs.size f cd :: outer) → ∃ sl, h''.get? b = some { o with slots := sl } := fun b o q hb => by
    obtain ⟨_, o', e', hd⟩ := hst.mem hb
    rw [q] at e'
    cases e'
    exact up b o q hd
  obtain ⟨_, _, hfr, oe2, ws2, T2, oT2, ts2, k1, ⟨k2, k3⟩, k4, k5, k6, k7, k8, k9, k10⟩ := fl
  have hT2 : ∀ o, s'.heap.get? T2 = some o → T2 = T ∨ T2 ∈ frs (envOfC qual scope s0.heap.objs.size f cd :: outer) := fun o q => by
    by_cases n2 : T2 = T
    · exact .inl n2
    · by_cases n3 : T2 ∈ frs (envOfC qual scope s0.heap.objs.size f cd :: outer)
      · exact .inr n3
      · have := hB T2 o q (by simp [k7, n2, n3])
        rw [k6] at this
        cases this
  have old : ∀ b o, s0.heap.get? b = some o → b ≠ e ∧ b ≠ T ∧ b ≠ s0.heap.objs.size := fun b o q => ⟨fun z => (by rw [z, hn] at q; cases q), fun z => (by rw [z, g11] at q; cases q), Nat.ne_of_lt (Heap.lt_size q)⟩
  have nt : ∀ b u, H' b = some u → b ≠ e ∧ b ≠ T ∧ b ∉ frs (envOfC qual scope s0.heap.objs.size f cd :: outer) := fun b u q => ⟨fun z => (by rw [z, he] at q; cases q), fun z => (by rw [z, g10] at q; cases q), fun z => (by rw [I1.stkFree b z] at q; cases q)⟩
  have un := I1.base
  have un2 : Un (frs outer) [] H0 H' s0.heap h'' := by
    refine ⟨fun b o q n hb hx => ?_, fun b o q n hb hx => ?_, un.free, fun b o q hx => ?_, un.tups, un.frzs, un.tbls⟩
    · exact kp b o (un.keep b o q n hb hx) (old b o q).1 (old b o q).2.1 (fun z => (List.mem_cons.mp z).elim (old b o q).2.2 hb)
    · obtain ⟨sl1, q1⟩ := un.slot b o q n hb hx
      obtain ⟨sl2, q2⟩ := sl b _ q1 (List.mem_cons_of_mem _ hb)
      exact ⟨sl2, q2⟩
    · obtain ⟨o', q1⟩ := un.there b o q hx
      by_cases hb : b ∈ frs (envOfC qual scope s0.heap.objs.size f cd :: outer)
      · obtain ⟨sl2, q2⟩ := sl b _ q1 hb
        exact ⟨_, q2⟩
      · exact ⟨o', kp b o' q1 (old b o q).1 (old b o q).2.1 hb⟩
  have hok2 : HOk P w H' h'' := fun b u q => by
    refine (I1.hok b u q).stay (fun c v hc z => ?_) (fun _ z => z) fun _ _ z => z
    rcases hc with rfl | hc
    · exact kp _ v z (nt _ _ q).1 (nt _ _ q).2.1 (nt _ _ q).2.2
    · exact kp _ v z (nt _ _ hc).1 (nt _ _ hc).2.1 (nt _ _ hc).2.2
  refine ⟨e, cls, H', rfl, ⟨⟨oe2, ws2, T2, oT2, ts2, _, k1, k2, k4, k3, k5, k7, k8, k9, k10, ?_, ?_⟩, he, hn⟩, I1.os, I1.bare, un2, hok2, q⟩
  · cases z : H' T2 with
    | none => rfl
    | some u =>
      obtain ⟨ob, e'⟩ := I1.hok.there z
      rcases hT2 ob e' with z' | z'
      · rw [z', g10] at z
        cases z
      · rw [I1.stkFree T2 z'] at z
        cases z
  · cases z : s0.heap.get? T2 with
    | none => rfl
    | some u =>
      obtain ⟨ob, e'⟩ := I1.old rfl z
      rcases hT2 ob e' with z' | z'
      · rw [z', g11] at z
        cases z
      · have hm' : T2 = s0.heap.objs.size ∨ T2 ∈ frs outer := List.mem_cons.mp z'
        rcases hm' with w' | w'
        · exact absurd (Heap.lt_size z) (by rw [w']; exact Nat.lt_irrefl _)
        · obtain ⟨_, o', e'', hd⟩ := hfr.mem w'
          rw [k8] at e''
          cases e''
          exact absurd k9 (hd ts2)
end
end L2

set_option Elab.async false
set_option linter.all false
set_option maxRecDepth 100000
set_option maxHeartbeats 4000000
namespace L2
open PySem PySem.Spec PyProof.Rows
def LeaveP (X : Cx) (R : Value → Hp → Prop) : Prop := ∀ (pins : List (Addr × Obj)) (σ : St) (H' : Hp) (s' : Shared) (e : Addr) (cls fl : Value), Inv X pins σ H' s' → Flyf s'.heap H' X.s₀.heap [] e cls fl → R cls H' → X.xe (.ref e) s'
theorem leaveP_cx {E : XK} {P : Program} {w : World} {K : PySem.W.Frag} {mg : Str → Option Value} {base : Heap} {N : List Str} {qual : Str} {scope : Scope} {f : Addr} {cd : Value} {A : Around} {outer : List Env} {s0 : Shared} {H0 : Hp} :
    LeaveP (cxOf (CXow P w) P w K mg base N qual scope f cd A outer s0 H0 E) (fun cls H => E cls none H) := fun _ _ _ _ _ _ _ I F q => leave_postw I F q
section
variable {M : Model} {A : Around} {E : Value → Shared → Prop} {s : Shared}
/-- an exception that has no entry yet is noted -/
theorem note_first {base : Heap} {env : Env} {outer : List Env} {L e : Addr} {oe : Obj} {vs : Array Value} {a0 : Value} {Q : Unit → Shared → Prop} (hfr : A.frames = some (env :: outer)) (hl : s.heap.FunFrames base (env :: outer)) (hf : env.frame = some L)
    (he : s.heap.get? e = some oe) (hkb : base.StaysIn s.heap) (hen : base.get? e = none) (hd : oe.data = .fields vs) (h1 : vs[1]? = some Value.none) (h0 : vs[0]? = some a0)
    (h : ∀ h', Heap.NotedW base (env :: outer) e oe.cls a0 (rawInt L) s.heap h' → Q () { s with heap := h' }) : wpAny M A (noteFrame (.ref e) env) Q E s := by
  unfold noteFrame
  simp only [hf]
  refine wpAny_bind (wpAny_field he hd h1 ?_)
  rw [if_neg (by decide)]
  exact wpAny_entryW hfr hl hf he hkb hen hd (Array.getElem?_eq_some_iff.mp h1).1 h0 h
end
theorem ps_tryR {X : Cx} {R : Value → Hp → Prop} {body : List Stmt} {cx n y : Str} {c : Value} {cT : Addr} {np hpos pos yp cp2 cpos rpos np2 : Pos} {msg : Str} {j : Nat} {i : Nat} {tb : Ends → TS} (hc : X.calm = true) (hst : X.stack = X.env :: X.outer) (hfr : X.env.frame = some X.env.locals) (hex : X.ex = [])
    (hN : X.N.Nodup) (hi : X.N[i]? = some n) (hl : X.env.scope.names.lookup n = some .local) (hg : Gl X cx) (hm : X.mg cx = some c) (hgy : Gl X y) (ey : ExcC X.K X.mg y cT) (hLP : LeaveP X R) (hb : ∀ D pn, PSs (X.tried pn (fun σ cls H => PySem.W.exmOne X.K cls c = some true ∧ (∃ C', cls = .ref C' ∧ PySem.W.excIn X.K C' [.type "ValueError", .type "Exception", .type "BaseException", .type "object"] "ValueError.__new__" = true) ∧ R (.ref cT) H)) body (tb D))
    (hd : (cx == ("__debug__" : Str)) = false := by decide) (hdy : (y == ("__debug__" : Str)) = false := by decide) (hdn : (n == ("__debug__" : Str)) = false := by decide) (hcd : (n == ("__classdict__" : Str)) = false := by decide)
    (he9 : starEach [.Constant (.str msg) j cp2] X.env = (false, eval (.Constant (.str msg) j cp2) X.env) :: starEach [] X.env := by rfl) :
    PS X (.Try body [.ExceptHandler (some (.Name cx np)) (some n) [.Raise (some (.Call (.Name y yp) [.Constant (.str msg) j cp2] [] cpos)) (some (.Name n np2)) rpos] hpos] [] [] pos) (tTry tb) := by
  intro pins s σ H D I h
  have It : Inv (X.tried (X.pn ++ pins) (fun σ cls H => PySem.W.exmOne X.K cls c = some true ∧ (∃ C', cls = .ref C' ∧ PySem.W.excIn X.K C' [.type "ValueError", .type "Exception", .type "BaseException", .type "object"] "ValueError.__new__" = true) ∧ R (.ref cT) H)) [] σ H s := I.re (pins' := []) (fun p hp => I.pin p (by simpa using hp)) I.ok.hd I.ok.frames
  have back : ∀ {σ' : St} {H' : Hp} {s' : Shared}, Inv (X.tried (X.pn ++ pins) (fun σ cls H => PySem.W.exmOne X.K cls c = some true ∧ (∃ C', cls = .ref C' ∧ PySem.W.excIn X.K C' [.type "ValueError", .type "Exception", .type "BaseException", .type "object"] "ValueError.__new__" = true) ∧ R (.ref cT) H)) [] σ' H' s' → Inv X pins σ' H' s' := fun {σ' H' s'} J =>
    J.re (pn' := X.pn) (pins' := pins) (xe' := X.xe) (A' := X.A) (c' := X.calm) (fun p hp => J.pin p (by simpa [Cx.tried] using hp)) J.ok.hd J.ok.frames
  refine wpAny_Try_except (wpAny_mono (hb D (X.pn ++ pins) [] s σ H D It h) (fun f s1 q => ?_) (fun x s1 q => ?_))
  · cases f with
    | next => obtain ⟨σ', H', J, q⟩ := q; exact wpAny_execs_nil ⟨σ', H', back J, q⟩
    | brk => obtain ⟨σ', H', J, q⟩ := q; exact ⟨σ', H', back J, q⟩
    | cont => obtain ⟨σ', H', J, q⟩ := q; exact ⟨σ', H', back J, q⟩
    | ret u => obtain ⟨v, σ', H', J, r, q⟩ := q; exact ⟨v, σ', H', back J, r, q⟩
  · obtain ⟨pins', σ', H1, s0, J0, e, cls, H', rfl, F, os, bare, un, hok, hR⟩ := q
    have J : Inv X pins σ' H1 s0 := J0.re (pn' := X.pn) (pins' := pins) (xe' := X.xe) (A' := X.A) (c' := X.calm) (fun p hp => J0.pin p (List.mem_append_left _ hp)) J0.ok.hd J0.ok.frames
    obtain ⟨⟨oe, ws, T, oT, ts, a0, g1, g2, g3, g4, g5, g6, g7, g8, g9, g10, g11⟩, he, hn⟩ := F
    have J1 : Inv X pins σ' H' s1 := J.call' (ch := []) os un hok bare (fun b hb => absurd hb (by simp))
    have hst1 := J1.stack
    have hmem : ∀ env ∈ X.stack, ∀ a, env.frame = some a → a ∈ e :: T :: frs X.stack := fun env he a ha => List.mem_cons_of_mem _ (List.mem_cons_of_mem _ (List.mem_filterMap.mpr ⟨env, he, ha⟩))
    have hB : ∀ b o, s1.heap.get? b = some o → b ∉ [e, T] → b ∉ frs X.stack → (PySem.W.hideAll s1.heap (e :: T :: frs X.stack)).get? b = some o := fun b o q n1 n2 => PySem.W.hideAll_get _ q (by
      intro z
      rcases List.mem_cons.mp z with z | z
      · exact n1 (by simp [z])
      · rcases List.mem_cons.mp z with z | z
        · exact n1 (by simp [z])
        · exact n2 z)
    have hfl : Heap.FlyingC (PySem.W.hideAll s1.heap (e :: T :: frs X.stack)) X.stack e cls a0 s1.heap :=
      ⟨⟨fun b o q => PySem.W.of_hideAll _ q, PySem.W.hideAll_none _ List.mem_cons_self, PySem.W.funFrames_hide hst1 hmem, oe, ws, T, oT, ts, g1, ⟨g2, g4.1⟩, g3, g5, PySem.W.hideAll_none _ (List.mem_cons_of_mem _ List.mem_cons_self), g6, g7, g8, g9⟩, oe, ws, g1, g3, g4.2⟩
    have hoff : ∀ b ∈ [e, T], s0.heap.get? b = none ∧ H' b = none := fun b hb => by
      rcases List.mem_cons.mp hb with rfl | hb
      · exact ⟨hn, he⟩
      · rcases List.mem_cons.mp hb with rfl | hb
        · exact ⟨g11, g10⟩
        · cases hb
    have far : ∀ {h2 : Heap}, Heap.FlyingC (PySem.W.hideAll s1.heap (e :: T :: frs X.stack)) X.stack e cls a0 h2 → s1.heap.UpToSlots h2 → Inv X pins σ' H' { s1 with heap := h2 } := fun {h2} fl up =>
      J.thru os bare un hok [e, T] hoff (fun b o q n1 n2 => fl.1.1 b o (hB b o q n1 n2)) fun b o q hb => by
        obtain ⟨_, o', e', hd⟩ := hst1.mem hb
        rw [q] at e'
        cases e'
        exact up b o q hd
    rw [hst] at hfl
    refine wpAny_looks_onC (by rw [I.ok.frames, hst]) hfr hfl fun h4 held4 up4 => ?_
    refine wpAny_landsC held4 fun h5 fl5 up5 => ?_
    have I5 : Inv X pins σ' H' { s1 with heap := h5 } := far (by rw [hst]; exact fl5) (up4.trans up5)
    refine wpAny_handleBy_cons (codeAny_handlers_test ?_) (by intro q; cases q)
    have I5' : Inv { X with pn := X.pn, xe := fun _ _ => False, A := X.A.mark (some (.ref e)), calm := false } pins σ' H' { s1 with heap := h5 } := I5.re I5.pin (fun z => absurd z (by decide)) I5.ok.frames
    refine ld_glob I5' hg hm ?_ hd
    obtain ⟨ob5, hob5, hc5⟩ := fl5.there
    refine (PySem.W.exm_one I5.kIn (looks_ty hob5 hc5) hR.1).here ?_
    refine codeAny_handlers_suite_as (lands_againC fl5 fun h6 fl6 up6 => ?_)
    have I6 : Inv X pins σ' H' { s1 with heap := h6 } := far (by rw [hst]; exact fl6) ((up4.trans up5).trans up6)
    obtain ⟨oe6, ws6, k1, k2, k3, _, k52⟩ := fl6.first
    have I6p : Inv (X.held (X.pn ++ pins) e oe6) [] σ' H' { s1 with heap := h6 } := I6.re (fun p hp => by
      rw [List.append_nil] at hp
      rcases List.mem_append.mp hp with hp | hp
      · exact I6.pin p hp
      · have e' : p = (e, oe6) := by simpa using hp
        subst e'
        refine ⟨k1, he, fun z => ?_, fun z => ?_, fun v z => ?_⟩
        · obtain ⟨m, ⟨oL, es, ep, hoL, hdL, _⟩, _⟩ := I6.loc
          have z' : e = X.env.locals := z
          rw [← z', k1] at hoL
          cases hoL
          rw [k3] at hdL
          cases hdL
        · obtain ⟨_, o', e', hd⟩ := I6.funs.mem z
          rw [k1] at e'
          cases e'
          exact hd ws6 k3
        · have z' : oe6.data = .cell v := z
          rw [k3] at z'
          cases z') (fun z => absurd z (by decide)) I6.ok.frames
    refine store_ok (X := X.held (X.pn ++ pins) e oe6) I6p hN hi (.inl hl) (v := .ref e) rfl (fun s7 I7 => ?_) (.inr hl)
    obtain ⟨hR1, ⟨C', eC, xC⟩, hR2⟩ := hR
    have hL0 : (e ≠ X.env.locals) := (I6p.pin (e, oe6) (by rw [List.append_nil]; exact List.mem_append_right _ (by simp))).2.2.1
    refine wpAny_execs_cons ?_
    rw [arm_exec_Raise]
    obtain ⟨tl, NN', nm, q, bs, hdct, sn, sub, ab, col, dd, k0', k1', k2', k3', k5', mN, hC, hNs, hni, Tl⟩ := exc_obj I7.ok.mod.kin ey.ok
    obtain ⟨tl2, NN2, nm2, q2, bs2, hdct2, sn2, sub2, ab2, col2, dd2, k02, k12, k22, k32, k52', mN2, hC2, hNs2, hni2, Tl2⟩ := exc_obj I7.ok.mod.kin xC
    refine wpAny_bind (wpAny_standAt (raise_from (C := cT) (C' := C') (e1 := e) (nm := nm) (q := q) (N := NN') (bs := bs) (bm := tl) (hdct := hdct) (sn := sn) (sub := sub) (ab := ab) (col := col) (dd := dd) (k0 := k0') (k1 := k1') (k2 := k2') (k3 := k3') (k5 := k5') (newId := "ValueError.__new__")
      (nm' := nm2) (q' := q2) (N' := NN2) (bs' := bs2) (bm' := tl2) (hdct' := hdct2) (sn' := sn2) (sub' := sub2) (ab' := ab2) (col' := col2) (dd' := dd2) (k0' := k02) (k1' := k12) (k2' := k22) (k3' := k32) (k5' := k52') (newId' := "ValueError.__new__")
      (Tl.hasType PySem.F.excBase_ValueError.hasBase) (Tl2.hasType PySem.F.excBase_ValueError.hasBase) rfl ?_))
    refine wpAny_bind (wpAny_mono (wpAny_Call_ofName (ld_glob I7 hgy ey.mg ?_ hdy)) (fun v s₃ h₃ => wpAny_bind (wpAny_standAt (wpAny_pure h₃))) fun _ _ x => x)
    have ha' := (pa_cons pe_str pa_nil : PA (X.held (X.pn ++ pins) e oe6) [.Constant (.str msg) j cp2] _) cpos [] s7 (σ'.set i (some (.ref e))) H' (fun vs H1 => vs.length = 1 ∧ H1 = H') I7 ⟨rfl, rfl⟩
    unfold callWith
    have he9' : starEach [.Constant (.str msg) j cp2] (X.held (X.pn ++ pins) e oe6).env = (false, eval (.Constant (.str msg) j cp2) X.env) :: starEach [] X.env := he9
    rw [he9'] at ha'
    rw [he9]
    refine wpAny_bind (wpAny_holding (wpAny_mono (Q := fun (a : Args) s₂ => a.kw = [] ∧ a.pos.length ≤ sizeLine ∧ Inv (X.held (X.pn ++ pins) e oe6) [] (σ'.set i (some (.ref e))) H' s₂) (Calls.evalArgs_plain (thn ha' fun us s2 hh => ?_)) (fun a s₂ h₂ => wpAny_bind (wpAny_standAt ?_)) (fun _ _ z => False.elim z)))
    · obtain ⟨vs, H2, I2, r2, hl1, eh⟩ := hh
      subst eh
      exact ⟨rfl, by show us.length ≤ sizeLine; rw [← r2.length, hl1]; decide, I2⟩
    obtain ⟨apos, akw⟩ := a
    obtain ⟨hkw, hlen, I8⟩ := h₂
    obtain rfl : akw = [] := hkw
    obtain ⟨hp, g, dr, tk, os2⟩ := s₂
    have hC8 : hp.get? cT = _ := I8.bk _ _ hC
    refine wpAny_bind (wpAny_keeperOf_exc hC8 ?_)
    refine wpAny_bind (wpAny_call_exc_subT (hrest := hlen) PySem.F.excBase_ValueError (Tl.keeps I8.bk) hC8 (hNs.keeps I8.bk) hni fun h' e2 m => wpAny_bind (wpAny_holding (wpAny_point (wpAny_pure ?_))))
    have I9 : Inv (X.held (X.pn ++ pins) e oe6) [] (σ'.set i (some (.ref e))) H' ⟨h', g, dr, tk, os2⟩ := I8.kept (t' := tk) m.keeps
    have pe9 : h'.get? e = some oe6 := (I9.pin (e, oe6) (by rw [List.append_nil]; exact List.mem_append_right _ (by simp))).1
    have pe8 : hp.get? e = some oe6 := (I8.pin (e, oe6) (by rw [List.append_nil]; exact List.mem_append_right _ (by simp))).1
    have nee : e ≠ e2 := fun z => by
      have := m.new
      rw [← z] at this
      rw [pe8] at this
      cases this
    obtain ⟨t, ht, htn, _⟩ := m.there
    obtain ⟨mL, hnL, hlL⟩ := I9.loc
    have ilt : i < σ'.length := by
      have h1 := I7.len
      rw [List.length_set] at h1
      rw [h1]
      exact (List.getElem?_eq_some_iff.mp hi).1
    obtain ⟨uv, rv, lk⟩ := hlL i n (.ref e) hi (List.getElem?_set_self ilt) (.inl hl)
    obtain rfl : uv = Value.ref e := rv
    have hmn : mL n = some (.ref e) := by
      rcases lk with ⟨_, h⟩ | ⟨h, _⟩
      · exact h
      · have hk : X.env.scope.names.lookup n = some .cell ∨ X.env.scope.names.lookup n = some .free := h
        rw [hl] at hk
        rcases hk with hk | hk <;> cases hk
    refine wpAny_bind (wpAny_Name (wpAny_loadName_local (env := X.env) (s := ⟨h', g, dr, tk, os2⟩) I9.ok.kind hl hnL hmn (wpAny_bind (wpAny_standAt (wpAny_pure ?_)))) hdn)
    refine ⟨e2, t, oe6, ws6, rfl, rfl, nee, m.keeps _ _ hC8, I9.bk _ _ hC2, pe9, by rw [k2]; exact eC, k3, k52, ht, fun h5 he5 sb5 => ?_⟩
    -- the second exception is in flight
    have he2 : H' e2 = none := I8.hok.none_of m.new
    have kp5 : ∀ b o, hp.get? b = some o → h5.get? b = some o := fun b o q => by
      have : b ≠ e2 := fun z => by rw [z, m.new] at q; cases q
      exact (sb5.2 b this).trans (m.keeps b o q)
    have I5s : Inv (X.held (X.pn ++ pins) e oe6) [] (σ'.set i (some (.ref e))) H' ⟨h5, g, dr, tk, os2⟩ := I8.kept (t' := tk) kp5
    have hst5 : h5.FunFrames X.base X.stack := I5s.stack
    have hmem5 : ∀ env ∈ X.stack, ∀ a, env.frame = some a → a ∈ e2 :: frs X.stack := fun env he a ha => List.mem_cons_of_mem _ (List.mem_filterMap.mpr ⟨env, he, ha⟩)
    have hfr5 : h5.FunFrames (PySem.W.hideAll h5 (e2 :: frs X.stack)) (X.env :: X.outer) := by
      rw [← hst]
      exact PySem.W.funFrames_hide hst5 hmem5
    refine note_first (s := ⟨h5, g, dr, tk, os2⟩) (base := PySem.W.hideAll h5 (e2 :: frs X.stack)) (by rw [← hst]; exact I5s.ok.frames) hfr5 hfr he5 (fun b o q => PySem.W.of_hideAll _ q) (PySem.W.hideAll_none _ List.mem_cons_self) rfl rfl rfl fun h6 nt6 => ?_
    obtain ⟨n1, n2, ⟨oe7, vs7, T, oT, ts, g1, ⟨g2, g4⟩, g3, g5, g6, g7, g8, g9, g10⟩, n4⟩ := nt6
    have hB : ∀ b o, h5.get? b = some o → b ≠ e2 → b ∉ frs X.stack → h6.get? b = some o := fun b o q z1 z2 => n1 b o (PySem.W.hideAll_get _ q (by simp [z1, z2]))
    have Tno : ∀ b o, hp.get? b = some o → b ≠ T := fun b o q z => by
      have q5 := kp5 b o q
      by_cases z2 : b ∈ frs X.stack
      · obtain ⟨_, o', e', hd'⟩ := n2.mem (by rw [hst] at z2; exact z2)
        rw [z, g8] at e'
        cases e'
        exact hd' ts g9
      · have zb : b ≠ e2 := fun z' => by rw [z', m.new] at q; cases q
        have := PySem.W.hideAll_get (e2 :: frs X.stack) q5 (by simp [zb, z2])
        rw [z, g6] at this
        cases this
    have Lp : ∃ oL, hp.get? X.env.locals = some oL := by
      obtain ⟨mm, ⟨oL, _, _, hoL, _⟩, _⟩ := I8.loc
      exact ⟨oL, hoL⟩
    obtain ⟨oL, hoL⟩ := Lp
    have neL : X.env.locals ≠ e2 := fun z => by rw [z, m.new] at hoL; cases hoL
    have TL : X.env.locals ≠ T := Tno _ _ hoL
    have gT3 : 3 < ts.size := (Array.getElem?_eq_some_iff.mp g10).1
    have hT' : H' T = none := by
      cases z : H' T with
      | none => rfl
      | some u =>
        obtain ⟨ob, e'⟩ := I8.hok.there z
        exact absurd rfl (Tno T ob e')
    -- the name goes
    have I6s : Inv (X.held (X.pn ++ pins) e oe6) [] (σ'.set i (some (.ref e))) H' ⟨h6, g, dr, tk, os2⟩ := I8.slots rfl I8.bare (fun b o q hb => hB b o (kp5 b o q) (fun z => by rw [z, m.new] at q; cases q) hb) fun b o q hb => by
      obtain ⟨_, o', e', hd'⟩ := hst5.mem hb
      rw [kp5 b o q] at e'
      cases e'
      exact n4 b o (kp5 b o q) hd'
    obtain ⟨m6, hn6, _⟩ := I6s.loc
    refine wpAny_nameGoes (env := X.env) (s := ⟨h6, g, dr, tk, os2⟩) hl hn6 (by show (X.env.scope.kind == .class || (X.env.scope.kind == .module && X.env.locals != X.env.globals)) = false; rw [I.ok.kind]; rfl) fun h7 m7 hn7 sb7 => ?_
    have e7 : h7.get? e2 = some oe7 := (sb7.2 e2 (Ne.symm neL)).trans g1
    have t7 : h7.get? T = some oT := (sb7.2 T (Ne.symm TL)).trans g8
    unfold PySem.passOn
    refine wpAny_bind (wpAny_field e7 g3 g5 ?_)
    rw [if_neg (by simp)]
    refine wpAny_bind ?_
    unfold setFlight
    refine wpAny_bind (wpAny_field e7 g3 g5 ?_)
    rw [if_pos (show (Value.ref T != Value.none) = true from by simp), hfr]
    refine wpAny_setField t7 g9 gT3 (wpAny_throw ?_)
    have d8 := Obj.data_mapFields g9 (·.setIfInBounds 3 (rawInt X.env.locals))
    have t8 : (h7.update T (Obj.mapFields (·.setIfInBounds 3 (rawInt X.env.locals)))).get? T = some (Obj.mapFields (·.setIfInBounds 3 (rawInt X.env.locals)) oT) := Heap.get?_update_self _ t7 (Obj.isFreed_of_fields d8)
    have e8 : (h7.update T (Obj.mapFields (·.setIfInBounds 3 (rawInt X.env.locals)))).get? e2 = some oe7 := (Heap.get?_update_other _ _ g7).trans e7
    unfold notedBy
    refine wpAny_noteFrame_againW (base := PySem.W.hideAll h5 (e2 :: frs X.stack)) (cls := .ref cT) hfr ⟨oe7, vs7, T, _, _, e8, ⟨g2, g4⟩, g3, g5, g6, g7, t8, d8, by simp [gT3]⟩ ?_
    show cameBackBy (model X.prog X.w) X.A X.env X.xe (.ref e2) _
    unfold cameBackBy
    refine wpAny_bind (wpAny_field e8 g3 g5 ?_)
    rw [if_neg (by simp)]
    unfold setFlight
    refine wpAny_bind (wpAny_field e8 g3 g5 ?_)
    rw [if_pos (show (Value.ref T != Value.none) = true from by simp), hfr]
    refine wpAny_setField t8 d8 (by simp [gT3]) ?_
    have d9 := Obj.data_mapFields d8 (·.setIfInBounds 3 (rawInt X.env.locals))
    have t9 : ((h7.update T (Obj.mapFields (·.setIfInBounds 3 (rawInt X.env.locals)))).update T (Obj.mapFields (·.setIfInBounds 3 (rawInt X.env.locals)))).get? T = some (Obj.mapFields (·.setIfInBounds 3 (rawInt X.env.locals)) (Obj.mapFields (·.setIfInBounds 3 (rawInt X.env.locals)) oT)) := Heap.get?_update_self _ t8 (Obj.isFreed_of_fields d9)
    have e9 : ((h7.update T (Obj.mapFields (·.setIfInBounds 3 (rawInt X.env.locals)))).update T (Obj.mapFields (·.setIfInBounds 3 (rawInt X.env.locals)))).get? e2 = some oe7 := (Heap.get?_update_other _ _ g7).trans e8
    have u6 : (h6.update T (Obj.mapFields (·.setIfInBounds 3 (rawInt X.env.locals)))).get? T = some (Obj.mapFields (·.setIfInBounds 3 (rawInt X.env.locals)) oT) := Heap.get?_update_self _ g8 (Obj.isFreed_of_fields d8)
    have uY : ((h6.update T (Obj.mapFields (·.setIfInBounds 3 (rawInt X.env.locals)))).update T (Obj.mapFields (·.setIfInBounds 3 (rawInt X.env.locals)))).get? T = some (Obj.mapFields (·.setIfInBounds 3 (rawInt X.env.locals)) (Obj.mapFields (·.setIfInBounds 3 (rawInt X.env.locals)) oT)) := Heap.get?_update_self _ u6 (Obj.isFreed_of_fields d9)
    have s79 : Heap.SameBut T h7 ((h7.update T (Obj.mapFields (·.setIfInBounds 3 (rawInt X.env.locals)))).update T (Obj.mapFields (·.setIfInBounds 3 (rawInt X.env.locals)))) := (Heap.SameBut.update ..).trans (Heap.SameBut.update ..)
    have s6Y : Heap.SameBut T h6 ((h6.update T (Obj.mapFields (·.setIfInBounds 3 (rawInt X.env.locals)))).update T (Obj.mapFields (·.setIfInBounds 3 (rawInt X.env.locals)))) := (Heap.SameBut.update ..).trans (Heap.SameBut.update ..)
    show X.xe (.ref e2) ⟨(h7.update T (Obj.mapFields (·.setIfInBounds 3 (rawInt X.env.locals)))).update T (Obj.mapFields (·.setIfInBounds 3 (rawInt X.env.locals))), g, dr, tk + 1, os2⟩
    generalize (h7.update T (Obj.mapFields (·.setIfInBounds 3 (rawInt X.env.locals)))).update T (Obj.mapFields (·.setIfInBounds 3 (rawInt X.env.locals))) = h9 at t9 e9 s79 ⊢
    generalize (h6.update T (Obj.mapFields (·.setIfInBounds 3 (rawInt X.env.locals)))).update T (Obj.mapFields (·.setIfInBounds 3 (rawInt X.env.locals))) = hY at uY s6Y
    have IY : Inv (X.held (X.pn ++ pins) e oe6) [] (σ'.set i (some (.ref e))) H' ⟨hY, g, dr, tk, os2⟩ := I8.slots rfl I8.bare (fun b o q hb => (s6Y.2 b (Tno b o q)).trans (hB b o (kp5 b o q) (fun z => by rw [z, m.new] at q; cases q) hb)) fun b o q hb => by
      obtain ⟨_, o', e', hd'⟩ := hst5.mem hb
      rw [kp5 b o q] at e'
      cases e'
      obtain ⟨sl, q6⟩ := n4 b o (kp5 b o q) hd'
      exact ⟨sl, (s6Y.2 b (Tno b o q)).trans q6⟩
    have sbY : Heap.SameBut X.env.locals hY h9 := ⟨by rw [s79.1, sb7.1, s6Y.1], fun b hb => by
      by_cases z : b = T
      · subst z
        rw [t9, uY]
      · rw [s79.2 b z, s6Y.2 b z, sb7.2 b hb]⟩
    have I9f := IY.forget (t' := tk + 1) (hn7.sameBut s79 TL) sbY
    have I10 : Inv X pins (List.replicate X.N.length none) H' ⟨h9, g, dr, tk + 1, os2⟩ := I9f.re (pn' := X.pn) (pins' := pins) (xe' := X.xe) (A' := X.A) (c' := X.calm) (fun p hp => I9f.pin p (List.mem_append_left _ (List.mem_append_left _ hp))) I.ok.hd I.ok.frames
    have s0e : X.s₀.heap.get? e2 = none := by
      cases z : X.s₀.heap.get? e2 with
      | none => rfl
      | some o =>
        obtain ⟨o', q'⟩ := I8.old hex z
        rw [m.new] at q'
        cases q'
    have s0T : X.s₀.heap.get? T = none := by
      cases z : X.s₀.heap.get? T with
      | none => rfl
      | some o =>
        obtain ⟨o', q'⟩ := I8.old hex z
        exact absurd rfl (Tno T o' q')
    exact hLP pins _ H' _ e2 (.ref cT) (rawInt X.env.locals) I10 ⟨⟨oe7, vs7, T, _, _, _, e9, g2, g3, g4, g5, g7, t9, d9, by simp [gT3], hT', .inl s0T⟩, he2, .inl s0e⟩ hR2
end L2

set_option Elab.async false
set_option linter.all false
set_option maxRecDepth 100000
set_option maxHeartbeats 4000000
namespace L2
open PySem PySem.Spec PyProof.Rows PySem.Builtin PySem.Builtin.Str
section
variable {X : Cx}
/-- x[lo:hi] of a text: a text that is no longer -/
def rSlS : V → Option Int → Option Int → Hp → VK → Prop := fun x lo hi H Q => ∃ z, x = .str z ∧ z.length ≤ sizeLine ∧ ∀ y : Str, y.length ≤ z.length → Q (.str y) H
theorem sl_str : SlR X rSlS := by
  intro pins s σ H x v vl vu lo hi sl Q I rx hs pl pu h
  obtain ⟨z, rfl, hz, q⟩ := h
  obtain ⟨t, rfl⟩ := rx
  refine ⟨"str", _, PySem.F.slot_str_getitem.lookup, typeIs_str _ _ _, ?_⟩
  have fin : ∀ (y : Str), y.length ≤ z.length → ∀ (t' : Tok) (k : Nat), EP X pins σ Q (.str y t') { s with toks := k } := fun y hy t' k => ⟨.str y, H, I.tok _, ⟨_, rfl⟩, q y hy⟩
  cases pl with
  | none =>
    cases pu with
    | none => exact wpAny_getItem_str_slice (l := none) (u := none) (st := none) hs rfl (post_val_or_str ⟨Nat.le_trans (Txt.slice_le z _ _) hz, fun t' k => fin _ (Txt.slice_le z _ _) t' k⟩)
    | int j tj => exact wpAny_getItem_str_slice (l := none) (u := some (j, tj)) (st := none) hs rfl (post_val_or_str ⟨Nat.le_trans (Txt.slice_le z _ _) hz, fun t' k => fin _ (Txt.slice_le z _ _) t' k⟩)
  | int i ti =>
    cases pu with
    | none => exact wpAny_getItem_str_slice (l := some (i, ti)) (u := none) (st := none) hs rfl (post_val_or_str ⟨Nat.le_trans (Txt.slice_le z _ _) hz, fun t' k => fin _ (Txt.slice_le z _ _) t' k⟩)
    | int j tj => exact wpAny_getItem_str_slice (l := some (i, ti)) (u := some (j, tj)) (st := none) hs rfl (post_val_or_str ⟨Nat.le_trans (Txt.slice_le z _ _) hz, fun t' k => fin _ (Txt.slice_le z _ _) t' k⟩)
/-- int(str(n)) -/
theorem call_int_num : CallR X (.type "int") (fun xs H Q => ∃ n : Int, xs = [.str (PySem.Str.ofString (toString n))] ∧ 0 ≤ n ∧ n < 10 ^ 10 ∧ Q (.int n) H) := by
  intro pins s σ H xs us Q I r h
  obtain ⟨n, rfl, h0, h1, q⟩ := h
  obtain ⟨u, rfl, ru⟩ := vals1 r
  obtain ⟨t, rfl⟩ := ru
  exact PySem.W.KIN.call_num h0 h1 ⟨.int n, H, I.tok _, ⟨_, rfl⟩, q⟩
end
/-! ### the signs of a text -/
def Its (z : Str) : It := ⟨fun i _ => i < z.cps.size, fun i H x H' => H' = H ∧ ∃ c, z.cps[i]? = some c ∧ x = .str ⟨#[c]⟩, fun i _ => z.cps.size ≤ i⟩
theorem turn_str {P : Program} {w : World} {K : PySem.W.Frag} {tg : Expr} (z : Str) (t : Tok) (it : Addr) (T : String) (hT : T = "str_ascii_iterator" ∨ T = "str_iterator") : Turn P w K tg (Its z) [it] it (fun i h => h.IsStrIter it T z t i) where
  mem := by simp
  obj := fun i h st b hb => by
    have e : b = it := by simpa using hb
    subst e
    obtain ⟨o, e, c, d⟩ := st
    exact ⟨o, e, fun v z => by rw [d] at z; cases z⟩
  keep := fun i h h' st k => let ⟨o, e, r⟩ := st; ⟨o, k it (by simp) o e, r⟩
  item := by
    intro X hP hw hK hc i pins s σ H E I hf st hg
    subst hP hw hK
    have hg : i < z.cps.size := hg
    have hx : z.cps[i]? = some z.cps[i] := by simp [hg]
    obtain ⟨f0, f1, f2, f3, f4, f5⟩ := hf it (by simp)
    rcases hT with rfl | rfl
    · refine wpAny_pyNext_ascii_item st hx fun h' st' sb => ?_
      have I1 : Inv X pins σ H { s with heap := h', toks := s.toks + 1 } := I.turned (t' := s.toks + 1) (fun b o hb e => (sb.2 b hb).trans e) f0 f1 f3 f4 f5
      obtain ⟨o, e, c, d⟩ := id st'
      exact ⟨_, rfl, go_of (s := { s with heap := h', toks := s.toks + 1 }) e c d (by decide) ⟨.str ⟨#[z.cps[i]]⟩, H, I1, ⟨_, rfl⟩, ⟨rfl, _, hx, rfl⟩, st', fun b hb => (hf b hb).1⟩⟩
    · refine wpAny_pyNext_wide_item st hx fun h' st' sb => ?_
      have I1 : Inv X pins σ H { s with heap := h', toks := s.toks + 1 } := I.turned (t' := s.toks + 1) (fun b o hb e => (sb.2 b hb).trans e) f0 f1 f3 f4 f5
      obtain ⟨o, e, c, d⟩ := id st'
      exact ⟨_, rfl, go_of (s := { s with heap := h', toks := s.toks + 1 }) e c d (by decide) ⟨.str ⟨#[z.cps[i]]⟩, H, I1, ⟨_, rfl⟩, ⟨rfl, _, hx, rfl⟩, st', fun b hb => (hf b hb).1⟩⟩
  done := by
    intro X hP hw hK hc i pins s σ H E I hf st hg
    subst hP hw hK
    have hg : z.cps.size ≤ i := hg
    obtain ⟨f0, f1, f2, f3, f4, f5⟩ := hf it (by simp)
    have hx : z.cps[i]? = none := by simp [hg]
    rcases hT with rfl | rfl
    · exact wpAny_pyNext_ascii_end (I.ok.hd hc) st hx fun h' eb => ⟨rfl, I.turned (t' := s.toks) (fun b o hb e => eb b o hb e) f0 f1 f3 f4 f5⟩
    · exact wpAny_pyNext_wide_end (I.ok.hd hc) st hx fun h' eb => ⟨rfl, I.turned (t' := s.toks) (fun b o hb e => eb b o hb e) f0 f1 f3 f4 f5⟩
  self := fun _ _ _ _ _ st h => by
    rcases hT with rfl | rfl
    · exact wpAny_pyIter_striter_ascii st h
    · exact wpAny_pyIter_striter_wide st h
section
variable {X : Cx} {tg : Expr}
def iStr (tl : TE) : TI := fun σ H R => tl σ H fun x H1 => ∃ z, x = .str z ∧ R (Its z) H1
theorem pi_str {l : Expr} {tl : TE} (hl : PE X l tl) : PI X tg l (iStr tl) := by
  intro pins s σ H R I h
  refine thn (hl pins s σ H _ I h) fun v s1 ⟨x, H1, I1, r1, q1⟩ => ?_
  obtain ⟨z, e, q⟩ := q1
  subst e
  obtain ⟨t, rfl⟩ := r1
  have fp : ∀ b ∈ [s1.heap.objs.size], FpOk X pins H1 b := fun b hb => by
    have e : b = s1.heap.objs.size := by simpa using hb
    subst e
    exact I1.fpOk (Nat.le_refl _) (I1.hok.fresh (Nat.le_refl _))
  cases ha : z.cps.all (· < 128)
  · refine wpAny_pyIter_wide ha ?_
    exact ⟨s1.heap.objs.size, [s1.heap.objs.size], _, _, H1, rfl, I1.kept (t' := s1.toks) fun b o e => Heap.get?_push_of_some _ e, turn_str z t _ "str_iterator" (.inr rfl), ⟨_, Heap.get?_push_size _ rfl, rfl, rfl⟩, fp, q⟩
  · refine wpAny_pyIter_ascii ha ?_
    exact ⟨s1.heap.objs.size, [s1.heap.objs.size], _, _, H1, rfl, I1.kept (t' := s1.toks) fun b o e => Heap.get?_push_of_some _ e, turn_str z t _ "str_ascii_iterator" (.inl rfl), ⟨_, Heap.get?_push_size _ rfl, rfl, rfl⟩, fp, q⟩
end
end L2

set_option Elab.async false
set_option linter.all false
set_option maxRecDepth 100000
set_option maxHeartbeats 4000000
namespace Z
open PySem L2
def top (i : Nat) : Stmt := PySem.Challenge.pw_cisternyard_k13_texts_refused.main.body.getD i (.Pass ⟨0, 0, 0, 0⟩)
abbrev sIsWhole : Stmt := top 8
abbrev sAreWhole : Stmt := top 9
abbrev sCheck : Stmt := top 14
abbrev sInit : Stmt := inClass (top 15) 0
abbrev sRooms : Stmt := inClass (top 15) 1
abbrev sWaters : Stmt := inClass (top 15) 2
abbrev sReadNumber : Stmt := top 17
abbrev sReadTank : Stmt := top 18
abbrev sRead : Stmt := top 19
abbrev sDrawn : Stmt := top 21
abbrev sWhole : Stmt := top 22
abbrev sRow : Stmt := top 23
abbrev sYardBy : Stmt := top 25
abbrev sNumber : Stmt := top 28
abbrev sDue : Stmt := top 29
abbrev sSignBy : Stmt := top 30
abbrev sOdd : Stmt := top 31
abbrev sSpoilt : Stmt := top 32
abbrev sLaw : Stmt := top 33
theorem boot_str : bootBuiltins "str" = some (.type "str") := by decide +kernel
theorem boot_isi : bootBuiltins "isinstance" = some (.builtin "isinstance") := by decide +kernel
theorem boot_int : bootBuiltins "int" = some (.type "int") := by decide +kernel
theorem boot_bool : bootBuiltins "bool" = some (.type "bool") := by decide +kernel
theorem boot_lst : bootBuiltins "list" = some (.type "list") := by decide +kernel
theorem boot_ve : bootBuiltins "ValueError" = some (.type "ValueError") := by decide +kernel
theorem boot_alls : bootBuiltins "all" = some (.builtin "all") := by decide +kernel
theorem boot_anys : bootBuiltins "any" = some (.builtin "any") := by decide +kernel

/-! ### the data -/
abbrev iL (ns : List Int) : List V := ns.map V.int
structure Good (rs ws : List Int) : Prop where
  n1 : 1 ≤ rs.length
  n4 : rs.length ≤ 4
  eq : ws.length = rs.length
  all : ∀ (i : Nat) (r w : Int), rs[i]? = some r → ws[i]? = some w → 0 ≤ r ∧ r ≤ 50 ∧ 0 ≤ w ∧ w ≤ r
theorem sl : ¬ (("sizes" : Str) = "levels") := by decide +kernel
def fl (sz lv : Addr) : List (Str × V) := putF "levels" (.ref lv) (putF "sizes" (.ref sz) [])
theorem fl_sizes (sz lv : Addr) : (fl sz lv).lookup ("sizes" : Str) = some (.ref sz) := by
  unfold fl
  rw [lookup_putF, if_neg sl, lookup_putF, if_pos rfl]
theorem fl_levels (sz lv : Addr) : (fl sz lv).lookup ("levels" : Str) = some (.ref lv) := by
  unfold fl
  rw [lookup_putF, if_pos rfl]
theorem fl_no (sz lv : Addr) {m : Str} (h1 : ¬ m = "levels") (h2 : ¬ m = "sizes") : (fl sz lv).lookup m = none := by
  unfold fl
  rw [lookup_putF, if_neg h1, lookup_putF, if_neg h2]
  all_goals rfl
/-- a Yard stands at y, its lists at sz and lv -/
structure YardAt (C : Addr) (H : Hp) (y sz lv : Addr) (rs ws : List Int) : Prop where
  ob : ∃ dx, H y = some (.ins C dx (fl sz lv))
  sz : H sz = some (.lst (iL rs))
  lv : H lv = some (.lst (iL ws))
/-! ### the promises -/
def spIW : Sp := fun vs H Q _ => ∃ v m : Int, vs = [.int v, .int m] ∧ Q (.bl (decide (0 ≤ v ∧ v ≤ m))) H
def spAW : Sp := fun vs H Q _ => ∃ (p : Addr) (ns : List Int) (m : Int), vs = [.ref p, .int m] ∧ H p = some (.lst (iL ns)) ∧ ns.length ≤ 100 ∧ ∀ H', Same H H' → Q (.bl (ns.all fun v => decide (0 ≤ v ∧ v ≤ m))) H'
def spCheck (cB : Addr) : Sp := fun vs H Q E => ∃ (p q : Addr) (rs ws : List Int), vs = [.ref p, .ref q] ∧ H p = some (.lst (iL rs)) ∧ H q = some (.lst (iL ws)) ∧ rs.length ≤ 100 ∧ ws.length ≤ 100 ∧
  (Good rs ws → ∀ H', Same H H' → Q .non H') ∧ (¬ Good rs ws → ∀ H', Same H H' → E (.ref cB) none H')
def spInit (C cB : Addr) : Sp := fun vs H Q E => ∃ (x dx p q : Addr) (rs ws : List Int), vs = [.ref x, .ref p, .ref q] ∧ H x = some (.ins C dx []) ∧ H p = some (.lst (iL rs)) ∧ H q = some (.lst (iL ws)) ∧ rs.length ≤ 100 ∧ ws.length ≤ 100 ∧
  (Good rs ws → ∀ (sz lv : Addr) (H' : Hp), H sz = none → H lv = none → sz ≠ lv → YardAt C H' x sz lv rs ws → (∀ b o, H b = some o → b ≠ x → H' b = some o) → Q .non H') ∧ (¬ Good rs ws → ∀ H', Same H H' → E (.ref cB) none H')
def spRooms (C : Addr) : Sp := fun vs H Q _ => ∃ (y sz lv : Addr) (rs ws : List Int), vs = [.ref y] ∧ YardAt C H y sz lv rs ws ∧ ∀ l, H l = none → Q (.ref l) (upd H l (.lst (iL rs)))
def spWaters (C : Addr) : Sp := fun vs H Q _ => ∃ (y sz lv : Addr) (rs ws : List Int), vs = [.ref y] ∧ YardAt C H y sz lv rs ws ∧ ∀ l, H l = none → Q (.ref l) (upd H l (.lst (iL ws)))
structure Txt (K : PySem.W.Frag) (mg : Str → Option Value) (C cY cB cD cL cT : Addr) : Prop where
  cl : Cls K C
  nS : NoAttr K C "sizes"
  nL : NoAttr K C "levels"
  mgC : mg "Yard" = some (.ref C)
  mgY : mg "YardError" = some (.ref cY)
  exB : ExcC K mg "BadYard" cB
  exD : ExcC K mg "BadDays" cD
  exL : ExcC K mg "BadLine" cL
  exT : ExcC K mg "BadText" cT
  kT : ExcK K cT
  exmT : PySem.W.exmOne K (.ref cT) (.ref cY) = some true
  iTB : PySem.W.kitOne K (.ref cT) (.ref cB) = some false
  iTD : PySem.W.kitOne K (.ref cT) (.ref cD) = some false
  iTL : PySem.W.kitOne K (.ref cT) (.ref cL) = some false
  iTT : PySem.W.kitOne K (.ref cT) (.ref cT) = some true
  iTV : PySem.W.kitOne K (.ref cT) (.type "ValueError") = some true
  exmBB : PySem.W.exmOne K (.ref cB) (.ref cB) = some true
  len : mg "len" = none
  range : mg "range" = none
  isi : mg "isinstance" = none
  list : mg "list" = none
  all : mg "all" = none
  any : mg "any" = none
  zip : mg "zip" = none
  int : mg "int" = none
  bool : mg "bool" = none
  ve : mg "ValueError" = none
  min : mg "min" = none
  tup : mg "tuple" = none
  max : mg "max" = none
  sum : mg "sum" = none
  enu : mg "enumerate" = none
  str : mg "str" = none
  m50 : ∃ t, mg "MOST_ROOM" = some (.int 50 t)
  m4 : ∃ t, mg "MOST_TANKS" = some (.int 4 t)
  m30 : ∃ t, mg "MOST_IN_A_DAY" = some (.int 30 t)
  ki : PySem.W.kitOne K (.type "int") (.type "int") = some true
  kib : PySem.W.kitOne K (.type "int") (.type "bool") = some false
  kll : PySem.W.kitOne K (.type "list") (.type "list") = some true
  ktt : PySem.W.kitOne K (.type "tuple") (.type "tuple") = some true
  kbb : PySem.W.kitOne K (.type "bool") (.type "bool") = some true
  kss : PySem.W.kitOne K (.type "str") (.type "str") = some true
/-- the body of the loop that stands at place i of a list of statements -/
def fB9 (l : List Stmt) (i : Nat) : List Stmt := match l.getD i (.Pass ⟨0, 0, 0, 0⟩) with
  | .For _ _ b _ _ => b
  | _ => []
def SB9 (X : Cx) (b : List Stmt) (i : Nat) := {t : TS // PSs X (b.drop i) t}
@[elab_as_elim] theorem len_1 {α : Type} {P : List α → Prop} : ∀ us : List α, us.length = 1 → (∀ a, P [a]) → P us
  | [a], _, h => h a
@[elab_as_elim] theorem len_2 {α : Type} {P : List α → Prop} : ∀ us : List α, us.length = 2 → (∀ a b, P [a, b]) → P us
  | [a, b], _, h => h a b
@[elab_as_elim] theorem len_3 {α : Type} {P : List α → Prop} : ∀ us : List α, us.length = 3 → (∀ a b c, P [a, b, c]) → P us
  | [a, b, c], _, h => h a b c
@[elab_as_elim] theorem len_4 {α : Type} {P : List α → Prop} : ∀ us : List α, us.length = 4 → (∀ a b c d, P [a, b, c, d]) → P us
  | [a, b, c, d], _, h => h a b c d
@[elab_as_elim] theorem len_5 {α : Type} {P : List α → Prop} : ∀ us : List α, us.length = 5 → (∀ a b c d e, P [a, b, c, d, e]) → P us
  | [a, b, c, d, e], _, h => h a b c d e
section
variable {P : Program} {w : World} {K : PySem.W.Frag} {mg : Str → Option Value} {base : Heap} {C cY cB cD cL cT : Addr}
theorem scIW : FnScope ["value", "most"] ["value", "most"] (defScope sIsWhole) := ⟨rfl, rfl, rfl, by decide +kernel, rfl, by decide +kernel, by decide +kernel⟩
theorem ok_iw {f : Addr} {fd : FuncData} (F : Fun K "is_whole" "is_whole" sIsWhole f fd) (T : Txt K mg C cY cB cD cL cT) : FnOk P w K mg base CX0 1 f fd ["value", "most"] spIW := by
  refine F.ok scIW (fun vs H Q E h => ?_) (fun cdv A outer s H vs Q E hr h => ?_)
  · obtain ⟨v, m, rfl, _⟩ := h
    rfl
  · obtain ⟨v, m, rfl, k⟩ := h
    refine ⟨_, pss_cons (ps_if (pw_or (pt_not (pt_val (pe_callB call_isi (by rfl) T.isi boot_isi (pa_cons (pv 0) (pa_cons (pe_bltn (v := .ty "int") (by rfl) T.int boot_int rfl) pa_nil)))))
        (pw_or1 (pt_val (pe_callB call_isi (by rfl) T.isi boot_isi (pa_cons (pv 0) (pa_cons (pe_bltn (v := .ty "bool") (by rfl) T.bool boot_bool rfl) pa_nil)))))).pt (pss_one (ps_ret pe_bl)) pss_nil)
      (pss_one (ps_ret (pe_chain op_le op_le pe_int (pv 0) (pv 1)))), ?_⟩
    refine ⟨_, rfl, _, _, _, _, rfl, .int v, (by nofun), T.ki, _, rfl, ?_⟩
    refine iteF ?_
    refine ⟨_, rfl, _, _, _, _, rfl, .int v, (by nofun), T.kib, _, rfl, ?_⟩
    refine iteF ?_
    refine ⟨_, rfl, _, _, rfl, rfl, _, rfl, ?_⟩
    refine ite2 (fun h0 => ?_) (fun h0 => ?_)
    · refine ⟨_, rfl, _, _, rfl, rfl, ?_⟩
      have h0' : (0 : Int) ≤ v := of_decide_eq_true h0
      have e : decide (v ≤ m) = decide (0 ≤ v ∧ v ≤ m) := by
        rw [decide_eq_decide]
        exact ⟨fun z => ⟨h0', z⟩, fun z => z.2⟩
      show Q (V.bl (decide (v ≤ m))) H
      rw [e]
      exact k
    · have e : false = decide (0 ≤ v ∧ v ≤ m) := by
        symm
        exact decide_eq_false fun z => h0 (decide_eq_true z.1)
      show Q (V.bl false) H
      rw [e]
      exact k
end
end Z

set_option Elab.async false
set_option linter.all false
set_option maxRecDepth 100000
set_option maxHeartbeats 4000000
namespace Z
open PySem L2
section
variable {P : Program} {w : World} {K : PySem.W.Frag} {mg : Str → Option Value} {base : Heap} {C cY cB cD cL cT : Addr}
theorem sz100 {n : Nat} (h : n ≤ 100) : n ≤ sizeLine := Nat.le_trans h (by decide)
theorem iL_get {ns : List Int} {i : Nat} {x : V} (h : (iL ns)[i]? = some x) : ∃ v, ns[i]? = some v ∧ x = .int v := by
  rw [List.getElem?_map] at h
  cases e : ns[i]? with
  | none => rw [e] at h; cases h
  | some v => rw [e] at h; exact ⟨v, rfl, (Option.some.inj h).symm⟩
theorem take_snoc {α : Type} {l : List α} {i : Nat} {v : α} (h : l[i]? = some v) : l.take (i + 1) = l.take i ++ [v] := by
  rw [List.take_add_one, h]
  rfl
theorem scAW : FnScope ["values", "most"] ["values", "most"] (defScope sAreWhole) := ⟨rfl, rfl, rfl, by decide +kernel, rfl, by decide +kernel, by decide +kernel⟩
theorem ndAW : (["value", "most"] : List Str).Nodup := by decide +kernel
theorem ok_aw {f fI : Addr} {fd fdI : FuncData} (F : Fun K "are_whole" "are_whole" sAreWhole f fd) (T : Txt K mg C cY cB cD cL cT) (FI : Fun K "is_whole" "is_whole" sIsWhole fI fdI) (bI : Binds K fdI ["value", "most"] []) (mI : mg "is_whole" = some (.ref fI)) :
    FnOk P w K mg base CX0 2 f fd ["values", "most"] spAW := by
  have GI : FnOk P w K mg base CX0 1 fI fdI ["value", "most"] spIW := ok_iw FI T
  refine F.ok scAW (fun vs H Q E h => ?_) (fun cdv A outer s H vs Q E hr h => ?_)
  · obtain ⟨p, ns, m, rfl, _⟩ := h
    rfl
  · obtain ⟨p, ns, m, rfl, hp, hl, k⟩ := h
    refine ⟨_, pss_one (ps_ret (pe_and (pe_callB call_isi (by rfl) T.isi boot_isi (pa_cons (pv 0) (pa_cons (pe_bltn (v := .ty "list") (by rfl) T.list boot_lst rfl) pa_nil)))
      (pe_one (pe_callB (call_all rfl) (by rfl) T.all boot_alls (pa_cons (pe_comp (N := ["value", "most"]) (cap := [none, some 1]) rfl (.of (by rfl)) (pi_list (pv 0)) (fun _ _ _ _ => pg_name (i := 0) ndAW rfl (Or.inl rfl)) (fun _ _ _ _ => pts_nil)
        (fun _ _ _ _ => pe_call GI hr (by rfl) mI FI.kp bI .nil pass0 (pa_cons (pv 0) (pa_cons (pv 1) pa_nil)))) pa_nil))))), ?_⟩
    refine ⟨_, rfl, _, _, _, _, rfl, .lst hp, (by nofun), T.kll, _, rfl, ?_⟩
    refine iteT ?_
    refine ⟨_, rfl, p, rfl, ⟨_, SqL.of hp⟩, fun D hD => ?_⟩
    have npD : p ≠ D := ne_of_none hp hD
    refine comp_by ns.length (sz100 hl) (fun i ys τ H' => i ≤ ns.length ∧ ys = (ns.take i).map (fun v => V.bl (decide (0 ≤ v ∧ v ≤ m))) ∧ H' = upd H D (.lst ys) ∧ ∃ o, τ = [o, some (.int m)]) ?_ ?_ ?_ ?_
    · exact ⟨Nat.zero_le _, rfl, rfl, none, rfl⟩
    · rintro i ys τ H' ⟨hi, rfl, rfl, _⟩
      exact ⟨upd_same, by rw [List.length_map, List.length_take]; exact Nat.min_le_left _ _⟩
    · rintro i ys τ H' hi ⟨_, rfl, rfl, o, rfl⟩
      have hp' : (upd H D (.lst ((ns.take i).map (fun v => V.bl (decide (0 ≤ v ∧ v ≤ m)))))) p = some (.lst (iL ns)) := by rw [upd_ne npD]; exact hp
      refine ⟨⟨iL ns, .int ns[i], SqL.of hp', by simp [hi]⟩, ?_⟩
      rintro x H3 ⟨rfl, hx⟩
      obtain ⟨v, hv, rfl⟩ := iL_get (hx _ (SqL.of hp'))
      refine name_yes_if ?_
      refine ⟨_, rfl, _, rfl, v, m, rfl, upd_same, hi, ?_, ?_, some (.int v), rfl⟩
      · rw [take_snoc hv, List.map_append]
        rfl
      · rw [upd_upd]
    · rintro ys τ H' ⟨_, rfl, rfl, o, rfl⟩
      have hp' : (upd H D (.lst ((ns.take ns.length).map (fun v => V.bl (decide (0 ≤ v ∧ v ≤ m)))))) p = some (.lst (iL ns)) := by rw [upd_ne npD]; exact hp
      refine ⟨⟨iL ns, SqL.of hp', by simp⟩, D, ns.map (fun v => decide (0 ≤ v ∧ v ≤ m)), rfl, SqL.of ?_, ?_⟩
      · rw [upd_same, List.take_length, List.map_map]
        rfl
      · have e : (ns.map (fun v => decide (0 ≤ v ∧ v ≤ m))).all id = ns.all fun v => decide (0 ≤ v ∧ v ≤ m) := by
          rw [List.all_map]
          rfl
        rw [e]
        exact k _ fun b o z => by rw [upd_ne (ne_of_none z hD)]; exact z

theorem scCk : FnScope ["rooms", "waters"] ["rooms", "waters"] (defScope sCheck) := ⟨rfl, rfl, rfl, by decide +kernel, rfl, by decide +kernel, by decide +kernel⟩
theorem ndCk : (["room", "water"] : List Str).Nodup := by decide +kernel
theorem all_iff {ns : List Int} {m : Int} : (ns.all fun v => decide (0 ≤ v ∧ v ≤ m)) = true ↔ ∀ v ∈ ns, 0 ≤ v ∧ v ≤ m := by
  rw [List.all_eq_true]
  exact ⟨fun h v hv => of_decide_eq_true (h v hv), fun h v hv => decide_eq_true (h v hv)⟩
theorem Good.rs {rs ws : List Int} (g : Good rs ws) : ∀ v ∈ rs, 0 ≤ v ∧ v ≤ 50 := fun v hv => by
  obtain ⟨i, hi, e⟩ := List.mem_iff_getElem.mp hv
  have hw : i < ws.length := by rw [g.eq]; exact hi
  have := g.all i v ws[i] (by rw [← e]; exact List.getElem?_eq_getElem hi) (List.getElem?_eq_getElem hw)
  exact ⟨this.1, this.2.1⟩
theorem Good.ws {rs ws : List Int} (g : Good rs ws) : ∀ v ∈ ws, 0 ≤ v ∧ v ≤ 50 := fun v hv => by
  obtain ⟨i, hi, e⟩ := List.mem_iff_getElem.mp hv
  have hr : i < rs.length := by rw [← g.eq]; exact hi
  have := g.all i rs[i] v (List.getElem?_eq_getElem hr) (by rw [← e]; exact List.getElem?_eq_getElem hi)
  omega
theorem ok_ck {f fA fI : Addr} {fd fdA fdI : FuncData} (F : Fun K "check_yard" "check_yard" sCheck f fd) (T : Txt K mg C cY cB cD cL cT) (FA : Fun K "are_whole" "are_whole" sAreWhole fA fdA) (bA : Binds K fdA ["values", "most"] []) (mA : mg "are_whole" = some (.ref fA))
    (FI : Fun K "is_whole" "is_whole" sIsWhole fI fdI) (bI : Binds K fdI ["value", "most"] []) (mI : mg "is_whole" = some (.ref fI)) :
    FnOk P w K mg base (CXo P w) 3 f fd ["rooms", "waters"] (spCheck cB) := by
  have GA : FnOk P w K mg base CX0 2 fA fdA ["values", "most"] spAW := ok_aw FA T FI bI mI
  obtain ⟨t50, h50⟩ := T.m50
  obtain ⟨t4, h4⟩ := T.m4
  refine F.okX scCk (fun vs H Q E h => ?_) (fun cdv A outer s H vs Q E hr h => ?_)
  · obtain ⟨p, q, rs, ws, rfl, _⟩ := h
    rfl
  · obtain ⟨p, q, rs, ws, rfl, hp, hq, hl1, hl2, kG, kB⟩ := h
    show let X9 := _; let E9 := _; ∃ t, PSs X9 (defBody sCheck) t ∧ t E9 _ _
    intro X9 E9
    let x1_3 : SB9 X9 (defBody sCheck) 3 := ⟨_, pss_one (ps_if (pt_val (pe_callB (call_any rfl) (by rfl) T.any boot_anys (pa_cons (pe_comp (g := gTup K 2 (gCons (gName 0) (gCons (gName 1) gNil))) (N := ["room", "water"]) (cap := [none, none]) rfl (.of (by rfl)) (pi_zip (by rfl) T.zip (pa_cons (pv 0) (pa_cons (pv 1) pa_nil)))
        (fun _ _ _ _ => pg_tup (by rfl) (pgs_cons (pg_name (i := 0) ndCk (by rfl) (Or.inl (by rfl)) (Or.inr (by rfl))) (pgs_cons (pg_name (i := 1) ndCk (by rfl) (Or.inl (by rfl)) (Or.inr (by rfl))) pgs_nil))) (fun _ _ _ _ => pts_nil) (fun _ _ _ _ => pe_cmpR op_gt (pv 1) (pv 0) (nomark _))) pa_nil))) (pss_one (ps_raise rfl T.exB leaves_cx (by rfl) (pa_cons pe_str pa_nil))) pss_nil)⟩
    let tx1_3 : TS := x1_3.1
    have px1_3 : PSs X9 (List.drop 3 (defBody sCheck)) tx1_3 := x1_3.2
    let x1_2 : SB9 X9 (defBody sCheck) 2 := ⟨_, pss_cons (ps_if (pt_cmpR op_ne (pe_callB call_len_seq (by rfl) T.len PySem.boot_len (pa_cons (pv 1) pa_nil)) (pe_callB call_len_seq (by rfl) T.len PySem.boot_len (pa_cons (pv 0) pa_nil)) (nomark _)) (pss_one (ps_raise rfl T.exB leaves_cx (by rfl) (pa_cons pe_str pa_nil))) pss_nil) px1_3⟩
    let tx1_2 : TS := x1_2.1
    have px1_2 : PSs X9 (List.drop 2 (defBody sCheck)) tx1_2 := x1_2.2
    let x1_1 : SB9 X9 (defBody sCheck) 1 := ⟨_, pss_cons (ps_if (pt_not (pt_chain op_le op_le pe_int (pe_callB call_len_seq (by rfl) T.len PySem.boot_len (pa_cons (pv 0) pa_nil)) (pe_glob (v := .int 4) (by rfl) h4 ⟨_, rfl⟩))) (pss_one (ps_raise rfl T.exB leaves_cx (by rfl) (pa_cons pe_str pa_nil))) pss_nil) px1_2⟩
    let tx1_1 : TS := x1_1.1
    have px1_1 : PSs X9 (List.drop 1 (defBody sCheck)) tx1_1 := x1_1.2
    let x1_0 : SB9 X9 (defBody sCheck) 0 := ⟨_, pss_cons (ps_if (pw_or (pt_not (pt_val (pe_call GA hr (by rfl) mA FA.kp bA .nil pass0 (pa_cons (pv 0) (pa_cons (pe_glob (v := .int 50) (by rfl) h50 ⟨_, rfl⟩) pa_nil)))))
        (pw_or1 (pt_not (pt_val (pe_call GA hr (by rfl) mA FA.kp bA .nil pass0 (pa_cons (pv 1) (pa_cons (pe_glob (v := .int 50) (by rfl) h50 ⟨_, rfl⟩) pa_nil))))))).pt (pss_one (ps_raise rfl T.exB leaves_cx (by rfl) (pa_cons pe_str pa_nil))) pss_nil) px1_1⟩
    let tx1_0 : TS := x1_0.1
    have px1_0 : PSs X9 (List.drop 0 (defBody sCheck)) tx1_0 := x1_0.2
    refine ⟨tx1_0, px1_0, ?_⟩
    -- rooms and waters are whole
    refine ⟨_, rfl, p, rs, 50, rfl, hp, hl1, fun H1 s1 => ⟨_, rfl, ?_⟩⟩
    refine ite2 (fun h1 => ?_) (fun h1 => ?_)
    · refine iteT ⟨by decide, kB (fun g => ?_) H1 s1⟩
      rw [(all_iff (m := 50)).mpr g.rs] at h1
      cases h1
    have a1 : ∀ v ∈ rs, 0 ≤ v ∧ v ≤ 50 := all_iff.mp (by simpa using h1)
    refine ⟨_, rfl, q, ws, 50, rfl, s1 _ _ hq, hl2, fun H2 s2 => ⟨_, rfl, ?_⟩⟩
    have s12 := s1.trans s2
    refine ite2 (fun h2 => ?_) (fun h2 => ?_)
    · refine ⟨by decide, kB (fun g => ?_) H2 s12⟩
      rw [(all_iff (m := 50)).mpr g.ws] at h2
      cases h2
    have a2 : ∀ v ∈ ws, 0 ≤ v ∧ v ≤ 50 := all_iff.mp (by simpa using h2)
    -- 1 to 4 tanks
    refine ⟨_, rfl, p, _, rfl, .inl (SqL.of (s12 _ _ hp)), _, _, rfl, rfl, _, rfl, ?_⟩
    have el : ((iL rs).length : Int) = (rs.length : Int) := by rw [List.length_map]
    have el2 : ((iL ws).length : Int) = (ws.length : Int) := by rw [List.length_map]
    refine ite2 (fun h3 => ?_) (fun h3 => ?_)
    rotate_left
    · refine ⟨_, rfl, ?_⟩
      refine iteT ⟨by decide, kB (fun g => h3 (decide_eq_true (by rw [el]; have := g.n1; omega))) H2 s12⟩
    have h3' : 1 ≤ rs.length := by have := of_decide_eq_true h3; rw [el] at this; omega
    refine ⟨_, _, rfl, rfl, _, rfl, ?_⟩
    refine ite2 (fun h4 => ?_) (fun h4 => ?_)
    · refine ⟨by decide, kB (fun g => ?_) H2 s12⟩
      have : decide (((iL rs).length : Int) ≤ 4) = true := decide_eq_true (by rw [el]; have := g.n4; omega)
      rw [this] at h4
      cases h4
    have h4' : rs.length ≤ 4 := by
      by_cases z : ((iL rs).length : Int) ≤ 4
      · rw [el] at z; omega
      · exact absurd (by rw [decide_eq_false z]; rfl) h4
    -- as many waters
    refine ⟨_, rfl, q, _, rfl, .inl (SqL.of (s12 _ _ hq)), _, rfl, p, _, rfl, .inl (SqL.of (s12 _ _ hp)), rfl, _, rfl, ?_⟩
    refine ite2 (fun h5 => ?_) (fun h5 => ?_)
    · refine ⟨by decide, kB (fun g => ?_) H2 s12⟩
      have : decide (V.int ((iL ws).length : Int) = V.int ((iL rs).length : Int)) = true := decide_eq_true (by rw [el, el2, g.eq])
      rw [this] at h5
      cases h5
    have h5' : ws.length = rs.length := by
      by_cases z : V.int ((iL ws).length : Int) = V.int ((iL rs).length : Int)
      · rw [el, el2] at z
        injection z with z
        omega
      · exact absurd (by rw [decide_eq_false z]; rfl) h5
    -- no tank above its room
    refine ⟨_, rfl, _, rfl, p, q, rfl, ⟨_, SqL.of (s12 _ _ hp)⟩, ⟨_, SqL.of (s12 _ _ hq)⟩, fun D hD => ?_⟩
    refine comp_by rs.length (sz100 hl1) (fun i ys τ H' => i ≤ rs.length ∧ ys = ((rs.zip ws).take i).map (fun v => V.bl (decide (v.1 < v.2))) ∧ Same H2 H' ∧ H' D = some (.lst ys) ∧ τ.length = 2) ?_ ?_ ?_ ?_
    · refine ⟨Nat.zero_le _, rfl, fun b o z => ?_, upd_same, rfl⟩
      rw [upd_ne (ne_of_none z hD)]
      exact z
    · rintro i ys τ H' ⟨hi, rfl, _, hd, _⟩
      exact ⟨hd, by rw [List.length_map, List.length_take]; exact Nat.min_le_left _ _⟩
    · rintro i ys τ H' hi ⟨_, rfl, s3, hd, ht⟩
      have hp3 := s3 _ _ (s12 _ _ hp)
      have hq3 := s3 _ _ (s12 _ _ hq)
      have hiw : i < ws.length := by omega
      refine ⟨⟨iL rs, iL ws, .int rs[i], .int ws[i], SqL.of hp3, SqL.of hq3, by simp [hi], by simp [hiw]⟩, ?_⟩
      rintro x H3 ⟨t, x1, x2, rfl, hnt, rfl, g1, g2⟩
      obtain ⟨v1, hv1, rfl⟩ := iL_get (g1 _ (SqL.of hp3))
      obtain ⟨v2, hv2, rfl⟩ := iL_get (g2 _ (SqL.of hq3))
      have ntD : D ≠ t := ne_of_none hd hnt
      obtain ⟨τ0, τ1, rfl⟩ : ∃ a b, τ = [a, b] := by
        match τ, ht with
        | [a, b], _ => exact ⟨a, b, rfl⟩
      refine ⟨t, _, rfl, SqT.of upd_same, rfl, _, _, rfl, _, _, rfl, rfl, ?_⟩
      refine yes_if ?_
      refine ⟨_, rfl, _, rfl, _, _, rfl, rfl, ?_, hi, ?_, fun b o z => ?_, upd_same, rfl⟩
      · rw [upd_ne ntD]
        exact hd
      · have hz : (rs.zip ws)[i]? = some (v1, v2) := by rw [List.getElem?_zip_eq_some]; exact ⟨hv1, hv2⟩
        rw [take_snoc hz, List.map_append]
        rfl
      · rw [upd_ne (ne_of_none z hD), upd_ne (ne_of_none (s3 _ _ z) hnt)]
        exact s3 _ _ z
    · rintro ys τ H' ⟨_, rfl, s3, hd, _⟩
      have hp3 := s3 _ _ (s12 _ _ hp)
      have hq3 := s3 _ _ (s12 _ _ hq)
      refine ⟨⟨iL rs, iL ws, SqL.of hp3, SqL.of hq3, .inl (by simp)⟩, D, (rs.zip ws).map (fun v => decide (v.1 < v.2)), rfl, SqL.of ?_, _, rfl, ?_⟩
      · rw [hd, List.map_map]
        have e : (rs.zip ws).take rs.length = rs.zip ws := List.take_of_length_le (by rw [List.length_zip]; exact Nat.min_le_left _ _)
        rw [e]
        rfl
      · have s4 := s12.trans s3
        refine ite2 (fun h6 => ?_) (fun h6 => ?_)
        · refine ⟨by decide, kB (fun g => ?_) H' s4⟩
          obtain ⟨b, hb, e⟩ := List.any_eq_true.mp h6
          obtain ⟨⟨v1, v2⟩, hm, e2⟩ := List.mem_map.mp hb
          subst e2
          have lt : v1 < v2 := of_decide_eq_true e
          obtain ⟨i, hi, e3⟩ := List.mem_iff_getElem.mp hm
          have hz : (rs.zip ws)[i]? = some (v1, v2) := by rw [← e3]; exact List.getElem?_eq_getElem hi
          rw [List.getElem?_zip_eq_some] at hz
          have := g.all i v1 v2 hz.1 hz.2
          omega
        · refine kG ⟨h3', h4', h5', fun i r w' e1 e2 => ?_⟩ H' s4
          have b1 := a1 r (List.mem_of_getElem? e1)
          have b2 := a2 w' (List.mem_of_getElem? e2)
          refine ⟨b1.1, b1.2, b2.1, ?_⟩
          have hz : (rs.zip ws)[i]? = some (r, w') := by rw [List.getElem?_zip_eq_some]; exact ⟨e1, e2⟩
          have hb : decide (r < w') ∈ (rs.zip ws).map (fun v => decide (v.1 < v.2)) := List.mem_map.mpr ⟨(r, w'), List.mem_of_getElem? hz, rfl⟩
          have : ¬ r < w' := fun lt => h6 (List.any_eq_true.mpr ⟨_, hb, decide_eq_true lt⟩)
          omega
end
end Z

set_option Elab.async false
set_option linter.all false
set_option maxRecDepth 100000
set_option maxHeartbeats 4000000
namespace Z
open PySem L2
section
variable {P : Program} {w : World} {K : PySem.W.Frag} {mg : Str → Option Value} {base : Heap} {C cY cB cD cL cT : Addr}
theorem scIn : FnScope ["self", "rooms", "waters"] ["self", "rooms", "waters"] (defScope sInit) := ⟨rfl, rfl, rfl, by decide +kernel, rfl, by decide +kernel, by decide +kernel⟩
theorem ok_in {f fC : Addr} {fd fdC : FuncData} (F : Fun K "__init__" "Yard.__init__" sInit f fd) (T : Txt K mg C cY cB cD cL cT) (FC : Fun K "check_yard" "check_yard" sCheck fC fdC) (bC : Binds K fdC ["rooms", "waters"] []) (mC : mg "check_yard" = some (.ref fC))
    (GC : FnOk P w K mg base (CXo P w) 3 fC fdC ["rooms", "waters"] (spCheck cB)) : FnOk P w K mg base (CXo P w) 4 f fd ["self", "rooms", "waters"] (spInit C cB) := by
  refine F.okX scIn (fun vs H Q E h => ?_) (fun cdv A outer s H vs Q E hr h => ?_)
  · obtain ⟨x, dx, p, q, rs, ws, rfl, _⟩ := h
    rfl
  · obtain ⟨x, dx, p, q, rs, ws, rfl, hx, hp, hq, hl1, hl2, kG, kB⟩ := h
    show let X9 := _; let E9 := _; ∃ t, PSs X9 (defBody sInit) t ∧ t E9 _ _
    intro X9 E9
    let x1_2 : SB9 X9 (defBody sInit) 2 := ⟨_, pss_one (ps_fld (pv 0) (pe_callTy call_list_of (by rfl) T.list boot_lst (pa_cons (pv 2) pa_nil)) rfl)⟩
    let tx1_2 : TS := x1_2.1
    have px1_2 : PSs X9 (List.drop 2 (defBody sInit)) tx1_2 := x1_2.2
    let x1_1 : SB9 X9 (defBody sInit) 1 := ⟨_, pss_cons (ps_fld (pv 0) (pe_callTy call_list_of (by rfl) T.list boot_lst (pa_cons (pv 1) pa_nil)) rfl) px1_2⟩
    let tx1_1 : TS := x1_1.1
    have px1_1 : PSs X9 (List.drop 1 (defBody sInit)) tx1_1 := x1_1.2
    let x1_0 : SB9 X9 (defBody sInit) 0 := ⟨_, pss_cons (ps_expr (pe_callX GC hr (by rfl) mC FC.kp bC .nil passes_cx (pa_cons (pv 1) (pa_cons (pv 2) pa_nil)))) px1_1⟩
    let tx1_0 : TS := x1_0.1
    have px1_0 : PSs X9 (List.drop 0 (defBody sInit)) tx1_0 := x1_0.2
    refine ⟨tx1_0, px1_0, ?_⟩
    refine ⟨_, rfl, _, rfl, p, q, rs, ws, rfl, hp, hq, hl1, hl2, fun g H1 s1 => ?_, fun g H1 s1 => kB g H1 s1⟩
    refine ⟨_, rfl, p, _, rfl, .inl (SqL.of (s1 _ _ hp)), fun sz hsz => ?_⟩
    have nx : x ≠ sz := ne_of_none (s1 _ _ hx) hsz
    refine ⟨_, rfl, x, C, dx, [], rfl, (by rw [upd_ne nx]; exact s1 _ _ hx), T.cl, T.nS, (by show 0 < 1000; decide), ?_⟩
    have nq : q ≠ sz := ne_of_none (s1 _ _ hq) hsz
    have nqx : q ≠ x := ne_of hq hx (by intro z; cases z)
    refine ⟨_, rfl, q, _, rfl, .inl (SqL.of (by rw [upd_ne nqx, upd_ne nq]; exact s1 _ _ hq)), fun lv hlv => ?_⟩
    have nxl : x ≠ lv := fun z => by
      rw [← z, upd_same] at hlv
      cases hlv
    have nsl : sz ≠ lv := fun z => by
      rw [← z, upd_ne nx.symm, upd_same] at hlv
      cases hlv
    have hlv1 : H1 lv = none := by
      rw [upd_ne nxl.symm, upd_ne nsl.symm] at hlv
      exact hlv
    refine ⟨_, rfl, x, C, dx, _, rfl, (by rw [upd_ne nxl, upd_same]), T.cl, T.nL, (by show 1 < 1000; decide), ?_⟩
    refine kG g sz lv _ (s1.free hsz) (s1.free hlv1) nsl ⟨⟨dx, upd_same⟩, ?_, ?_⟩ fun b o z hb => ?_
    · rw [upd_ne nx.symm, upd_ne nsl, upd_ne nx.symm, upd_same]
    · rw [upd_ne nxl.symm, upd_same]
    · have z1 := s1 _ _ z
      rw [upd_ne hb, upd_ne (ne_of_none z1 hlv1), upd_ne hb, upd_ne (ne_of_none z1 hsz)]
      exact z1
theorem scRo : FnScope ["self"] ["self"] (defScope sRooms) := ⟨rfl, rfl, rfl, by decide +kernel, rfl, by decide +kernel, by decide +kernel⟩
theorem ok_ro {f : Addr} {fd : FuncData} (F : Fun K "rooms" "Yard.rooms" sRooms f fd) (T : Txt K mg C cY cB cD cL cT) : FnOk P w K mg base CX0 1 f fd ["self"] (spRooms C) := by
  refine F.ok scRo (fun vs H Q E h => ?_) (fun cdv A outer s H vs Q E hr h => ?_)
  · obtain ⟨y, sz, lv, rs, ws, rfl, _⟩ := h
    rfl
  · obtain ⟨y, sz, lv, rs, ws, rfl, ⟨⟨dx, hy⟩, hs, hv⟩, k⟩ := h
    refine ⟨_, pss_one (ps_ret (pe_callTy call_list_of (by rfl) T.list boot_lst (pa_cons (pe_fld (pv 0) rfl) pa_nil))), ?_⟩
    exact ⟨_, rfl, y, C, dx, _, _, rfl, hy, T.cl, T.nS, fl_sizes _ _, sz, _, rfl, .inl (SqL.of hs), fun l hl => k l hl⟩
theorem scWa : FnScope ["self"] ["self"] (defScope sWaters) := ⟨rfl, rfl, rfl, by decide +kernel, rfl, by decide +kernel, by decide +kernel⟩
theorem ok_wa {f : Addr} {fd : FuncData} (F : Fun K "waters" "Yard.waters" sWaters f fd) (T : Txt K mg C cY cB cD cL cT) : FnOk P w K mg base CX0 1 f fd ["self"] (spWaters C) := by
  refine F.ok scWa (fun vs H Q E h => ?_) (fun cdv A outer s H vs Q E hr h => ?_)
  · obtain ⟨y, sz, lv, rs, ws, rfl, _⟩ := h
    rfl
  · obtain ⟨y, sz, lv, rs, ws, rfl, ⟨⟨dx, hy⟩, hs, hv⟩, k⟩ := h
    refine ⟨_, pss_one (ps_ret (pe_callTy call_list_of (by rfl) T.list boot_lst (pa_cons (pe_fld (pv 0) rfl) pa_nil))), ?_⟩
    exact ⟨_, rfl, y, C, dx, _, _, rfl, hy, T.cl, T.nL, fl_levels _ _, lv, _, rfl, .inl (SqL.of hv), fun l hl => k l hl⟩

/-! ### the law's own helpers -/
def spDrawn (K : PySem.W.Frag) : Sp := fun vs H Q _ => ∃ (a : Addr) (ns : List Int) (k m : Int), vs = [.ref a, .int k, .int m] ∧ SqL K H a (iL ns) ∧ ns.length ≤ 63 ∧ 0 ≤ k ∧ k ≤ 1000000 ∧ 0 < m ∧ ∀ r, 0 ≤ r → r < m → Q (.int r) H
theorem scDr : FnScope ["script", "k", "many", "cell", "stir"] ["script", "k", "many"] (defScope sDrawn) := ⟨rfl, rfl, rfl, by decide +kernel, rfl, by decide +kernel, by decide +kernel⟩
theorem emod_lt64 (x : Int) : -(2 ^ 64) < x % 2147483647 ∧ x % 2147483647 < 2 ^ 64 := by
  have h1 := Int.emod_nonneg x (show (2147483647 : Int) ≠ 0 by decide)
  have h2 := Int.emod_lt_of_pos x (show (0 : Int) < 2147483647 by decide)
  omega
theorem ok_dr {f : Addr} {fd : FuncData} (F : Fun K "_law_drawn" "_law_drawn" sDrawn f fd) (T : Txt K mg C cY cB cD cL cT) : FnOk P w K mg base CX0 1 f fd ["script", "k", "many"] (spDrawn K) := by
  refine F.ok scDr (fun vs H Q E h => ?_) (fun cdv A outer s H vs Q E hr h => ?_)
  · obtain ⟨a, ns, k, m, rfl, _⟩ := h
    rfl
  · obtain ⟨a, ns, k, m, rfl, hs, hl, hk0, hk1, hm, q⟩ := h
    show let X9 := _; let E9 := _; ∃ t, PSs X9 (defBody sDrawn) t ∧ t E9 _ _
    intro X9 E9
    let x1_4 : SB9 X9 (defBody sDrawn) 4 := ⟨_, pss_one (ps_ret (pe_op op_mod (pe_op op_fdiv (pe_op op_mod (pe_op op_mul (pv 4) pe_int) pe_int) pe_int) (pv 2)))⟩
    let tx1_4 : TS := x1_4.1
    have px1_4 : PSs X9 (List.drop 4 (defBody sDrawn)) tx1_4 := x1_4.2
    let x1_3 : SB9 X9 (defBody sDrawn) 3 := ⟨_, pss_cons (ps_set (i := 4) scDr.nd rfl (Or.inl rfl) (pe_op op_mod (pe_op op_add (pe_op op_add (pe_op op_mul (pv 4) (pv 4)) (pe_op op_mul (pv 1) pe_int)) pe_int) pe_int)) px1_4⟩
    let tx1_3 : TS := x1_3.1
    have px1_3 : PSs X9 (List.drop 3 (defBody sDrawn)) tx1_3 := x1_3.2
    let x1_2 : SB9 X9 (defBody sDrawn) 2 := ⟨_, pss_cons (ps_set (i := 4) scDr.nd rfl (Or.inl rfl) (pe_op op_mod (pe_op op_add (pe_op op_add (pe_op op_mul (pv 3) pe_int) (pe_op op_mul (pe_op op_add (pv 1) pe_int) pe_int)) (pe_callB call_len_seq (by rfl) T.len PySem.boot_len (pa_cons (pv 0) pa_nil))) pe_int)) px1_3⟩
    let tx1_2 : TS := x1_2.1
    have px1_2 : PSs X9 (List.drop 2 (defBody sDrawn)) tx1_2 := x1_2.2
    let x1_1 : SB9 X9 (defBody sDrawn) 1 := ⟨_, pss_cons (ps_if (pt_cmpR op_gt (pe_callB call_len_seq (by rfl) T.len PySem.boot_len (pa_cons (pv 0) pa_nil)) pe_int (nomark _))
        (pss_one (ps_set (i := 3) scDr.nd rfl (Or.inl rfl) (pe_ix ix_list (pv 0) (pe_op op_mod (pv 1) (pe_callB call_len_seq (by rfl) T.len PySem.boot_len (pa_cons (pv 0) pa_nil))) (fun _ _ => rfl)))) pss_nil) px1_2⟩
    let tx1_1 : TS := x1_1.1
    have px1_1 : PSs X9 (List.drop 1 (defBody sDrawn)) tx1_1 := x1_1.2
    let x1_0 : SB9 X9 (defBody sDrawn) 0 := ⟨_, pss_cons (ps_set (i := 3) scDr.nd rfl (Or.inl rfl) pe_int) px1_1⟩
    let tx1_0 : TS := x1_0.1
    have px1_0 : PSs X9 (List.drop 0 (defBody sDrawn)) tx1_0 := x1_0.2
    refine ⟨tx1_0, px1_0, ?_⟩
    have el : ((iL ns).length : Int) = (ns.length : Int) := by rw [List.length_map]
    refine ⟨_, rfl, a, _, rfl, .inl hs, _, _, rfl, rfl, _, rfl, ?_⟩
    refine ite2 (fun h1 => ?_) (fun h1 => ?_)
    · have h1' : (0 : Int) < ((iL ns).length : Int) := of_decide_eq_true h1
      have b1 := Int.emod_nonneg k (show ((iL ns).length : Int) ≠ 0 by omega)
      have b2 := Int.emod_lt_of_pos k h1'
      obtain ⟨j, hj⟩ : ∃ j : Nat, (j : Int) = k % ((iL ns).length : Int) := ⟨(k % ((iL ns).length : Int)).toNat, by omega⟩
      have hjl : j < ns.length := by rw [el] at hj b2; omega
      refine ⟨_, rfl, _, rfl, _, rfl, a, _, rfl, .inl hs, _, _, rfl, rfl, h1', a, _, _, .int ns[j], rfl, rfl, hs, ?_, ?_⟩
      · rw [← hj]
        exact atI_nat (by simp [hjl])
      refine ⟨_, rfl, _, _, rfl, rfl, .inr ⟨by decide, by decide⟩, _, rfl, _, _, rfl, rfl, _, _, rfl, rfl, .inr ⟨by decide, by decide⟩, _, _, rfl, rfl, _, rfl, a, _, rfl, .inl hs, _, _, rfl, rfl, _, _, rfl, rfl, (by show (0 : Int) < 2147483647; decide), ?_⟩
      refine ⟨_, rfl, _, rfl, _, _, rfl, rfl, .inl (emod_lt64 _), _, rfl, _, _, rfl, rfl, .inr ⟨by decide, by decide⟩, _, _, rfl, rfl, _, _, rfl, rfl, _, _, rfl, rfl, (by show (0 : Int) < 2147483647; decide), ?_⟩
      refine ⟨_, rfl, _, _, rfl, rfl, .inr ⟨by decide, by decide⟩, _, _, rfl, rfl, (by show (0 : Int) < 2147483647; decide), _, _, rfl, rfl, ⟨by decide, by decide⟩, _, rfl, _, _, rfl, rfl, hm, ?_⟩
      exact q _ (Int.emod_nonneg _ (by omega)) (Int.emod_lt_of_pos _ hm)
    · refine ⟨_, rfl, _, _, rfl, rfl, .inr ⟨by decide, by decide⟩, _, rfl, _, _, rfl, rfl, _, _, rfl, rfl, .inr ⟨by decide, by decide⟩, _, _, rfl, rfl, _, rfl, a, _, rfl, .inl hs, _, _, rfl, rfl, _, _, rfl, rfl, (by show (0 : Int) < 2147483647; decide), ?_⟩
      refine ⟨_, rfl, _, rfl, _, _, rfl, rfl, .inl (emod_lt64 _), _, rfl, _, _, rfl, rfl, .inr ⟨by decide, by decide⟩, _, _, rfl, rfl, _, _, rfl, rfl, _, _, rfl, rfl, (by show (0 : Int) < 2147483647; decide), ?_⟩
      refine ⟨_, rfl, _, _, rfl, rfl, .inr ⟨by decide, by decide⟩, _, _, rfl, rfl, (by show (0 : Int) < 2147483647; decide), _, _, rfl, rfl, ⟨by decide, by decide⟩, _, rfl, _, _, rfl, rfl, hm, ?_⟩
      exact q _ (Int.emod_nonneg _ (by omega)) (Int.emod_lt_of_pos _ hm)
end
end Z

set_option Elab.async false
set_option linter.all false
set_option maxRecDepth 100000
set_option maxHeartbeats 4000000
namespace Z
open PySem L2
section
variable {P : Program} {w : World} {K : PySem.W.Frag} {mg : Str → Option Value} {base : Heap} {C cY cB cD cL cT : Addr}
def spWhole : Sp := fun vs H Q _ => ∃ i : Int, vs = [.int i] ∧ Q (.bl true) H
theorem scWh : FnScope ["found"] ["found"] (defScope sWhole) := ⟨rfl, rfl, rfl, by decide +kernel, rfl, by decide +kernel, by decide +kernel⟩
theorem ok_wh {f : Addr} {fd : FuncData} (F : Fun K "_law_whole" "_law_whole" sWhole f fd) (T : Txt K mg C cY cB cD cL cT) : FnOk P w K mg base CX0 1 f fd ["found"] spWhole := by
  refine F.ok scWh (fun vs H Q E h => ?_) (fun cdv A outer s H vs Q E hr h => ?_)
  · obtain ⟨i, rfl, _⟩ := h
    rfl
  · obtain ⟨i, rfl, k⟩ := h
    refine ⟨_, pss_one (ps_ret (pe_and (pe_callB call_isi (by rfl) T.isi boot_isi (pa_cons (pv 0) (pa_cons (pe_bltn (v := .ty "int") (by rfl) T.int boot_int rfl) pa_nil)))
      (pe_one (pe_not (pe_callB call_isi (by rfl) T.isi boot_isi (pa_cons (pv 0) (pa_cons (pe_bltn (v := .ty "bool") (by rfl) T.bool boot_bool rfl) pa_nil))))))), ?_⟩
    refine ⟨_, rfl, _, _, _, _, rfl, .int i, (by nofun), T.ki, _, rfl, iteT ?_⟩
    exact ⟨_, rfl, _, _, _, _, rfl, .int i, (by nofun), T.kib, _, rfl, k⟩
def spRow : Sp := fun vs H Q _ => ∃ (p q : Addr) (ns : List Int), vs = [.ref p, .ref q] ∧ H p = some (.lst (iL ns)) ∧ H q = some (.lst (iL ns)) ∧ ns.length ≤ 100 ∧ Q (.bl true) H
theorem scRw : FnScope ["found", "due", "k"] ["found", "due"] (defScope sRow) := ⟨rfl, rfl, rfl, by decide +kernel, rfl, by decide +kernel, by decide +kernel⟩
theorem ok_rw {f fW : Addr} {fd fdW : FuncData} (F : Fun K "_law_row" "_law_row" sRow f fd) (T : Txt K mg C cY cB cD cL cT) (FW : Fun K "_law_whole" "_law_whole" sWhole fW fdW) (bW : Binds K fdW ["found"] []) (mW : mg "_law_whole" = some (.ref fW)) :
    FnOk P w K mg base CX0 2 f fd ["found", "due"] spRow := by
  have GW : FnOk P w K mg base CX0 1 fW fdW ["found"] spWhole := ok_wh FW T
  refine F.ok scRw (fun vs H Q E h => ?_) (fun cdv A outer s H vs Q E hr h => ?_)
  · obtain ⟨p, q, ns, rfl, _⟩ := h
    rfl
  · obtain ⟨p, q, ns, rfl, hp, hq, hl, k⟩ := h
    show let X9 := _; let E9 := _; ∃ t, PSs X9 (defBody sRow) t ∧ t E9 _ _
    intro X9 E9
    let x1_0 : SB9 X9 ((fB9 (defBody sRow) 1)) 0 := ⟨_, pss_one (ps_if (pw_or (pt_not (pt_val (pe_call GW hr (by rfl) mW FW.kp bW .nil pass0 (pa_cons (pe_ix ix_list (pv 0) (pv 2) (fun _ _ => rfl)) pa_nil))))
          (pw_or1 (pt_cmpR op_ne (pe_ix ix_list (pv 0) (pv 2) (fun _ _ => rfl)) (pe_ix ix_list (pv 1) (pv 2) (fun _ _ => rfl)) (nomark _)))).pt (pss_one (ps_ret pe_bl)) pss_nil)⟩
    let tx1_0 : TS := x1_0.1
    have px1_0 : PSs X9 (List.drop 0 ((fB9 (defBody sRow) 1))) tx1_0 := x1_0.2
    let x2_2 : SB9 X9 (defBody sRow) 2 := ⟨_, pss_one (ps_ret pe_bl)⟩
    let tx2_2 : TS := x2_2.1
    have px2_2 : PSs X9 (List.drop 2 (defBody sRow)) tx2_2 := x2_2.2
    let x2_1 : SB9 X9 (defBody sRow) 1 := ⟨_, pss_cons (ps_for PassesOwn.never rfl (pi_range1 (by rfl) T.range (pa_cons (pe_callB call_len_seq (by rfl) T.len PySem.boot_len (pa_cons (pv 1) pa_nil)) pa_nil)) (pg_name (i := 2) scRw.nd rfl (Or.inl rfl)) px1_0) px2_2⟩
    let tx2_1 : TS := x2_1.1
    have px2_1 : PSs X9 (List.drop 1 (defBody sRow)) tx2_1 := x2_1.2
    let x2_0 : SB9 X9 (defBody sRow) 0 := ⟨_, pss_cons (ps_if (pw_or (pt_not (pt_val (pe_callB call_isi (by rfl) T.isi boot_isi (pa_cons (pv 0) (pa_cons (pe_bltn (v := .ty "list") (by rfl) T.list boot_lst rfl) pa_nil)))))
        (pw_or1 (pt_cmpR op_ne (pe_callB call_len_seq (by rfl) T.len PySem.boot_len (pa_cons (pv 0) pa_nil)) (pe_callB call_len_seq (by rfl) T.len PySem.boot_len (pa_cons (pv 1) pa_nil)) (nomark _)))).pt (pss_one (ps_ret pe_bl)) pss_nil) px2_1⟩
    let tx2_0 : TS := x2_0.1
    have px2_0 : PSs X9 (List.drop 0 (defBody sRow)) tx2_0 := x2_0.2
    refine ⟨tx2_0, px2_0, ?_⟩
    refine ⟨_, rfl, _, _, _, _, rfl, .lst hp, (by nofun), T.kll, _, rfl, iteF ?_⟩
    refine ⟨_, rfl, p, _, rfl, .inl (SqL.of hp), _, rfl, q, _, rfl, .inl (SqL.of hq), rfl, _, rfl, iteNS rfl ?_⟩
    have el : ((iL ns).length : Int) = (ns.length : Int) := by rw [List.length_map]
    refine ⟨_, rfl, q, _, rfl, .inl (SqL.of hq), _, rfl, by omega, by rw [el]; omega, ?_⟩
    have en : ((iL ns).length : Int).toNat = ns.length := by rw [el]; omega
    rw [en]
    refine for_range (n := ns.length) (fun i σ H2 => H2 = H ∧ ∃ o, σ = [some (.ref p), some (.ref q), o]) ⟨rfl, none, rfl⟩ ?_ ?_
    · rintro i σ H2 hi ⟨rfl, o, rfl⟩
      have e0 : (0 : Int) + (i : Int) = (i : Int) := by omega
      have ev : (iL ns)[i]? = some (.int ns[i]) := by simp [hi]
      refine ⟨_, rfl, _, rfl, p, _, _, .int ns[i], rfl, rfl, SqL.of hp, (by rw [e0]; exact atI_nat ev), ns[i], rfl, _, rfl, iteF ?_⟩
      refine ⟨_, rfl, _, rfl, p, _, _, .int ns[i], rfl, rfl, SqL.of hp, (by rw [e0]; exact atI_nat ev), _, rfl, _, rfl, q, _, _, .int ns[i], rfl, rfl, SqL.of hq, (by rw [e0]; exact atI_nat ev), rfl, _, rfl, iteNS rfl ?_⟩
      exact ⟨rfl, _, rfl⟩
    · rintro σ H2 ⟨rfl, o, rfl⟩
      exact k
end
end Z

set_option Elab.async false
set_option linter.all false
set_option maxRecDepth 100000
set_option maxHeartbeats 8000000
namespace Z
open PySem L2
/-! ### a day, tank by tank -/
def gI (l : List Int) (i : Nat) : Int := l.getD i 0
theorem gI_at {l : List Int} {i : Nat} {v : Int} (h : l[i]? = some v) : gI l i = v := by
  unfold gI
  rw [List.getD_eq_getElem?_getD, h]
  rfl
def fallAt (rs ws ra wi : List Int) : Nat → Int
  | 0 => 0
  | i + 1 => gI ws i + gI ra i + fallAt rs ws ra wi i - min (gI wi i) (gI ws i + gI ra i + fallAt rs ws ra wi i) - min (gI rs i) (gI ws i + gI ra i + fallAt rs ws ra wi i - min (gI wi i) (gI ws i + gI ra i + fallAt rs ws ra wi i))
def thAt (rs ws ra wi : List Int) (i : Nat) : Int := gI ws i + gI ra i + fallAt rs ws ra wi i
def drAt (rs ws ra wi : List Int) (i : Nat) : Int := min (gI wi i) (thAt rs ws ra wi i)
def kpAt (rs ws ra wi : List Int) (i : Nat) : Int := min (gI rs i) (thAt rs ws ra wi i - drAt rs ws ra wi i)
def drL (rs ws ra wi : List Int) (n : Nat) : List Int := (List.range n).map (drAt rs ws ra wi)
def kpL (rs ws ra wi : List Int) (n : Nat) : List Int := (List.range n).map (kpAt rs ws ra wi)
theorem iL_snoc (l : List Int) (v : Int) : iL l ++ [V.int v] = iL (l ++ [v]) := by rw [iL, iL, List.map_append]; rfl
section
variable {P : Program} {w : World} {K : PySem.W.Frag} {mg : Str → Option Value} {base : Heap} {C cY cB cD cL cT : Addr}
theorem same_upd {H : Hp} {l : Addr} {o : HO} (h : H l = none) : Same H (upd H l o) := same_new h
theorem YardAt.same {H H' : Hp} {y sz lv : Addr} {rs ws : List Int} (Y : YardAt C H y sz lv rs ws) (e : Same H H') : YardAt C H' y sz lv rs ws := by
  obtain ⟨⟨dx, h⟩, h1, h2⟩ := Y
  exact ⟨⟨dx, e _ _ h⟩, e _ _ h1, e _ _ h2⟩
end
end Z

set_option Elab.async false
set_option linter.all false
set_option maxRecDepth 100000
set_option maxHeartbeats 8000000
namespace Z
open PySem L2
section
variable {P : Program} {w : World} {K : PySem.W.Frag} {mg : Str → Option Value} {base : Heap} {C cY cB cD cL cT : Addr}
def spYardBy (K : PySem.W.Frag) : Sp := fun vs H Q _ => ∃ (a : Addr) (ns : List Int) (b : Int), vs = [.ref a, .int b] ∧ SqL K H a (iL ns) ∧ ns.length ≤ 63 ∧ 0 ≤ b ∧ b ≤ 1000 ∧
  ∀ (t r u : Addr) (rs ws : List Int) (H' : Hp), H t = none → H r = none → H u = none → r ≠ u → H' t = some (.tup [.ref r, .ref u]) → H' r = some (.lst (iL rs)) → H' u = some (.lst (iL ws)) → Good rs ws → Same H H' → Q (.ref t) H'
theorem scYb : FnScope ["script", "base", "many", "top", "rooms", "waters"] ["script", "base"] (defScope sYardBy) := ⟨rfl, rfl, rfl, by decide +kernel, rfl, by decide +kernel, by decide +kernel⟩
theorem ndY1 : (["k", "script", "base", "top"] : List Str).Nodup := by decide +kernel
theorem ndY2 : (["k", "script", "base", "rooms"] : List Str).Nodup := by decide +kernel
theorem ok_yb {f fD : Addr} {fd fdD : FuncData} (F : Fun K "_law_yard_by" "_law_yard_by" sYardBy f fd) (T : Txt K mg C cY cB cD cL cT) (FD : Fun K "_law_drawn" "_law_drawn" sDrawn fD fdD) (bD : Binds K fdD ["script", "k", "many"] []) (mD : mg "_law_drawn" = some (.ref fD)) :
    FnOk P w K mg base CX0 2 f fd ["script", "base"] (spYardBy K) := by
  have GD : FnOk P w K mg base CX0 1 fD fdD ["script", "k", "many"] (spDrawn K) := ok_dr FD T
  refine F.ok scYb (fun vs H Q E h => ?_) (fun cdv A outer s H vs Q E hr h => ?_)
  · obtain ⟨a, ns, b, rfl, _⟩ := h
    rfl
  · obtain ⟨a, ns, b, rfl, hs, hl, hb0, hb1, k⟩ := h
    show let X9 := _; let E9 := _; ∃ t, PSs X9 (defBody sYardBy) t ∧ t E9 _ _
    intro X9 E9
    let x1_4 : SB9 X9 (defBody sYardBy) 4 := ⟨_, pss_one (ps_ret (pe_tup (pa_cons (pv 4) (pa_cons (pv 5) pa_nil))))⟩
    let tx1_4 : TS := x1_4.1
    have px1_4 : PSs X9 (List.drop 4 (defBody sYardBy)) tx1_4 := x1_4.2
    let x1_3 : SB9 X9 (defBody sYardBy) 3 := ⟨_, pss_cons (ps_setC (i := 5) scYb.nd rfl (Or.inl rfl) (N := ["k", "script", "base", "rooms"]) (cap := [none, some 0, some 1, some 4]) rfl (.of (by rfl)) (pi_range1 (by rfl) T.range (pa_cons (pv 2) pa_nil))
          (fun _ _ _ _ => pg_name (i := 0) ndY2 rfl (Or.inl rfl)) (fun _ _ _ _ => pts_nil)
          (fun _ _ _ _ => pe_call GD hr (by rfl) mD FD.kp bD .nil pass0 (pa_cons (pv 1) (pa_cons (pe_op op_add (pe_op op_add (pv 2) pe_int) (pv 0)) (pa_cons (pe_op op_add (pe_ix (show IxR _ (rIxL K) from ix_list) (pv 3) (pv 0) (fun _ _ => rfl)) pe_int) pa_nil))))) px1_4⟩
    let tx1_3 : TS := x1_3.1
    have px1_3 : PSs X9 (List.drop 3 (defBody sYardBy)) tx1_3 := x1_3.2
    let x1_2 : SB9 X9 (defBody sYardBy) 2 := ⟨_, pss_cons (ps_set (i := 4) scYb.nd rfl (Or.inr rfl) (pe_comp (N := ["k", "script", "base", "top"]) (cap := [none, some 0, some 1, some 3]) rfl (.of (by rfl)) (pi_range1 (by rfl) T.range (pa_cons (pv 2) pa_nil))
          (fun _ _ _ _ => pg_name (i := 0) ndY1 rfl (Or.inl rfl)) (fun _ _ _ _ => pts_nil)
          (fun _ _ _ _ => pe_call GD hr (by rfl) mD FD.kp bD .nil pass0 (pa_cons (pv 1) (pa_cons (pe_op op_add (pe_op op_add (pv 2) pe_int) (pv 0)) (pa_cons (pv 3) pa_nil)))))) px1_3⟩
    let tx1_2 : TS := x1_2.1
    have px1_2 : PSs X9 (List.drop 2 (defBody sYardBy)) tx1_2 := x1_2.2
    let x1_1 : SB9 X9 (defBody sYardBy) 1 := ⟨_, pss_cons (ps_set (i := 3) scYb.nd rfl (Or.inr rfl) (pe_ix ix_list (pe_lst (pa_cons pe_int (pa_cons pe_int (pa_cons pe_int pa_nil)))) (pe_call GD hr (by rfl) mD FD.kp bD .nil pass0 (pa_cons (pv 0) (pa_cons (pe_op op_add (pv 1) pe_int) (pa_cons pe_int pa_nil)))) (fun _ _ => rfl))) px1_2⟩
    let tx1_1 : TS := x1_1.1
    have px1_1 : PSs X9 (List.drop 1 (defBody sYardBy)) tx1_1 := x1_1.2
    let x1_0 : SB9 X9 (defBody sYardBy) 0 := ⟨_, pss_cons (ps_set (i := 2) scYb.nd rfl (Or.inl rfl) (pe_op op_add pe_int (pe_call GD hr (by rfl) mD FD.kp bD .nil pass0 (pa_cons (pv 0) (pa_cons (pv 1) (pa_cons pe_int pa_nil)))))) px1_1⟩
    let tx1_0 : TS := x1_0.1
    have px1_0 : PSs X9 (List.drop 0 (defBody sYardBy)) tx1_0 := x1_0.2
    refine ⟨tx1_0, px1_0, ?_⟩
    refine ⟨_, rfl, _, rfl, a, ns, _, _, rfl, hs, hl, hb0, by omega, by decide, fun m0 m1 m2 => ⟨_, _, rfl, rfl, ?_⟩⟩
    obtain ⟨n, en⟩ : ∃ n : Nat, (1 + m0).toNat = n := ⟨_, rfl⟩
    have hn1 : 1 ≤ n := by omega
    have hn4 : n ≤ 4 := by omega
    -- top
    refine ⟨(by show 3 ≤ sizeLine; decide), fun l hl0 => ?_⟩
    have s1 := same_upd (o := .lst [.int 4, .int 12, .int 51]) hl0
    refine ⟨_, rfl, _, rfl, _, _, rfl, rfl, a, ns, _, _, rfl, s1.seq hs, hl, by omega, by omega, by decide, fun c c0 c1 => ?_⟩
    obtain ⟨top, htop, t0, t1⟩ : ∃ top : Int, atI [V.int 4, .int 12, .int 51] c = some (.int top) ∧ 0 < top ∧ top ≤ 51 := by
      have hc : c = 0 ∨ c = 1 ∨ c = 2 := by omega
      rcases hc with rfl | rfl | rfl
      · exact ⟨4, rfl, by decide, by decide⟩
      · exact ⟨12, rfl, by decide, by decide⟩
      · exact ⟨51, rfl, by decide, by decide⟩
    refine ⟨l, _, _, _, rfl, rfl, SqL.of upd_same, htop, ?_⟩
    have hs1 := s1.seq hs
    generalize upd H l (.lst [.int 4, .int 12, .int 51]) = H1 at s1 hs1 ⊢
    -- rooms
    refine ⟨_, rfl, _, rfl, by omega, by omega, fun D hD => ?_⟩
    rw [en]
    refine comp_by n (sz100 (by omega)) (fun i ys τ H' => i ≤ n ∧ (∃ rs : List Int, ys = iL rs ∧ rs.length = i ∧ ∀ v ∈ rs, 0 ≤ v ∧ v ≤ 50) ∧ H' = upd H1 D (.lst ys) ∧ ∃ o, τ = [o, some (.ref a), some (.int b), some (.int top)]) ?_ ?_ ?_ ?_
    · exact ⟨Nat.zero_le _, ⟨[], rfl, rfl, by simp⟩, rfl, none, rfl⟩
    · rintro i ys τ H' ⟨hi, ⟨rs, rfl, hrl, _⟩, rfl, _⟩
      exact ⟨upd_same, by rw [List.length_map, hrl]; exact Nat.le_refl _⟩
    · rintro i ys τ H' hi ⟨_, ⟨rs, rfl, hrl, hnn⟩, rfl, o, rfl⟩
      refine ⟨hi, ?_⟩
      rintro x H3 ⟨rfl, rfl⟩
      refine name_yes_if ?_
      refine ⟨_, rfl, _, rfl, _, _, rfl, rfl, _, rfl, _, _, rfl, rfl, _, rfl, a, ns, _, _, rfl, (same_upd hD).seq hs1, hl, by omega, by omega, t0, fun r r0 r1 => ⟨upd_same, hi, ⟨rs ++ [r], ?_, ?_, ?_⟩, ?_, _, rfl⟩⟩
      · exact iL_snoc rs r
      · rw [List.length_append, hrl]
        rfl
      · intro v hv
        rcases List.mem_append.mp hv with z | z
        · exact hnn v z
        · rw [List.mem_singleton.mp z]
          omega
      · rw [upd_upd]
    rintro ys τ H' ⟨_, ⟨rs, rfl, hrl, hnn⟩, rfl, o, rfl⟩
    refine ⟨Nat.le_refl _, ?_⟩
    have s2 := same_upd (o := .lst (iL rs)) hD
    have hs2 := s2.seq hs1
    have hd2 : (upd H1 D (.lst (iL rs))) D = some (.lst (iL rs)) := upd_same
    have s12 := s1.trans s2
    generalize upd H1 D (.lst (iL rs)) = H2 at s2 hs2 hd2 s12 ⊢
    -- waters
    refine ⟨_, rfl, _, rfl, by omega, by omega, fun W hW => ?_⟩
    rw [en]
    refine comp_by n (sz100 (by omega)) (fun i ys τ H' => i ≤ n ∧ (∃ ws : List Int, ys = iL ws ∧ ws.length = i ∧ ∀ (j : Nat) (r v : Int), rs[j]? = some r → ws[j]? = some v → 0 ≤ v ∧ v ≤ r) ∧ H' = upd H2 W (.lst ys) ∧ ∃ o, τ = [o, some (.ref a), some (.int b), some (.ref D)]) ?_ ?_ ?_ ?_
    · exact ⟨Nat.zero_le _, ⟨[], rfl, rfl, fun j r v _ h => by simp at h⟩, rfl, none, rfl⟩
    · rintro i ys τ H' ⟨hi, ⟨ws, rfl, hwl, _⟩, rfl, _⟩
      exact ⟨upd_same, by rw [List.length_map, hwl]; exact Nat.le_refl _⟩
    · rintro i ys τ H' hi ⟨_, ⟨ws, rfl, hwl, hww⟩, rfl, o, rfl⟩
      have sw := same_upd (o := .lst (iL ws)) hW
      have hir : i < rs.length := by omega
      have ev : (iL rs)[i]? = some (.int rs[i]) := by simp [hir]
      have e0 : (0 : Int) + (i : Int) = (i : Int) := by omega
      have hge := hnn _ (List.getElem_mem hir)
      refine ⟨hi, ?_⟩
      rintro x H3 ⟨rfl, rfl⟩
      refine name_yes_if ?_
      refine ⟨_, rfl, _, rfl, _, _, rfl, rfl, _, rfl, _, _, rfl, rfl, _, rfl, _, rfl, D, _, _, .int rs[i], rfl, rfl, SqL.of (sw _ _ hd2), (by rw [e0]; exact atI_nat ev), _, _, rfl, rfl, a, ns, _, _, rfl, sw.seq hs2, hl, by omega, by omega, by omega, fun r r0 r1 => ⟨upd_same, hi, ⟨ws ++ [r], ?_, ?_, ?_⟩, ?_, _, rfl⟩⟩
      · exact iL_snoc ws r
      · rw [List.length_append, hwl]
        rfl
      · intro j r' v h1 h2
        by_cases hj : j < ws.length
        · rw [List.getElem?_append_left hj] at h2
          exact hww j r' v h1 h2
        · have hji : j = i := by
            have := (List.getElem?_eq_some_iff.mp h2).1
            rw [List.length_append] at this
            have : j < ws.length + 1 := this
            omega
          subst hji
          rw [List.getElem?_append_right (by omega), show j - ws.length = 0 by omega] at h2
          cases h2
          rw [List.getElem?_eq_getElem hir] at h1
          cases h1
          omega
      · rw [upd_upd]
    rintro ys τ H' ⟨_, ⟨ws, rfl, hwl, hww⟩, rfl, o, rfl⟩
    refine ⟨Nat.le_refl _, ?_⟩
    have s3 := same_upd (o := .lst (iL ws)) hW
    refine ⟨_, rfl, _, rfl, (by show 2 ≤ sizeLine; decide), fun t ht => ?_⟩
    have s4 := same_upd (o := .tup [.ref D, .ref W]) ht
    refine k t D W rs ws _ ((s12.trans s3).free ht) (s1.free hD) (s12.free hW) (ne_of_none hd2 hW) upd_same (s4 _ _ (s3 _ _ hd2)) (s4 _ _ upd_same) ⟨by omega, by omega, by omega, fun i r v e1 e2 => ?_⟩ (s12.trans (s3.trans s4))
    have h1 := hnn _ (List.mem_of_getElem? e1)
    have h2 := hww i r v e1 e2
    omega
end
end Z

set_option Elab.async false
set_option linter.all false
set_option maxRecDepth 100000
set_option maxHeartbeats 8000000
namespace Z
open PySem L2
def nT (i : Int) : Str := toString i
def rowT (w r : Int) : Str := nT w ++ (" of " : Str) ++ nT r
def rowsT (ws rs : List Int) : List Str := List.zipWith rowT ws rs
def textT (ws rs : List Int) : Str := Str.join ("\n" : Str) (rowsT ws rs)
theorem num_ok : ∀ n, n < 51 → 10 ∉ (nT (n : Nat)).cps.toList ∧ 32 ∉ (nT (n : Nat)).cps.toList ∧ (nT (n : Nat)).length ≤ 2 := by decide +kernel
theorem num_inj : ∀ n, n < 51 → ∀ m, m < 51 → nT (n : Nat) = nT (m : Nat) → n = m := by decide +kernel
theorem nl_is : ("\n" : Str) = ⟨#[10]⟩ := by decide +kernel
theorem of_is : (" of " : Str).cps.toList = [32, 111, 102, 32] := by decide +kernel
def Num (i : Int) : Prop := 0 ≤ i ∧ i ≤ 50
theorem Num.ok {i : Int} (h : Num i) : 10 ∉ (nT i).cps.toList ∧ 32 ∉ (nT i).cps.toList ∧ (nT i).length ≤ 2 := by
  obtain ⟨n, rfl⟩ : ∃ n : Nat, i = (n : Int) := ⟨i.toNat, by have := h.1; omega⟩
  exact num_ok n (by have := h.2; omega)
theorem Num.inj {i j : Int} (hi : Num i) (hj : Num j) (h : nT i = nT j) : i = j := by
  obtain ⟨n, rfl⟩ : ∃ n : Nat, i = (n : Int) := ⟨i.toNat, by have := hi.1; omega⟩
  obtain ⟨m, rfl⟩ : ∃ n : Nat, j = (n : Int) := ⟨j.toNat, by have := hj.1; omega⟩
  exact congrArg Int.ofNat (num_inj n (by have := hi.2; omega) m (by have := hj.2; omega) h)
theorem Num.log {i : Int} (h : Num i) : i.natAbs.log2 < 1920 := by
  have : i.natAbs < 2 ^ 1920 := Nat.lt_of_lt_of_le (show i.natAbs < 2 ^ 6 by have := h.1; have := h.2; omega) (Nat.pow_le_pow_right (by decide) (by decide))
  by_cases h0 : i.natAbs = 0
  · rw [h0]
    decide
  · exact (Nat.log2_lt h0).mpr this
theorem row_free {w r : Int} (hw : Num w) (hr : Num r) : 10 ∉ (rowT w r).cps.toList := by
  unfold rowT
  rw [Str.cps_append, Str.cps_append, Array.toList_append, Array.toList_append, of_is]
  intro h
  rcases List.mem_append.mp h with h | h
  · rcases List.mem_append.mp h with h | h
    · exact hw.ok.1 h
    · exact absurd h (by decide)
  · exact hr.ok.1 h
theorem row_len {w r : Int} (hw : Num w) (hr : Num r) : (rowT w r).length ≤ 8 := by
  unfold rowT
  rw [Str.length_append, Str.length_append]
  have h1 := hw.ok.2.2
  have h2 := hr.ok.2.2
  have h3 : (" of " : Str).length = 4 := by decide +kernel
  omega
/-- rows that tell numbers -/
def Nums (ws rs : List Int) : Prop := ws.length = rs.length ∧ rs.length ≤ 4 ∧ 0 < rs.length ∧ (∀ v ∈ ws, Num v) ∧ ∀ v ∈ rs, Num v
theorem rowsT_len {ws rs : List Int} (h : Nums ws rs) : (rowsT ws rs).length = rs.length := by
  unfold rowsT
  rw [List.length_zipWith, h.1, Nat.min_self]
theorem rowsT_at {ws rs : List Int} (h : Nums ws rs) {i : Nat} (hi : i < rs.length) : (rowsT ws rs)[i]? = some (rowT (gI ws i) (gI rs i)) := by
  have hi' : i < ws.length := by rw [h.1]; exact hi
  unfold rowsT
  rw [List.getElem?_zipWith, List.getElem?_eq_getElem hi, List.getElem?_eq_getElem hi', gI_at (List.getElem?_eq_getElem hi), gI_at (List.getElem?_eq_getElem hi')]
theorem Nums.at {ws rs : List Int} (h : Nums ws rs) {i : Nat} (hi : i < rs.length) : Num (gI ws i) ∧ Num (gI rs i) := by
  have hi' : i < ws.length := by rw [h.1]; exact hi
  rw [gI_at (List.getElem?_eq_getElem hi), gI_at (List.getElem?_eq_getElem hi')]
  exact ⟨h.2.2.2.1 _ (List.getElem_mem hi'), h.2.2.2.2 _ (List.getElem_mem hi)⟩
theorem rowsT_mem {ws rs : List Int} (h : Nums ws rs) {p : Str} (hp : p ∈ rowsT ws rs) : ∃ w r, Num w ∧ Num r ∧ p = rowT w r := by
  obtain ⟨i, hi, e⟩ := List.mem_iff_getElem.mp hp
  rw [rowsT_len h] at hi
  have e2 := rowsT_at h hi
  have e3 := List.getElem?_eq_getElem (l := rowsT ws rs) (i := i) (by rw [rowsT_len h]; exact hi)
  rw [e2, e] at e3
  exact ⟨_, _, (h.at hi).1, (h.at hi).2, (Option.some.inj e3).symm⟩
theorem text_split {ws rs : List Int} (h : Nums ws rs) : Txt.split (textT ws rs) ("\n" : Str) = rowsT ws rs := by
  unfold textT
  rw [nl_is]
  refine split_join (by decide) (fun z => ?_) fun p hp => ?_
  · have := rowsT_len h
    rw [z] at this
    have := h.2.2.1
    simp at *
    omega
  · obtain ⟨w, r, hw, hr, rfl⟩ := rowsT_mem h hp
    exact row_free hw hr
theorem sum_le8 : ∀ ps : List Str, (∀ p ∈ ps, p.length ≤ 8) → (ps.map (·.length)).sum ≤ 8 * ps.length
  | [], _ => Nat.le_refl _
  | p :: ps, h => by
    have := sum_le8 ps fun x hx => h x (List.mem_cons_of_mem _ hx)
    have := h p List.mem_cons_self
    rw [List.map_cons, List.sum_cons, List.length_cons]
    omega
theorem rows_short {ws rs : List Int} (h : Nums ws rs) : ∀ p ∈ rowsT ws rs, p.length ≤ 8 := fun p hp => by
  obtain ⟨w, r, hw, hr, rfl⟩ := rowsT_mem h hp
  exact row_len hw hr
theorem join_short {ws rs : List Int} (h : Nums ws rs) (i : Nat) : (Str.join ("\n" : Str) ((rowsT ws rs).take i)).length ≤ 40 := by
  have a := StrLaws.join_length_le ("\n" : Str) ((rowsT ws rs).take i)
  have b := sum_le8 ((rowsT ws rs).take i) fun p hp => rows_short h p (List.mem_of_mem_take hp)
  have c : ((rowsT ws rs).take i).length ≤ 4 := by
    rw [List.length_take, rowsT_len h]
    have := h.2.1
    omega
  have d : ("\n" : Str).length = 1 := by decide +kernel
  rw [d] at a
  omega
theorem text_short {ws rs : List Int} (h : Nums ws rs) : (textT ws rs).length ≤ 40 := by
  have := join_short h (rowsT ws rs).length
  rw [List.take_length] at this
  exact this
theorem join_ok {ws rs : List Int} (h : Nums ws rs) : JoinOk ("\n" : Str) (rowsT ws rs) = true := by
  have d : ("\n" : Str).length = 1 := by decide +kernel
  have key : ∀ (ps : List Str) (n : Nat), (∀ p ∈ ps, p.length ≤ 8) → ps.foldl (fun a p => a + p.length + ("\n" : Str).length) n ≤ n + 9 * ps.length := by
    intro ps
    induction ps with
    | nil => intro n _; exact Nat.le_refl _
    | cons p ps ih =>
      intro n hp
      have := ih (n + p.length + ("\n" : Str).length) fun x hx => hp x (List.mem_cons_of_mem _ hx)
      have := hp p List.mem_cons_self
      rw [List.foldl_cons, List.length_cons]
      rw [d] at *
      omega
  have k := key (rowsT ws rs) 0 (rows_short h)
  rw [rowsT_len h] at k
  have h4 := h.2.1
  have big : 100 ≤ sizeLine := by decide
  unfold JoinOk Builtin.Str.tooLong
  rw [Bool.not_eq_true', decide_eq_false_iff_not, List.foldl_toArray]
  omega
theorem yes_if {τ : St} {H : Hp} {A B : Hp → Prop} (h : A H) : tYes τ H (fun c H5 => if c = true then A H5 else B H5) := by
  show if true = true then A H else B H
  exact iteT h

/-! ### lines of any text -/
abbrev nl9 : Str := ("\n" : Str)
abbrev bl9 : Str := (" " : Str)
abbrev of9 : Str := ("of" : Str)
def LineIs (l : Str) (w r : Int) : Prop := Txt.split l bl9 = [nT w, of9, nT r]
def lines9 (z : Str) : List Str := Txt.split z nl9
def Writes (z : Str) (rs ws : List Int) : Prop := Good rs ws ∧ (lines9 z).map (fun l => Txt.split l bl9) = List.zipWith (fun w r => [nT w, of9, nT r]) ws rs
theorem sub_len9 (x : Str) (a b : Nat) : (Builtin.Str.strSub x a b).length ≤ x.length := by
  unfold Builtin.Str.strSub Str.length
  simp
  omega
theorem parts_len {x : Str} {k : Nat} : ∀ {cuts : List Nat} {a : Nat}, ∀ p ∈ StrLaws.partsFrom x k a cuts, p.length ≤ x.length
  | [], a, p, hp => by
    rw [List.mem_singleton.mp hp]
    exact sub_len9 _ _ _
  | d :: cuts, a, p, hp => by
    rcases List.mem_cons.mp hp with z | z
    · rw [z]
      exact sub_len9 _ _ _
    · exact parts_len p z
theorem split_len {x y : Str} : ∀ p ∈ Txt.split x y, p.length ≤ x.length := by
  intro p hp
  unfold Txt.split at hp
  split at hp
  · rw [List.mem_singleton.mp hp]
    exact Nat.le_refl _
  · split at hp
    · rw [List.mem_singleton.mp hp]
      exact Nat.le_refl _
    · rw [StrLaws.partsBetween_eq] at hp
      exact parts_len p hp
theorem split_many {x y : Str} : (Txt.split x y).length ≤ x.length + 2 := by
  unfold Txt.split
  split
  · show 1 ≤ _
    omega
  · split
    · show 1 ≤ _
      omega
    · have e1 := StrLaws.occ_length_le x y 0 x.length (x.length + 1)
      rw [length_partsBetween]
      omega
end Z

set_option Elab.async false
set_option linter.all false
set_option maxRecDepth 100000
set_option maxHeartbeats 8000000
namespace Z
open PySem L2
theorem V_str_inj {a b : Str} (h : V.str a = V.str b) : a = b := by injection h
section
variable {P : Program} {w : World} {K : PySem.W.Frag} {mg : Str → Option Value} {base : Heap} {C cY cB cD cL cT : Addr}
/-! ### read_number -/
def spNumX (cT : Addr) : Sp := fun vs H Q E => ∃ x : Str, vs = [.str x] ∧ (∀ i, Num i → x = nT i → ∀ H', Same H H' → Q (.int i) H') ∧ ((∀ i, Num i → x ≠ nT i) → ∀ H', Same H H' → E (.ref cT) none H')
theorem scRn : FnScope ["part", "number"] ["part"] (defScope sReadNumber) := ⟨rfl, rfl, rfl, by decide +kernel, rfl, by decide +kernel, by decide +kernel⟩
theorem ok_nu {f : Addr} {fd : FuncData} (F : Fun K "read_number" "read_number" sReadNumber f fd) (T : Txt K mg C cY cB cD cL cT) : FnOk P w K mg base (CXow P w) 1 f fd ["part"] (spNumX cT) := by
  obtain ⟨t50, h50⟩ := T.m50
  refine F.okXw scRn (fun vs H Q E h => ?_) (fun cdv A outer s H vs Q E hr h => ?_)
  · obtain ⟨x, rfl, _⟩ := h
    rfl
  · obtain ⟨x, rfl, kG, kB⟩ := h
    show let X9 := _; let E9 := _; ∃ t, PSs X9 (defBody sReadNumber) t ∧ t E9 _ _
    intro X9 E9
    let x1_0 : SB9 X9 ((fB9 (defBody sReadNumber) 0)) 0 := ⟨_, pss_one (ps_if (pt_cmpR op_eq (pv 0) (pe_callTy call_str_int (by rfl) T.str boot_str (pa_cons (pv 1) pa_nil)) (nomark _)) (pss_one (ps_ret (pv 1))) pss_nil)⟩
    let tx1_0 : TS := x1_0.1
    have px1_0 : PSs X9 (List.drop 0 ((fB9 (defBody sReadNumber) 0))) tx1_0 := x1_0.2
    let x2_1 : SB9 X9 (defBody sReadNumber) 1 := ⟨_, pss_one (ps_raise rfl T.exT leaves_cxw (by rfl) (pa_cons pe_str pa_nil))⟩
    let tx2_1 : TS := x2_1.1
    have px2_1 : PSs X9 (List.drop 1 (defBody sReadNumber)) tx2_1 := x2_1.2
    let x2_0 : SB9 X9 (defBody sReadNumber) 0 := ⟨_, pss_cons (ps_for PassesOwn.leaving rfl (pi_range1 (by rfl) T.range (pa_cons (pe_op op_add (pe_glob (v := .int 50) (by rfl) h50 ⟨_, rfl⟩) pe_int) pa_nil)) (pg_name (i := 1) scRn.nd rfl (Or.inl rfl)) px1_0) px2_1⟩
    let tx2_0 : TS := x2_0.1
    have px2_0 : PSs X9 (List.drop 0 (defBody sReadNumber)) tx2_0 := x2_0.2
    refine ⟨tx2_0, px2_0, ?_⟩
    refine ⟨_, _, rfl, rfl, _, rfl, by decide, by decide, ?_⟩
    refine for_range (n := 51) (fun j σ H' => j ≤ 51 ∧ (∀ i : Nat, i < j → x ≠ nT (i : Int)) ∧ Same H H' ∧ ∃ o, σ = [some (.str x), o]) ?_ ?_ ?_
    · exact ⟨Nat.zero_le _, fun i hi => absurd hi (Nat.not_lt_zero _), same_refl, none, rfl⟩
    · rintro j σ H' hj ⟨_, hno, s1, o, rfl⟩
      rw [Int.zero_add]
      have nj : Num (j : Int) := ⟨by omega, by omega⟩
      refine ⟨_, rfl, _, rfl, _, rfl, nj.log, rfl, _, rfl, ?_⟩
      refine ite2 (fun h1 => ?_) (fun h1 => ?_)
      · exact ⟨_, rfl, kG j nj (V_str_inj (of_decide_eq_true h1)) H' s1⟩
      · refine ⟨hj, fun i hi => ?_, s1, _, rfl⟩
        by_cases e : i = j
        · subst e
          exact fun z => h1 (decide_eq_true (by rw [z]; rfl))
        · exact hno i (by omega)
    · rintro σ H' ⟨_, hno, s1, o, rfl⟩
      refine ⟨(by show 1 ≤ sizeLine; decide), kB (fun i hi => ?_) H' s1⟩
      have := hno i.toNat (by have := hi.1; have := hi.2; omega)
      rwa [Int.toNat_of_nonneg hi.1] at this
/-! ### read_tank -/
def spTankX (cT : Addr) : Sp := fun vs H Q E => ∃ x : Str, vs = [.str x] ∧ x.length ≤ 1000 ∧ (∀ w r, Num w → Num r → LineIs x w r → ∀ (t : Addr) (H' : Hp), H' t = some (.tup [.int w, .int r]) → Same H H' → Q (.ref t) H') ∧ ((∀ w r, Num w → Num r → ¬ LineIs x w r) → ∀ H', Same H H' → E (.ref cT) none H')
theorem scRt : FnScope ["row", "parts"] ["row"] (defScope sReadTank) := ⟨rfl, rfl, rfl, by decide +kernel, rfl, by decide +kernel, by decide +kernel⟩
theorem ok_tk {f fN : Addr} {fd fdN : FuncData} (F : Fun K "read_tank" "read_tank" sReadTank f fd) (T : Txt K mg C cY cB cD cL cT) (FN : Fun K "read_number" "read_number" sReadNumber fN fdN) (bN : Binds K fdN ["part"] []) (mN : mg "read_number" = some (.ref fN)) :
    FnOk P w K mg base (CXow P w) 2 f fd ["row"] (spTankX cT) := by
  have GN : FnOk P w K mg base (CXow P w) 1 fN fdN ["part"] (spNumX cT) := ok_nu FN T
  refine F.okXw scRt (fun vs H Q E h => ?_) (fun cdv A outer s H vs Q E hr h => ?_)
  · obtain ⟨x, rfl, _⟩ := h
    rfl
  · obtain ⟨x, rfl, hx, kG, kB⟩ := h
    show let X9 := _; let E9 := _; ∃ t, PSs X9 (defBody sReadTank) t ∧ t E9 _ _
    intro X9 E9
    let x1_2 : SB9 X9 (defBody sReadTank) 2 := ⟨_, pss_one (ps_ret (pe_tup (pa_cons (pe_callX GN hr (by rfl) mN FN.kp bN .nil passes_cxw (pa_cons (pe_ix ix_list (pv 1) pe_int (fun _ _ => rfl)) pa_nil)) (pa_cons (pe_callX GN hr (by rfl) mN FN.kp bN .nil passes_cxw (pa_cons (pe_ix ix_list (pv 1) pe_int (fun _ _ => rfl)) pa_nil)) pa_nil))))⟩
    let tx1_2 : TS := x1_2.1
    have px1_2 : PSs X9 (List.drop 2 (defBody sReadTank)) tx1_2 := x1_2.2
    let x1_1 : SB9 X9 (defBody sReadTank) 1 := ⟨_, pss_cons (ps_if (pw_or (pt_cmpR op_ne (pe_callB call_len_seq (by rfl) T.len PySem.boot_len (pa_cons (pv 1) pa_nil)) pe_int (nomark _))
        (pw_or1 (pt_cmpR op_ne (pe_ix ix_list (pv 1) pe_int (fun _ _ => rfl)) pe_str (nomark _)))).pt (pss_one (ps_raise rfl T.exT leaves_cxw (by rfl) (pa_cons pe_str pa_nil))) pss_nil) px1_2⟩
    let tx1_1 : TS := x1_1.1
    have px1_1 : PSs X9 (List.drop 1 (defBody sReadTank)) tx1_1 := x1_1.2
    let x1_0 : SB9 X9 (defBody sReadTank) 0 := ⟨_, pss_cons (ps_set (i := 1) scRt.nd rfl (Or.inl rfl) (pe_bm PySem.F.plainAttrs_str PySem.F.slot_str_split PySem.F.type_str_split mt_split (pv 0) (pa_cons pe_str pa_nil))) px1_1⟩
    let tx1_0 : TS := x1_0.1
    have px1_0 : PSs X9 (List.drop 0 (defBody sReadTank)) tx1_0 := x1_0.2
    refine ⟨tx1_0, px1_0, ?_⟩
    have big : 2000 ≤ sizeLine := by decide
    have sv1 : 1 ≤ sizeLine := by decide
    have many := split_many (x := x) (y := bl9)
    refine ⟨_, rfl, rfl, _, _, rfl, rfl, by decide +kernel, by omega, Nat.le_trans many (by omega), fun p hp => ?_⟩
    have s1 := same_upd (o := .lst ((Txt.split x bl9).map V.str)) hp
    have hp1 : (upd H p (.lst ((Txt.split x bl9).map V.str))) p = some (.lst ((Txt.split x bl9).map V.str)) := upd_same
    generalize upd H p (.lst ((Txt.split x bl9).map V.str)) = H1 at s1 hp1 ⊢
    obtain ⟨ps, eps⟩ : ∃ ps, Txt.split x bl9 = ps := ⟨_, rfl⟩
    have bad : (∀ w r, ps ≠ [nT w, of9, nT r]) → ∀ H', Same H H' → E (.ref cT) none H' := fun z H' s' => kB (fun w r _ _ q => z w r (by unfold LineIs at q; rw [← eps]; exact q)) H' s'
    rw [eps] at hp1
    refine ⟨_, rfl, p, _, rfl, .inl (SqL.of hp1), rfl, _, rfl, ?_⟩
    refine ite2 (fun h1 => iteT ⟨sv1, bad (fun w r z => ?_) H1 s1⟩) (fun h1 => ?_)
    · rw [z] at h1
      have h1 : (!decide (V.int ((3 : Nat) : Int) = V.int 3)) = true := h1
      exact absurd h1 (by decide)
    have h3 : ps.length = 3 := by
      have h1 : ¬ (!decide (V.int (((ps.map V.str).length : Nat) : Int) = V.int 3)) = true := h1
      rw [List.length_map] at h1
      by_cases z : ps.length = 3
      · exact z
      · refine absurd ?_ h1
        rw [Bool.not_eq_true', decide_eq_false_iff_not]
        intro q
        injection q with q
        omega
    obtain ⟨a, b, c, rfl⟩ : ∃ a b c, ps = [a, b, c] := by
      match ps, h3 with
      | [a, b, c], _ => exact ⟨a, b, c, rfl⟩
    have hp2 : H1 p = some (.lst [.str a, .str b, .str c]) := hp1
    refine ⟨_, rfl, p, _, _, _, rfl, rfl, SqL.of hp2, atI_nat (j := 1) rfl, rfl, _, rfl, ?_⟩
    refine ite2 (fun h4 => ⟨sv1, bad (fun w r z => ?_) H1 s1⟩) (fun h4 => ?_)
    · injection z with z1 z2
      injection z2 with z2 z3
      rw [z2] at h4
      have h4 : (!decide (V.str of9 = V.str of9)) = true := h4
      rw [decide_eq_true rfl] at h4
      cases h4
    have eb : b = of9 := by
      by_cases z : b = of9
      · exact z
      · refine absurd ?_ h4
        show (!decide (V.str b = V.str of9)) = true
        rw [Bool.not_eq_true', decide_eq_false_iff_not]
        exact fun q => z (V_str_inj q)
    subst eb
    refine ⟨_, rfl, p, _, _, _, rfl, rfl, SqL.of hp2, atI_nat (j := 0) rfl, a, rfl, fun i hi ei H2 s2 => ?_, fun hno H2 s2 => kB (fun w r hw hr' z => ?_) H2 (s1.trans s2)⟩
    · refine ⟨_, rfl, p, _, _, _, rfl, rfl, SqL.of (s2 _ _ hp2), atI_nat (j := 2) rfl, c, rfl, fun k hk ek H3 s3 => ?_, fun hno H3 s3 => kB (fun w r hw hr' z => ?_) H3 (s1.trans (s2.trans s3))⟩
      · refine ⟨(by show 2 ≤ sizeLine; decide), fun t ht => ?_⟩
        have s13 := s1.trans (s2.trans s3)
        exact kG i k hi hk (by unfold LineIs; rw [eps, ei, ek]) t _ upd_same (s13.trans (same_upd ht))
      · unfold LineIs at z
        rw [eps] at z
        injection z with z1 z2
        injection z2 with z2 z3
        injection z3 with z3 z4
        exact hno r hr' z3
    · unfold LineIs at z
      rw [eps] at z
      injection z with z1 z2
      exact hno w hw z1
end
end Z

set_option Elab.async false
set_option linter.all false
set_option maxRecDepth 100000
set_option maxHeartbeats 8000000
namespace Z
open PySem L2
theorem made_same {H H' : Hp} {x dx C' : Addr} {u : Hp} (nx : H x = none) (ndx : H dx = none) (hu : u = upd (upd H dx (.own x)) x (.ins C' dx [])) (kp : ∀ b o, u b = some o → b ≠ x → H' b = some o) : Same H H' := fun b o z => by
  subst hu
  refine kp b o ?_ (ne_of_none z nx)
  rw [upd_ne (ne_of_none z nx), upd_ne (ne_of_none z ndx)]
  exact z
theorem gI_snoc {l : List Int} {v : Int} {j : Nat} (h : j < l.length) : gI (l ++ [v]) j = gI l j := by
  unfold gI
  rw [List.getD_eq_getElem?_getD, List.getD_eq_getElem?_getD, List.getElem?_append_left h]
theorem gI_last {l : List Int} {v : Int} : gI (l ++ [v]) l.length = v := by
  unfold gI
  rw [List.getD_eq_getElem?_getD, List.getElem?_append_right (Nat.le_refl _), Nat.sub_self]
  rfl
theorem zip_inj : ∀ {ws rs ws' rs' : List Int}, ws.length = rs.length → ws'.length = rs'.length → (∀ v ∈ ws, Num v) → (∀ v ∈ rs, Num v) → (∀ v ∈ ws', Num v) → (∀ v ∈ rs', Num v) → List.zipWith (fun w r => [nT w, of9, nT r]) ws rs = List.zipWith (fun w r => [nT w, of9, nT r]) ws' rs' → rs = rs' ∧ ws = ws'
  | [], [], [], [], _, _, _, _, _, _, _ => ⟨rfl, rfl⟩
  | w :: ws, r :: rs, w' :: ws', r' :: rs', h1, h2, a, b, c, d, e => by
    rw [List.zipWith_cons_cons, List.zipWith_cons_cons] at e
    injection e with e1 e2
    injection e1 with e3 e4
    injection e4 with _ e5
    injection e5 with e6 _
    obtain ⟨q1, q2⟩ := zip_inj (by simpa using h1) (by simpa using h2) (fun v hv => a v (List.mem_cons_of_mem _ hv)) (fun v hv => b v (List.mem_cons_of_mem _ hv)) (fun v hv => c v (List.mem_cons_of_mem _ hv)) (fun v hv => d v (List.mem_cons_of_mem _ hv)) e2
    rw [(a w List.mem_cons_self).inj (c w' List.mem_cons_self) e3, (b r List.mem_cons_self).inj (d r' List.mem_cons_self) e6, q1, q2]
    exact ⟨rfl, rfl⟩
  | [], [], _ :: _, _ :: _, _, _, _, _, _, _, e => by simp at e
  | _ :: _, _ :: _, [], [], _, _, _, _, _, _, e => by simp at e
  | [], _ :: _, _, _, h, _, _, _, _, _, _ => by simp at h
  | _ :: _, [], _, _, h, _, _, _, _, _, _ => by simp at h
  | _, _, [], _ :: _, _, h, _, _, _, _, _ => by simp at h
  | _, _, _ :: _, [], _, h, _, _, _, _, _ => by simp at h
theorem good_nums {rs ws : List Int} (g : Good rs ws) : (∀ v ∈ ws, Num v) ∧ ∀ v ∈ rs, Num v := by
  have e := g.eq
  refine ⟨fun v hv => ?_, fun v hv => ?_⟩
  · obtain ⟨j, hj, rfl⟩ := List.getElem_of_mem hv
    have := g.all j _ _ (List.getElem?_eq_getElem (by omega)) (List.getElem?_eq_getElem hj)
    exact ⟨by omega, by omega⟩
  · obtain ⟨j, hj, rfl⟩ := List.getElem_of_mem hv
    have := g.all j _ _ (List.getElem?_eq_getElem hj) (List.getElem?_eq_getElem (by omega))
    exact ⟨by omega, by omega⟩
theorem Writes.nums {z : Str} {rs ws : List Int} (W : Writes z rs ws) : (∀ v ∈ ws, Num v) ∧ ∀ v ∈ rs, Num v := good_nums W.1
theorem Writes.line {z : Str} {rs ws : List Int} (W : Writes z rs ws) {i : Nat} {l : Str} (h : (lines9 z)[i]? = some l) : ∃ w r, (w ∈ ws ∧ r ∈ rs) ∧ (ws[i]? = some w ∧ rs[i]? = some r) ∧ LineIs l w r := by
  have e : ((lines9 z).map (fun l => Txt.split l bl9))[i]? = some (Txt.split l bl9) := by rw [List.getElem?_map, h]; rfl
  rw [W.2, List.getElem?_zipWith] at e
  cases e1 : ws[i]? with
  | none => rw [e1] at e; cases e
  | some w =>
    cases e2 : rs[i]? with
    | none => rw [e1, e2] at e; cases e
    | some r =>
      rw [e1, e2] at e
      exact ⟨w, r, ⟨List.mem_of_getElem? e1, List.mem_of_getElem? e2⟩, ⟨rfl, rfl⟩, (Option.some.inj e).symm⟩
theorem Writes.count {z : Str} {rs ws : List Int} (W : Writes z rs ws) : (lines9 z).length = rs.length := by
  have := congrArg List.length W.2
  have e := W.1.eq
  rw [List.length_map, List.length_zipWith] at this
  omega
section
variable {P : Program} {w : World} {K : PySem.W.Frag} {mg : Str → Option Value} {base : Heap} {C cY cB cD cL cT : Addr}
def spReadX (C cT : Addr) : Sp := fun vs H Q E => ∃ z : Str, vs = [.str z] ∧ z.length ≤ 90 ∧ (∀ rs ws, Writes z rs ws → ∀ (y sz lv : Addr) (H' : Hp), YardAt C H' y sz lv rs ws → Same H H' → Q (.ref y) H') ∧ ((¬ ∃ rs ws, Writes z rs ws) → ∀ H', Same H H' → E (.ref cT) none H')
theorem scRd : FnScope ["text", "tanks", "e"] ["text"] (defScope sRead) := ⟨rfl, rfl, rfl, by decide +kernel, rfl, by decide +kernel, by decide +kernel⟩
theorem ndRo : (["row"] : List Str).Nodup := by decide +kernel
theorem ndWn : (["water", "room"] : List Str).Nodup := by decide +kernel
theorem ok_rd {f fT fI : Addr} {fd fdT fdI : FuncData} (F : Fun K "read" "read" sRead f fd) (T : Txt K mg C cY cB cD cL cT) (FT : Fun K "read_tank" "read_tank" sReadTank fT fdT) (bT : Binds K fdT ["row"] []) (mT : mg "read_tank" = some (.ref fT)) (GT : FnOk P w K mg base (CXow P w) 2 fT fdT ["row"] (spTankX cT))
    (M : Mk K C fI) (GI : FnOk P w K mg base (CXo P w) 4 fI fdI ["self", "rooms", "waters"] (spInit C cB)) (bI : Binds K fdI ["self", "rooms", "waters"] []) :
    FnOk P w K mg base (CXow P w) 6 f fd ["text"] (spReadX C cT) := by
  refine F.okXw scRd (fun vs H Q E h => ?_) (fun cdv A outer s H vs Q E hr h => ?_)
  · obtain ⟨z, rfl, _⟩ := h
    rfl
  · obtain ⟨z, rfl, hz, kG, kB⟩ := h
    have hr2 := hr.mono (show 2 ≤ 5 by decide)
    show let X9 := _; let E9 := _; ∃ t, PSs X9 (defBody sRead) t ∧ t E9 _ _
    intro X9 E9
    let x1_2 : SB9 X9 (defBody sRead) 2 := ⟨_, pss_one (ps_tryR (R := fun cls H => E cls none H) (i := 2) rfl rfl rfl rfl scRd.nd rfl rfl (by rfl) T.exB.mg (by rfl) T.exT leaveP_cx fun _ _ => pss_one (ps_ret (pe_makeX M GI hr (by rfl) T.mgC bI .nil passes_tried
        (pa_cons (pe_comp (N := ["water", "room"]) (cap := [none, none]) rfl (.of (by rfl)) (show PI _ _ _ (iList K (tVar 1)) from pi_list (pv 1)) (fun _ _ _ _ => show PG _ _ (gTup K 2 (gCons (gName 0) (gCons (gName 1) gNil))) from pg_tup rfl (pgs_cons (pg_name (i := 0) ndWn rfl (Or.inl rfl)) (pgs_cons (pg_name (i := 1) ndWn rfl (Or.inl rfl)) pgs_nil))) (fun _ _ _ _ => pts_nil) (fun _ _ _ _ => pv 1))
        (pa_cons (pe_comp (N := ["water", "room"]) (cap := [none, none]) rfl (.of (by rfl)) (show PI _ _ _ (iList K (tVar 1)) from pi_list (pv 1)) (fun _ _ _ _ => show PG _ _ (gTup K 2 (gCons (gName 0) (gCons (gName 1) gNil))) from pg_tup rfl (pgs_cons (pg_name (i := 0) ndWn rfl (Or.inl rfl)) (pgs_cons (pg_name (i := 1) ndWn rfl (Or.inl rfl)) pgs_nil))) (fun _ _ _ _ => pts_nil) (fun _ _ _ _ => pv 0)) pa_nil)))))⟩
    let tx1_2 : TS := x1_2.1
    have px1_2 : PSs X9 (List.drop 2 (defBody sRead)) tx1_2 := x1_2.2
    let x1_1 : SB9 X9 (defBody sRead) 1 := ⟨_, pss_cons (ps_setCX (R := fun cls H => E cls none H) (i := 1) scRd.nd rfl (Or.inl rfl) (N := ["row"]) (cap := [none]) rfl rfl rfl leaveAny_cx (.of (by rfl)) (pi_list (pe_bm PySem.F.plainAttrs_str PySem.F.slot_str_split PySem.F.type_str_split mt_split (pv 0) (pa_cons pe_str pa_nil))) (fun _ _ _ _ => pg_name (i := 0) ndRo rfl (Or.inl rfl)) (fun _ _ _ _ => pts_nil)
        (fun _ _ _ _ => pe_callX GT hr2 (by rfl) mT FT.kp bT .nil passes_block (pa_cons (pv 0) pa_nil))) px1_2⟩
    let tx1_1 : TS := x1_1.1
    have px1_1 : PSs X9 (List.drop 1 (defBody sRead)) tx1_1 := x1_1.2
    let x1_0 : SB9 X9 (defBody sRead) 0 := ⟨_, pss_cons (ps_if (pt_not (pt_val (pe_callB call_isi (by rfl) T.isi boot_isi (pa_cons (pv 0) (pa_cons (pe_bltn (v := .ty "str") (by rfl) T.str boot_str rfl) pa_nil))))) (pss_one (ps_raise rfl T.exT leaves_cxw (by rfl) (pa_cons pe_str pa_nil))) pss_nil) px1_1⟩
    let tx1_0 : TS := x1_0.1
    have px1_0 : PSs X9 (List.drop 0 (defBody sRead)) tx1_0 := x1_0.2
    refine ⟨tx1_0, px1_0, ?_⟩
    have big : 2000 ≤ sizeLine := by decide
    have many := split_many (x := z) (y := nl9)
    refine ⟨_, rfl, _, _, _, _, rfl, .str _, (by nofun), T.kss, _, rfl, iteF ?_⟩
    -- tanks
    refine ⟨_, rfl, rfl, _, _, rfl, rfl, by decide +kernel, by omega, Nat.le_trans many (by omega), fun p hp => ?_⟩
    generalize hH1 : upd H p (.lst (List.map V.str (Txt.split z (Str.ofString "\n")))) = H1
    have s1 : Same H H1 := by
      rw [← hH1]
      exact same_upd hp
    have hp1 : H1 p = some (.lst ((lines9 z).map V.str)) := by
      rw [← hH1]
      exact upd_same
    clear hH1
    have lm : (lines9 z).length ≤ 92 := Nat.le_trans many (by omega)
    have l0 : 0 < (lines9 z).length := List.length_pos_iff.mpr split_ne
    refine ⟨p, rfl, ⟨_, SqL.of hp1⟩, fun D hD => ?_⟩
    refine comp_by (lines9 z).length (sz100 (by omega)) (fun i ys τ H' => i ≤ (lines9 z).length ∧ Same H1 H' ∧ H' D = some (.lst ys) ∧ (∃ (ts : List Addr) (ws rs : List Int), ys = ts.map V.ref ∧ (ts.length = i ∧ ws.length = i ∧ rs.length = i) ∧ (∀ (j : Nat) (t : Addr), ts[j]? = some t → H' t = some (.tup [.int (gI ws j), .int (gI rs j)])) ∧ (∀ v ∈ ws, Num v) ∧ (∀ v ∈ rs, Num v) ∧
      ((lines9 z).take i).map (fun l => Txt.split l bl9) = List.zipWith (fun w r => [nT w, of9, nT r]) ws rs) ∧ ∃ o, τ = [o]) ?_ ?_ ?_ ?_
    · exact ⟨Nat.zero_le _, same_new hD, upd_same, ⟨[], [], [], rfl, ⟨rfl, rfl, rfl⟩, fun j t h => by simp at h, fun v hv => (nomatch hv), fun v hv => (nomatch hv), rfl⟩, none, rfl⟩
    · rintro i ys τ H' ⟨_, _, hD', ⟨ts, ws, rs, rfl, hts, _⟩, _⟩
      exact ⟨hD', by rw [List.length_map, hts.1]; exact Nat.le_refl _⟩
    · rintro i ys τ H' hi ⟨_, s2, hD', ⟨ts, ws, rs, rfl, ⟨hts, hwl, hrl⟩, hat, nw, nr, eqs⟩, o, rfl⟩
      obtain ⟨l, hl9⟩ : ∃ l, (lines9 z)[i]? = some l := ⟨_, List.getElem?_eq_getElem hi⟩
      have hv : ((lines9 z).map V.str)[i]? = some (.str l) := by rw [List.getElem?_map, hl9]; rfl
      refine ⟨⟨_, _, SqL.of (s2 _ _ hp1), hv⟩, ?_⟩
      rintro x H3 ⟨rfl, hx⟩
      have ex := Option.some.inj ((hx _ (SqL.of (s2 _ _ hp1))).symm.trans hv)
      subst ex
      have ll : l.length ≤ 1000 := Nat.le_trans (split_len l (List.mem_of_getElem? hl9)) (by omega)
      refine name_yes_if ?_
      refine ⟨_, rfl, l, rfl, ll, fun w9 r9 hw9 hr9 li t H4 ht s4 => ?_, fun hno H4 s4 => kB (fun ⟨rs', ws', W⟩ => ?_) H4 (s1.trans (s2.trans s4))⟩
      · have hD4 := s4 _ _ hD'
        have ntD : t ≠ D := ne_of ht hD4 (by nofun)
        refine ⟨hD4, hi, fun b o z => ?_, upd_same, ⟨ts ++ [t], ws ++ [w9], rs ++ [r9], by rw [List.map_append]; rfl, ⟨by rw [List.length_append, hts]; rfl, by rw [List.length_append, hwl]; rfl, by rw [List.length_append, hrl]; rfl⟩, fun j t' e => ?_, fun v hv => ?_, fun v hv => ?_, ?_⟩, _, rfl⟩
        · rw [upd_ne (ne_of_none z hD)]
          exact s4 _ _ (s2 _ _ z)
        · by_cases hj : j < ts.length
          · rw [List.getElem?_append_left hj] at e
            have h := hat j t' e
            rw [upd_ne (ne_of h hD' (by nofun)), gI_snoc (by omega), gI_snoc (by omega)]
            exact s4 _ _ h
          · have hje : j = ts.length := by
              have := (List.getElem?_eq_some_iff.mp e).1
              rw [List.length_append] at this
              have : j < ts.length + 1 := this
              omega
            subst hje
            rw [List.getElem?_append_right (Nat.le_refl _), Nat.sub_self] at e
            cases e
            rw [upd_ne ntD, show ts.length = ws.length by omega, gI_last, show ws.length = rs.length by omega, gI_last]
            exact ht
        · rcases List.mem_append.mp hv with z | z
          · exact nw v z
          · rw [List.mem_singleton.mp z]
            exact hw9
        · rcases List.mem_append.mp hv with z | z
          · exact nr v z
          · rw [List.mem_singleton.mp z]
            exact hr9
        · rw [take_snoc hl9, List.map_append, eqs, List.zipWith_append (by omega)]
          show _ ++ [Txt.split l bl9] = _ ++ [[nT w9, of9, nT r9]]
          rw [show Txt.split l bl9 = [nT w9, of9, nT r9] from li]
      · obtain ⟨w', r', ⟨m1, m2⟩, _, li⟩ := W.line hl9
        exact hno w' r' (W.nums.1 w' m1) (W.nums.2 r' m2) li
    rintro ys τ H' ⟨_, s2, hD', ⟨tks, ws, rs, rfl, ⟨hts0, hwl, hrl⟩, hat, nw, nr, eall⟩, o, rfl⟩
    rw [List.take_length] at eall
    refine ⟨⟨_, SqL.of (s2 _ _ hp1), by rw [List.length_map]; exact Nat.le_refl _⟩, ?_⟩
    have hts : tks.length = rs.length := by omega
    have hl : ws.length = rs.length := by omega
    have h4 : rs.length ≤ 92 := by omega
    -- Yard(rooms, waters)
    have s12 := s1.trans s2
    clear hD
    refine ⟨_, rfl, D, rfl, ⟨_, SqL.of hD'⟩, fun D1 hD1 => ?_⟩
    refine comp_by rs.length (sz100 (by omega)) (fun i ys τ He => i ≤ rs.length ∧ ys = iL (rs.take i) ∧ He = upd H' D1 (.lst ys) ∧ ∃ o1 o2, τ = [o1, o2]) ?_ ?_ ?_ ?_
    · exact ⟨Nat.zero_le _, rfl, rfl, none, none, rfl⟩
    · rintro i ys τ He ⟨hi, rfl, rfl, _⟩
      exact ⟨upd_same, by rw [List.length_map, List.length_take]; exact Nat.min_le_left _ _⟩
    · rintro i ys τ He hi ⟨_, rfl, rfl, o1, o2, rfl⟩
      have sE := same_new (o := .lst (iL (rs.take i))) hD1
      have hit : i < tks.length := by omega
      have hv : (tks.map V.ref)[i]? = some (.ref tks[i]) := by rw [List.getElem?_map, List.getElem?_eq_getElem hit]; rfl
      have htk := hat i _ (List.getElem?_eq_getElem hit)
      refine ⟨⟨_, _, SqL.of (sE _ _ hD'), hv⟩, ?_⟩
      rintro x H3 ⟨rfl, hx⟩
      have ex := Option.some.inj ((hx _ (SqL.of (sE _ _ hD'))).symm.trans hv)
      subst ex
      refine ⟨_, _, rfl, SqT.of (sE _ _ htk), rfl, _, _, rfl, _, _, rfl, rfl, yes_if ?_⟩
      refine ⟨_, rfl, upd_same, hi, ?_, ?_, _, _, rfl⟩
      · have e := List.getElem?_eq_getElem (l := rs) hi
        rw [take_snoc e, ← gI_at e, iL_snoc]
      · rw [upd_upd]
    rintro ys τ He ⟨_, rfl, rfl, o1, o2, rfl⟩
    rw [List.take_length]
    have sE := same_new (o := .lst (iL rs)) hD1
    refine ⟨⟨_, SqL.of (sE _ _ hD'), by rw [List.length_map, hts]; exact Nat.le_refl _⟩, ?_⟩
    have hD1' : (upd H' D1 (.lst (iL rs))) D1 = some (.lst (iL rs)) := upd_same
    have s1E := s12.trans sE
    have hDE := sE _ _ hD'
    have hatE : ∀ (j : Nat) (t : Addr), tks[j]? = some t → (upd H' D1 (.lst (iL rs))) t = some (.tup [.int (gI ws j), .int (gI rs j)]) := fun j t e => sE _ _ (hat j t e)
    clear hD1
    generalize upd H' D1 (.lst (iL rs)) = HE at sE hD1' s1E hDE hatE ⊢
    refine ⟨_, rfl, D, rfl, ⟨_, SqL.of hDE⟩, fun D2 hD2 => ?_⟩
    refine comp_by rs.length (sz100 (by omega)) (fun i ys τ He => i ≤ rs.length ∧ ys = iL (ws.take i) ∧ He = upd HE D2 (.lst ys) ∧ ∃ o1 o2, τ = [o1, o2]) ?_ ?_ ?_ ?_
    · exact ⟨Nat.zero_le _, rfl, rfl, none, none, rfl⟩
    · rintro i ys τ He ⟨hi, rfl, rfl, _⟩
      exact ⟨upd_same, by rw [List.length_map, List.length_take]; exact Nat.min_le_left _ _⟩
    · rintro i ys τ He hi ⟨_, rfl, rfl, o1, o2, rfl⟩
      have sF := same_new (o := .lst (iL (ws.take i))) hD2
      have hit : i < tks.length := by omega
      have hv : (tks.map V.ref)[i]? = some (.ref tks[i]) := by rw [List.getElem?_map, List.getElem?_eq_getElem hit]; rfl
      have htk := hatE i _ (List.getElem?_eq_getElem hit)
      refine ⟨⟨_, _, SqL.of (sF _ _ hDE), hv⟩, ?_⟩
      rintro x H3 ⟨rfl, hx⟩
      have ex := Option.some.inj ((hx _ (SqL.of (sF _ _ hDE))).symm.trans hv)
      subst ex
      refine ⟨_, _, rfl, SqT.of (sF _ _ htk), rfl, _, _, rfl, _, _, rfl, rfl, yes_if ?_⟩
      refine ⟨_, rfl, upd_same, hi, ?_, ?_, _, _, rfl⟩
      · have hiw : i < ws.length := by omega
        have e := List.getElem?_eq_getElem (l := ws) hiw
        rw [take_snoc e, ← gI_at e, iL_snoc]
      · rw [upd_upd]
    rintro ys τ He ⟨_, rfl, rfl, o1, o2, rfl⟩
    have ew : ws.take rs.length = ws := by rw [← hl, List.take_length]
    rw [ew]
    have sF := same_new (o := .lst (iL ws)) hD2
    refine ⟨⟨_, SqL.of (sF _ _ hDE), by rw [List.length_map, hts]; exact Nat.le_refl _⟩, ?_⟩
    have hD2' : (upd HE D2 (.lst (iL ws))) D2 = some (.lst (iL ws)) := upd_same
    have hD1F := sF _ _ hD1'
    have s1F := s1E.trans sF
    clear hD2
    generalize upd HE D2 (.lst (iL ws)) = HF at sF hD2' hD1F s1F ⊢
    intro y dx ny ndx nex
    refine ⟨y, dx, D1, D2, rs, ws, rfl, upd_same, (by rw [upd_ne (ne_of_none hD1F ny), upd_ne (ne_of_none hD1F ndx)]; exact hD1F), (by rw [upd_ne (ne_of_none hD2' ny), upd_ne (ne_of_none hD2' ndx)]; exact hD2'), by omega, by omega, fun g sz lv H9 fsz flv nsl Y kp => ⟨rfl, ?_⟩, fun ng H9 s9 => ⟨T.exmBB, ⟨cB, rfl, T.exB.ok⟩, ?_⟩⟩
    · have s9 : Same HF H9 := made_same ny ndx rfl kp
      exact kG rs ws ⟨g, eall⟩ y sz lv H9 Y (s1F.trans s9)
    · have s19 : Same HF H9 := fun b o z => by
        refine s9 b o ?_
        rw [upd_ne (ne_of_none z ny), upd_ne (ne_of_none z ndx)]
        exact z
      refine kB (fun ⟨rs', ws', W⟩ => ng ?_) H9 (s1F.trans s19)
      obtain ⟨n1, n2⟩ := W.nums
      obtain ⟨e1, e2⟩ := zip_inj hl W.1.eq nw nr n1 n2 (eall.symm.trans W.2)
      rw [e1, e2]
      exact W.1
end
end Z

set_option Elab.async false
set_option linter.all false
set_option maxRecDepth 100000
set_option maxHeartbeats 8000000
namespace Z
open PySem L2
abbrev dg9 : Str := ("0123456789" : Str)
theorem digs_is : dg9.cps.toList = [48, 49, 50, 51, 52, 53, 54, 55, 56, 57] := by decide +kernel
theorem zero_is : ("0" : Str) = ⟨#[48]⟩ := by decide +kernel
theorem one_dig : ∀ a, a < 10 → (⟨#[48 + a]⟩ : Str) = nT (a : Nat) := by decide +kernel
theorem two_dig : ∀ a, a < 10 → a ≠ 0 → ∀ b, b < 10 → (⟨#[48 + a, 48 + b]⟩ : Str) = nT ((10 * a + b : Nat) : Int) := by decide +kernel
theorem num99 : ∀ n, n < 100 → (1 ≤ (nT (n : Nat)).length ∧ (nT (n : Nat)).length ≤ 2) ∧ (∀ c ∈ (nT (n : Nat)).cps.toList, 48 ≤ c ∧ c ≤ 57) ∧ ((nT (n : Nat)).cps[0]? = some 48 → (nT (n : Nat)).length ≤ 1) := by decide +kernel
theorem inj99 : ∀ n, n < 100 → ∀ m, m < 100 → nT (n : Nat) = nT (m : Nat) → n = m := by decide +kernel
def N99 (i : Int) : Prop := 0 ≤ i ∧ i ≤ 99
theorem N99.nat {i : Int} (h : N99 i) : ∃ n : Nat, n < 100 ∧ i = (n : Int) := ⟨i.toNat, by have := h.1; have := h.2; omega, by rw [Int.toNat_of_nonneg h.1]⟩
theorem N99.inj {i j : Int} (hi : N99 i) (hj : N99 j) (h : nT i = nT j) : i = j := by
  obtain ⟨n, h1, rfl⟩ := hi.nat
  obtain ⟨m, h2, rfl⟩ := hj.nat
  rw [inj99 n h1 m h2 h]
/-- figures alone, one or two, no needless nought -/
theorem digits_num {x : Str} (h1 : 1 ≤ x.length) (h2 : x.length ≤ 2) (hd : ∀ c ∈ x.cps.toList, 48 ≤ c ∧ c ≤ 57) (h0 : x.cps[0]? = some 48 → x.length ≤ 1) : ∃ n, N99 n ∧ x = nT n := by
  obtain ⟨⟨l⟩⟩ := x
  match l, h1, h2 with
  | [a], _, _ =>
    have ha := hd a (by simp)
    refine ⟨((a - 48 : Nat) : Int), ⟨by omega, by omega⟩, ?_⟩
    rw [← one_dig (a - 48) (by omega), show 48 + (a - 48) = a by omega]
  | [a, b], _, _ =>
    have ha := hd a (by simp)
    have hb := hd b (by simp)
    have hn : a ≠ 48 := fun e => by
      subst e
      have : (2 : Nat) ≤ 1 := h0 rfl
      omega
    refine ⟨((10 * (a - 48) + (b - 48) : Nat) : Int), ⟨by omega, by omega⟩, ?_⟩
    rw [← two_dig (a - 48) (by omega) (by omega) (b - 48) (by omega), show 48 + (a - 48) = a by omega, show 48 + (b - 48) = b by omega]
  | [], h1, _ => exact absurd h1 (by decide)
  | _ :: _ :: _ :: _, _, h2 =>
    have h2 : _ + 1 + 1 + 1 ≤ 2 := h2
    omega
section
variable {P : Program} {w : World} {K : PySem.W.Frag} {mg : Str → Option Value} {base : Heap} {C cY cB cD cL cT : Addr}
/-! ### _law_number -/
def Nv (x : Str) (v : V) : Prop := (∃ n, N99 n ∧ x = nT n ∧ v = .int n) ∨ ((∀ n, N99 n → x ≠ nT n) ∧ v = .non)
def spLN : Sp := fun vs H Q _ => ∃ x : Str, vs = [.str x] ∧ x.length ≤ 1000 ∧ ∀ (v : V) (H' : Hp), Nv x v → Same H H' → Q v H'
theorem scNu : FnScope ["word", "letter"] ["word"] (defScope sNumber) := ⟨rfl, rfl, rfl, by decide +kernel, rfl, by decide +kernel, by decide +kernel⟩
theorem ok_ln {f : Addr} {fd : FuncData} (F : Fun K "_law_number" "_law_number" sNumber f fd) (T : Txt K mg C cY cB cD cL cT) : FnOk P w K mg base CX0 1 f fd ["word"] spLN := by
  refine F.ok scNu (fun vs H Q E h => ?_) (fun cdv A outer s H vs Q E hr h => ?_)
  · obtain ⟨x, rfl, _⟩ := h
    rfl
  · obtain ⟨x, rfl, hx, kk⟩ := h
    have kG : ∀ n, N99 n → x = nT n → ∀ H', Same H H' → Q (.int n) H' := fun n hn e H' s' => kk _ H' (.inl ⟨n, hn, e, rfl⟩) s'
    have kB : (∀ n, N99 n → x ≠ nT n) → ∀ H', Same H H' → Q .non H' := fun no H' s' => kk _ H' (.inr ⟨no, rfl⟩) s'
    show let X9 := _; let E9 := _; ∃ t, PSs X9 (defBody sNumber) t ∧ t E9 _ _
    intro X9 E9
    let x1_0 : SB9 X9 ((fB9 (defBody sNumber) 1)) 0 := ⟨_, pss_one (ps_if (pt_cmpR op_notIn_str (pv 1) pe_str (by rfl)) (pss_one (ps_ret pe_non)) pss_nil)⟩
    let tx1_0 : TS := x1_0.1
    have px1_0 : PSs X9 (List.drop 0 ((fB9 (defBody sNumber) 1))) tx1_0 := x1_0.2
    let x2_2 : SB9 X9 (defBody sNumber) 2 := ⟨_, pss_one (ps_ret (pe_callTy call_int_num (by rfl) T.int boot_int (pa_cons (pv 0) pa_nil)))⟩
    let tx2_2 : TS := x2_2.1
    have px2_2 : PSs X9 (List.drop 2 (defBody sNumber)) tx2_2 := x2_2.2
    let x2_1 : SB9 X9 (defBody sNumber) 1 := ⟨_, pss_cons (ps_for PassesOwn.never rfl (pi_str (pv 0)) (pg_name (i := 1) scNu.nd rfl (Or.inl rfl)) px1_0) px2_2⟩
    let tx2_1 : TS := x2_1.1
    have px2_1 : PSs X9 (List.drop 1 (defBody sNumber)) tx2_1 := x2_1.2
    let x2_0 : SB9 X9 (defBody sNumber) 0 := ⟨_, pss_cons (ps_if (pw_or (pt_cmpR op_lt (pe_callB call_len_str (by rfl) T.len PySem.boot_len (pa_cons (pv 0) pa_nil)) pe_int (nomark _))
      (pw_or (pt_cmpR op_gt (pe_callB call_len_str (by rfl) T.len PySem.boot_len (pa_cons (pv 0) pa_nil)) pe_int (nomark _))
      (pw_or1 (pw_and (pt_cmpR op_eq (pe_ix ix_str (pv 0) pe_int (fun _ _ => rfl)) pe_str (nomark _)) (pw_and1 (pt_cmpR op_gt (pe_callB call_len_str (by rfl) T.len PySem.boot_len (pa_cons (pv 0) pa_nil)) pe_int (nomark _)))).pt))).pt (pss_one (ps_ret pe_non)) pss_nil) px2_1⟩
    let tx2_0 : TS := x2_0.1
    have px2_0 : PSs X9 (List.drop 0 (defBody sNumber)) tx2_0 := x2_0.2
    refine ⟨tx2_0, px2_0, ?_⟩
    have big : 2000 ≤ sizeLine := by decide
    have bad : ∀ H', Same H H' → (∀ n, n < 100 → x ≠ nT ((n : Nat) : Int)) → Q .non H' := fun H' s' z => kB (fun n hn e => by
      obtain ⟨m, hm, rfl⟩ := hn.nat
      exact z m hm e) H' s'
    refine ⟨_, rfl, x, rfl, by omega, _, _, rfl, rfl, _, rfl, ?_⟩
    refine ite2 (fun h1 => iteT (bad H same_refl fun n hn e => ?_)) (fun h1 => ?_)
    · have h1 := of_decide_eq_true h1
      have := (num99 n hn).1
      rw [e] at h1
      omega
    have g1 : 1 ≤ x.length := by
      by_cases q : 1 ≤ x.length
      · exact q
      · exact absurd (decide_eq_true (by omega)) h1
    refine ⟨_, rfl, x, rfl, by omega, _, _, rfl, rfl, _, rfl, ?_⟩
    refine ite2 (fun h2 => iteT (bad H same_refl fun n hn e => ?_)) (fun h2 => ?_)
    · have h2 := of_decide_eq_true h2
      have := (num99 n hn).1
      rw [e] at h2
      omega
    have g2 : x.length ≤ 2 := by
      by_cases q : x.length ≤ 2
      · exact q
      · exact absurd (decide_eq_true (by omega)) h2
    obtain ⟨c0, hc0⟩ : ∃ c0, x.cps.toList[0]? = some c0 := by
      have hl : 0 < x.cps.toList.length := by
        have e : x.cps.toList.length = x.length := by simp [Str.length]
        omega
      exact ⟨_, List.getElem?_eq_getElem hl⟩
    have hc0' : x.cps[0]? = some c0 := by rw [← Array.getElem?_toList]; exact hc0
    have nxt : (x.cps[0]? = some 48 → x.length ≤ 1) → tx2_1 E9 [some (.str x), none] H := fun h0 => by
      refine ⟨_, rfl, x, rfl, ?_⟩
      refine for_it x.cps.size (fun i σ H' => i ≤ x.cps.size ∧ Same H H' ∧ (∀ j c, j < i → x.cps[j]? = some c → 48 ≤ c ∧ c ≤ 57) ∧ ∃ o, σ = [some (.str x), o]) ?_ ?_ ?_
      · exact ⟨Nat.zero_le _, same_refl, fun j c hj => absurd hj (Nat.not_lt_zero _), none, rfl⟩
      · rintro i σ H' hi ⟨_, s1, hd, o, rfl⟩
        refine ⟨hi, ?_⟩
        rintro y H3 ⟨rfl, c, hc, rfl⟩
        have fo := StrLaws.found_one dg9 c
        rw [digs_is] at fo
        refine ⟨_, rfl, ⟨#[c]⟩, dg9, rfl, rfl, _, rfl, ?_⟩
        rw [fo]
        refine ite2 (fun h5 => bad _ s1 fun n hn e => ?_) (fun h5 => ?_)
        · have h5 : c ∉ [48, 49, 50, 51, 52, 53, 54, 55, 56, 57] := by
            have h5 : (!decide (c ∈ [48, 49, 50, 51, 52, 53, 54, 55, 56, 57])) = true := h5
            rw [Bool.not_eq_true', decide_eq_false_iff_not] at h5
            exact h5
          have hm : c ∈ (nT ((n : Nat) : Int)).cps.toList := by
            rw [← e]
            rw [← Array.getElem?_toList] at hc
            exact List.mem_of_getElem? hc
          have := (num99 n hn).2.1 c hm
          exact h5 (by simp; omega)
        · have h5 : c ∈ [48, 49, 50, 51, 52, 53, 54, 55, 56, 57] := by
            have h5 : ¬ (!decide (c ∈ [48, 49, 50, 51, 52, 53, 54, 55, 56, 57])) = true := h5
            rw [Bool.not_eq_true', decide_eq_false_iff_not] at h5
            exact Classical.not_not.mp h5
          have hcc : 48 ≤ c ∧ c ≤ 57 := by
            simp at h5
            omega
          refine ⟨hi, s1, fun j c' hj e => ?_, _, rfl⟩
          by_cases z : j = i
          · subst z
            rw [hc] at e
            cases e
            exact hcc
          · exact hd j c' (by omega) e
      · rintro σ H' ⟨_, s1, hd, o, rfl⟩
        refine ⟨Nat.le_refl _, ?_⟩
        obtain ⟨n, hn, e⟩ := digits_num g1 g2 (fun c hc => by
          obtain ⟨j, hj, ej⟩ := List.getElem_of_mem hc
          have hj' : j < x.cps.size := by simpa using hj
          exact hd j c hj' (by rw [← Array.getElem?_toList, List.getElem?_eq_getElem hj, ej])) h0
        exact ⟨_, rfl, n, by rw [e]; rfl, hn.1, by have := hn.2; omega, kG n hn e H' s1⟩
    refine ⟨_, rfl, x, _, c0, rfl, rfl, by omega, atI_nat (j := 0) hc0, rfl, _, rfl, ?_⟩
    refine ite2 (fun h3 => ?_) (fun h3 => iteF (nxt fun z => ?_))
    · have h3 : (⟨#[c0]⟩ : Str) = ("0" : Str) := V_str_inj (of_decide_eq_true h3)
      rw [zero_is] at h3
      have hc48 : c0 = 48 := by
        injection h3 with h3
        simpa using h3
      refine ⟨_, rfl, x, rfl, by omega, _, _, rfl, rfl, _, rfl, ?_⟩
      refine ite2 (fun h4 => bad H same_refl fun n hn e => ?_) (fun h4 => nxt fun z => ?_)
      · have h4 := of_decide_eq_true h4
        have := (num99 n hn).2.2 (by rw [← e, hc0', hc48])
        rw [e] at h4
        omega
      · by_cases q : x.length ≤ 1
        · exact q
        · exact absurd (decide_eq_true (by omega)) h4
    · rw [hc0'] at z
      cases z
      exact absurd (decide_eq_true (by rw [← zero_is])) h3
end
end Z

set_option Elab.async false
set_option linter.all false
set_option maxRecDepth 100000
set_option maxHeartbeats 8000000
namespace Z
open PySem L2
section
variable {P : Program} {w : World} {K : PySem.W.Frag} {mg : Str → Option Value} {base : Heap} {C cY cB cD cL cT : Addr}
/-! ### _law_due -/
def spDue : Sp := fun vs H Q _ => ∃ z : Str, vs = [.str z] ∧ z.length ≤ 90 ∧ (∀ rs ws, Writes z rs ws → ∀ (t r u : Addr) (H' : Hp), H' t = some (.tup [.ref r, .ref u]) → H' r = some (.lst (iL rs)) → H' u = some (.lst (iL ws)) → Same H H' → Q (.ref t) H') ∧ ((¬ ∃ rs ws, Writes z rs ws) → ∀ H', Same H H' → Q .non H')
theorem scDu : FnScope ["signs", "lines", "rooms", "waters", "line", "words", "numbers"] ["signs"] (defScope sDue) := ⟨rfl, rfl, rfl, by decide +kernel, rfl, by decide +kernel, by decide +kernel⟩
theorem ok_du {f fN : Addr} {fd fdN : FuncData} (F : Fun K "_law_due" "_law_due" sDue f fd) (T : Txt K mg C cY cB cD cL cT) (FN : Fun K "_law_number" "_law_number" sNumber fN fdN) (bN : Binds K fdN ["word"] []) (mN : mg "_law_number" = some (.ref fN)) :
    FnOk P w K mg base CX0 2 f fd ["signs"] spDue := by
  have GN : FnOk P w K mg base CX0 1 fN fdN ["word"] spLN := ok_ln FN T
  refine F.ok scDu (fun vs H Q E h => ?_) (fun cdv A outer s H vs Q E hr h => ?_)
  · obtain ⟨z, rfl, _⟩ := h
    rfl
  · obtain ⟨z, rfl, hz, kG, kB⟩ := h
    show let X9 := _; let E9 := _; ∃ t, PSs X9 (defBody sDue) t ∧ t E9 _ _
    intro X9 E9
    let b1 : List Stmt := fB9 (defBody sDue) 3
    let x1_5 : SB9 X9 b1 5 := ⟨_, pss_one (ps_expr (pe_bm PySem.F.plainAttrs_list PySem.F.slot_list_append PySem.F.type_list_append mt_append (pv 2) (pa_cons (pe_ix ix_list (pv 6) pe_int (fun _ _ => rfl)) pa_nil)))⟩
    let tx1_5 : TS := x1_5.1
    have px1_5 : PSs X9 (List.drop 5 b1) tx1_5 := x1_5.2
    let x1_4 : SB9 X9 b1 4 := ⟨_, pss_cons (ps_expr (pe_bm PySem.F.plainAttrs_list PySem.F.slot_list_append PySem.F.type_list_append mt_append (pv 3) (pa_cons (pe_ix ix_list (pv 6) pe_int (fun _ _ => rfl)) pa_nil))) px1_5⟩
    let tx1_4 : TS := x1_4.1
    have px1_4 : PSs X9 (List.drop 4 b1) tx1_4 := x1_4.2
    let x1_3 : SB9 X9 b1 3 := ⟨_, pss_cons (ps_if (pw_or (pt_cmpR op_in_seq pe_non (pv 6) (by rfl)) (pw_or (pt_cmpR op_gt (pe_ix ix_list (pv 6) pe_int (fun _ _ => rfl)) pe_int (nomark _)) (pw_or1 (pt_cmpR op_gt (pe_ix ix_list (pv 6) pe_int (fun _ _ => rfl)) (pe_ix ix_list (pv 6) pe_int (fun _ _ => rfl)) (nomark _))))).pt (pss_one (ps_ret pe_non)) pss_nil) px1_4⟩
    let tx1_3 : TS := x1_3.1
    have px1_3 : PSs X9 (List.drop 3 b1) tx1_3 := x1_3.2
    let x1_2 : SB9 X9 b1 2 := ⟨_, pss_cons (ps_set (i := 6) scDu.nd rfl (Or.inl rfl) (pe_lst (pa_cons (pe_call GN hr (by rfl) mN FN.kp bN .nil pass0 (pa_cons (pe_ix ix_list (pv 5) pe_int (fun _ _ => rfl)) pa_nil)) (pa_cons (pe_call GN hr (by rfl) mN FN.kp bN .nil pass0 (pa_cons (pe_ix ix_list (pv 5) pe_int (fun _ _ => rfl)) pa_nil)) pa_nil)))) px1_3⟩
    let tx1_2 : TS := x1_2.1
    have px1_2 : PSs X9 (List.drop 2 b1) tx1_2 := x1_2.2
    let x1_1 : SB9 X9 b1 1 := ⟨_, pss_cons (ps_if (pw_or (pt_cmpR op_ne (pe_callB call_len_seq (by rfl) T.len PySem.boot_len (pa_cons (pv 5) pa_nil)) pe_int (nomark _)) (pw_or1 (pt_cmpR op_ne (pe_ix ix_list (pv 5) pe_int (fun _ _ => rfl)) pe_str (nomark _)))).pt (pss_one (ps_ret pe_non)) pss_nil) px1_2⟩
    let tx1_1 : TS := x1_1.1
    have px1_1 : PSs X9 (List.drop 1 b1) tx1_1 := x1_1.2
    let x1_0 : SB9 X9 b1 0 := ⟨_, pss_cons (ps_set (i := 5) scDu.nd rfl (Or.inl rfl) (pe_bm PySem.F.plainAttrs_str PySem.F.slot_str_split PySem.F.type_str_split mt_split (pv 4) (pa_cons pe_str pa_nil))) px1_1⟩
    let tx1_0 : TS := x1_0.1
    have px1_0 : PSs X9 (List.drop 0 b1) tx1_0 := x1_0.2
    let x0_5 : SB9 X9 (defBody sDue) 5 := ⟨_, pss_one (ps_ret (pe_tup (pa_cons (pv 2) (pa_cons (pv 3) pa_nil))))⟩
    let tx0_5 : TS := x0_5.1
    have px0_5 : PSs X9 (List.drop 5 (defBody sDue)) tx0_5 := x0_5.2
    let x0_4 : SB9 X9 (defBody sDue) 4 := ⟨_, pss_cons (ps_if (pt_cmpR op_gt (pe_callB call_len_seq (by rfl) T.len PySem.boot_len (pa_cons (pv 1) pa_nil)) pe_int (nomark _)) (pss_one (ps_ret pe_non)) pss_nil) px0_5⟩
    let tx0_4 : TS := x0_4.1
    have px0_4 : PSs X9 (List.drop 4 (defBody sDue)) tx0_4 := x0_4.2
    let x0_3 : SB9 X9 (defBody sDue) 3 := ⟨_, pss_cons (ps_for PassesOwn.never rfl (pi_list (pv 1)) (pg_name (i := 4) scDu.nd rfl (Or.inl rfl)) px1_0) px0_4⟩
    let tx0_3 : TS := x0_3.1
    have px0_3 : PSs X9 (List.drop 3 (defBody sDue)) tx0_3 := x0_3.2
    let x0_2 : SB9 X9 (defBody sDue) 2 := ⟨_, pss_cons (ps_set (i := 3) scDu.nd rfl (Or.inl rfl) (pe_lst pa_nil)) px0_3⟩
    let tx0_2 : TS := x0_2.1
    have px0_2 : PSs X9 (List.drop 2 (defBody sDue)) tx0_2 := x0_2.2
    let x0_1 : SB9 X9 (defBody sDue) 1 := ⟨_, pss_cons (ps_set (i := 2) scDu.nd rfl (Or.inl rfl) (pe_lst pa_nil)) px0_2⟩
    let tx0_1 : TS := x0_1.1
    have px0_1 : PSs X9 (List.drop 1 (defBody sDue)) tx0_1 := x0_1.2
    let x0_0 : SB9 X9 (defBody sDue) 0 := ⟨_, pss_cons (ps_set (i := 1) scDu.nd rfl (Or.inl rfl) (pe_bm PySem.F.plainAttrs_str PySem.F.slot_str_split PySem.F.type_str_split mt_split (pv 0) (pa_cons pe_str pa_nil))) px0_1⟩
    let tx0_0 : TS := x0_0.1
    have px0_0 : PSs X9 (List.drop 0 (defBody sDue)) tx0_0 := x0_0.2
    refine ⟨tx0_0, px0_0, ?_⟩
    have big : 2000 ≤ sizeLine := by decide
    have many := split_many (x := z) (y := nl9)
    refine ⟨_, rfl, rfl, _, _, rfl, rfl, by decide +kernel, by omega, Nat.le_trans many (by omega), fun p hp => ?_⟩
    generalize hH1 : upd H p (.lst (List.map V.str (Txt.split z (Str.ofString "\n")))) = H1
    have s1 : Same H H1 := by
      rw [← hH1]
      exact same_upd hp
    have hp1 : H1 p = some (.lst ((lines9 z).map V.str)) := by
      rw [← hH1]
      exact upd_same
    clear hH1
    have lm : (lines9 z).length ≤ 92 := Nat.le_trans many (by omega)
    have l0 : 0 < (lines9 z).length := List.length_pos_iff.mpr split_ne
    refine ⟨Nat.zero_le _, fun R hR => ⟨Nat.zero_le _, fun W hW => ?_⟩⟩
    have s2 := same_upd (o := .lst []) hR
    have s3 := same_upd (o := .lst []) hW
    have nRW : R ≠ W := ne_of_none (upd_same (H := H1) (a := R) (o := .lst [])) hW
    have hR3 := s3 _ _ (upd_same (H := H1) (a := R) (o := .lst []))
    have hW3 : (upd (upd H1 R (.lst [])) W (.lst [])) W = some (.lst []) := upd_same
    have hR1 := hR
    have hW1 : H1 W = none := s2.free hW
    have s13 : Same H1 (upd (upd H1 R (.lst [])) W (.lst [])) := s2.trans s3
    generalize upd (upd H1 R (.lst [])) W (.lst []) = H3 at hR3 hW3 s13 ⊢
    refine ⟨_, rfl, p, rfl, ⟨_, SqL.of (s13 _ _ hp1)⟩, ?_⟩
    refine for_list (xs := (lines9 z).map V.str) (fun i σ H' => i ≤ (lines9 z).length ∧ Same H1 H' ∧ (∃ (ws rs : List Int), H' R = some (.lst (iL rs)) ∧ H' W = some (.lst (iL ws)) ∧ (ws.length = i ∧ rs.length = i) ∧ (∀ (j : Nat) (r v : Int), rs[j]? = some r → ws[j]? = some v → 0 ≤ r ∧ r ≤ 50 ∧ 0 ≤ v ∧ v ≤ r) ∧
      ((lines9 z).take i).map (fun l => Txt.split l bl9) = List.zipWith (fun w r => [nT w, of9, nT r]) ws rs) ∧ ∃ (o4 o5 o6 : Option V), σ = [some (.str z), some (.ref p), some (.ref R), some (.ref W), o4, o5, o6]) ?_ ?_ ?_ ?_
    · exact ⟨Nat.zero_le _, s13, ⟨[], [], hR3, hW3, ⟨rfl, rfl⟩, fun j r v h => by simp at h, rfl⟩, none, none, none, rfl⟩
    · rintro i σ H' _ ⟨_, s4, _⟩
      exact SqL.of (s4 _ _ hp1)
    · rintro i x σ H' hx ⟨_, s4, ⟨ws, rs, hR', hW', ⟨hwl, hrl⟩, hgd, eqs⟩, o4, o5, o6, rfl⟩
      obtain ⟨l, hl9, rfl⟩ : ∃ l, (lines9 z)[i]? = some l ∧ x = V.str l := by
        rw [List.getElem?_map] at hx
        cases e : (lines9 z)[i]? with
        | none => rw [e] at hx; cases hx
        | some t =>
          rw [e] at hx
          exact ⟨t, rfl, (Option.some.inj hx).symm⟩
      have hi := (List.getElem?_eq_some_iff.mp hl9).1
      have ll : l.length ≤ 90 := Nat.le_trans (split_len l (List.mem_of_getElem? hl9)) hz
      have lmany := split_many (x := l) (y := bl9)
      have bad : (∀ w9 r9, (0 ≤ r9 ∧ r9 ≤ 50 ∧ 0 ≤ w9 ∧ w9 ≤ r9) → ¬ LineIs l w9 r9) → ∀ H9, Same H H9 → Q .non H9 := fun no H9 s9 => kB (fun ⟨rs', ws', Wr⟩ => by
        obtain ⟨w', r', _, ⟨e1, e2⟩, li⟩ := Wr.line hl9
        exact no w' r' (Wr.1.all i r' w' e2 e1) li) H9 s9
      refine ⟨_, rfl, rfl, _, _, rfl, rfl, by decide +kernel, by omega, Nat.le_trans lmany (by omega), fun q hq => ?_⟩
      generalize hH5 : upd H' q (.lst (List.map V.str (Txt.split l (Str.ofString " ")))) = H5
      have s5 : Same H' H5 := by
        rw [← hH5]
        exact same_upd hq
      obtain ⟨ps, eps⟩ : ∃ ps, Txt.split l bl9 = ps := ⟨_, rfl⟩
      have hq5 : H5 q = some (.lst (ps.map V.str)) := by
        rw [← hH5, ← eps]
        exact upd_same
      clear hH5
      have s05 : Same H H5 := s1.trans (s4.trans s5)
      refine ⟨_, rfl, q, _, rfl, .inl (SqL.of hq5), rfl, _, rfl, ?_⟩
      refine ite2 (fun h1 => iteT (bad (fun w9 r9 _ li => ?_) H5 s05)) (fun h1 => ?_)
      · unfold LineIs at li
        rw [eps] at li
        rw [li] at h1
        have h1 : (!decide (V.int ((3 : Nat) : Int) = V.int 3)) = true := h1
        exact absurd h1 (by decide)
      have h3 : ps.length = 3 := by
        have h1 : ¬ (!decide (V.int (((ps.map V.str).length : Nat) : Int) = V.int 3)) = true := h1
        rw [List.length_map] at h1
        by_cases z : ps.length = 3
        · exact z
        · refine absurd ?_ h1
          rw [Bool.not_eq_true', decide_eq_false_iff_not]
          intro q
          injection q with q
          omega
      obtain ⟨a, b, c, rfl⟩ : ∃ a b c, ps = [a, b, c] := by
        match ps, h3 with
        | [a, b, c], _ => exact ⟨a, b, c, rfl⟩
      have hq6 : H5 q = some (.lst [.str a, .str b, .str c]) := hq5
      refine ⟨_, rfl, q, _, _, _, rfl, rfl, SqL.of hq6, atI_nat (j := 1) rfl, rfl, _, rfl, ?_⟩
      refine ite2 (fun h4 => bad (fun w9 r9 _ li => ?_) H5 s05) (fun h4 => ?_)
      · unfold LineIs at li
        rw [eps] at li
        injection li with z1 z2
        injection z2 with z2 z3
        rw [z2] at h4
        have h4 : (!decide (V.str of9 = V.str of9)) = true := h4
        rw [decide_eq_true rfl] at h4
        cases h4
      have eb : b = of9 := by
        by_cases z : b = of9
        · exact z
        · refine absurd ?_ h4
          show (!decide (V.str b = V.str of9)) = true
          rw [Bool.not_eq_true', decide_eq_false_iff_not]
          exact fun q => z (V_str_inj q)
      subst eb
      have la : a.length ≤ 1000 := Nat.le_trans (split_len a (by rw [eps]; simp)) (by omega)
      have lc : c.length ≤ 1000 := Nat.le_trans (split_len c (by rw [eps]; simp)) (by omega)
      have notA : (∀ n, N99 n → a ≠ nT n) → ∀ H9, Same H H9 → Q .non H9 := fun no H9 s9 => bad (fun w9 r9 hb li => by
        unfold LineIs at li
        rw [eps] at li
        injection li with z1 z2
        exact no w9 ⟨by omega, by omega⟩ z1) H9 s9
      have lineC : ∀ w9 r9, LineIs l w9 r9 → a = nT w9 ∧ c = nT r9 := fun w9 r9 li => by
        unfold LineIs at li
        rw [eps] at li
        injection li with z1 z2
        injection z2 with z2 z3
        injection z3 with z3 z4
        exact ⟨z1, z3⟩
      refine ⟨_, rfl, q, _, _, _, rfl, rfl, SqL.of hq6, atI_nat (j := 0) rfl, a, rfl, la, fun va H6 na s6 => ?_⟩
      refine ⟨_, rfl, q, _, _, _, rfl, rfl, SqL.of (s6 _ _ hq6), atI_nat (j := 2) rfl, c, rfl, lc, fun vc H7 nc s7 => ?_⟩
      refine ⟨(by show 2 ≤ sizeLine; decide), fun m hm => ?_⟩
      have s8 := same_upd (o := .lst [va, vc]) hm
      have hm8 : (upd H7 m (.lst [va, vc])) m = some (.lst [va, vc]) := upd_same
      have s58 : Same H5 (upd H7 m (.lst [va, vc])) := s6.trans (s7.trans s8)
      have nmR : R ≠ m := ne_of_none (s7 _ _ (s6 _ _ (s5 _ _ hR'))) hm
      have nmW : W ≠ m := ne_of_none (s7 _ _ (s6 _ _ (s5 _ _ hW'))) hm
      generalize upd H7 m (.lst [va, vc]) = H8 at s8 hm8 s58 ⊢
      have s08 := s05.trans s58
      have s48 := s5.trans s58
      rcases na with ⟨n1, hn1, ea, rfl⟩ | ⟨noA, rfl⟩
      · rcases nc with ⟨n2, hn2, ec, rfl⟩ | ⟨noC, rfl⟩
        · refine ⟨_, rfl, m, _, rfl, .inl (SqL.of hm8), rfl, rfl, _, rfl, ?_⟩
          refine ite2 (fun h5 => absurd (show false = true from h5) (by decide)) (fun _ => ?_)
          refine ⟨_, rfl, m, _, _, _, rfl, rfl, SqL.of hm8, atI_nat (j := 1) rfl, _, _, rfl, rfl, _, rfl, ?_⟩
          refine ite2 (fun h5 => iteT (bad (fun w9 r9 hb li => ?_) H8 s08)) (fun h5 => ?_)
          · have h5 := of_decide_eq_true h5
            have := hn2.inj (show N99 r9 from ⟨by omega, by omega⟩) (ec.symm.trans (lineC w9 r9 li).2)
            omega
          have g50 : n2 ≤ 50 := by
            by_cases q9 : n2 ≤ 50
            · exact q9
            · exact absurd (decide_eq_true (by omega)) h5
          refine ⟨_, rfl, m, _, _, _, rfl, rfl, SqL.of hm8, atI_nat (j := 0) rfl, _, rfl, m, _, _, _, rfl, rfl, SqL.of hm8, atI_nat (j := 1) rfl, _, _, rfl, rfl, _, rfl, ?_⟩
          refine ite2 (fun h6 => bad (fun w9 r9 hb li => ?_) H8 s08) (fun h6 => ?_)
          · have h6 := of_decide_eq_true h6
            have e1 := hn2.inj (show N99 r9 from ⟨by omega, by omega⟩) (ec.symm.trans (lineC w9 r9 li).2)
            have e2 := hn1.inj (show N99 w9 from ⟨by omega, by omega⟩) (ea.symm.trans (lineC w9 r9 li).1)
            omega
          have gle : n1 ≤ n2 := by
            by_cases q9 : n1 ≤ n2
            · exact q9
            · exact absurd (decide_eq_true (by omega)) h6
          have hR8 := s48 _ _ hR'
          have hW8 := s48 _ _ hW'
          refine ⟨_, rfl, .inl ⟨rfl, _, SqL.of hW8⟩, _, rfl, m, _, _, _, rfl, rfl, SqL.of hm8, atI_nat (j := 0) rfl, W, _, _, rfl, rfl, hW8, small1000 (by rw [List.length_map]; omega), ?_⟩
          rw [iL_snoc]
          have hm9 : (upd H8 W (.lst (iL (ws ++ [n1])))) m = some (.lst [.int n1, .int n2]) := by rw [upd_ne (Ne.symm nmW)]; exact hm8
          have hR9 : (upd H8 W (.lst (iL (ws ++ [n1])))) R = some (.lst (iL rs)) := by rw [upd_ne nRW]; exact hR8
          refine ⟨_, rfl, .inl ⟨rfl, _, SqL.of hR9⟩, _, rfl, m, _, _, _, rfl, rfl, SqL.of hm9, atI_nat (j := 1) rfl, R, _, _, rfl, rfl, hR9, small1000 (by rw [List.length_map]; omega), ?_⟩
          rw [iL_snoc]
          refine ⟨hi, fun b o z => ?_, ⟨ws ++ [n1], rs ++ [n2], upd_same, ?_, ⟨by rw [List.length_append, hwl]; rfl, by rw [List.length_append, hrl]; rfl⟩, fun j r v e1 e2 => ?_, ?_⟩, _, _, _, rfl⟩
          · rw [upd_ne (ne_of_none z hR1), upd_ne (ne_of_none z hW1)]
            exact s48 _ _ (s4 _ _ z)
          · rw [upd_ne (Ne.symm nRW), upd_same]
          · by_cases hj : j < rs.length
            · rw [List.getElem?_append_left hj] at e1
              rw [List.getElem?_append_left (by omega)] at e2
              exact hgd j r v e1 e2
            · have hje : j = rs.length := by
                have := (List.getElem?_eq_some_iff.mp e1).1
                rw [List.length_append] at this
                have : j < rs.length + 1 := this
                omega
              rw [List.getElem?_append_right (by omega), show j - rs.length = 0 by omega] at e1
              rw [List.getElem?_append_right (by omega), show j - ws.length = 0 by omega] at e2
              cases e1
              cases e2
              have := hn1.1
              have := hn2.1
              omega
          · rw [take_snoc hl9, List.map_append, eqs, List.zipWith_append (by omega)]
            show _ ++ [Txt.split l bl9] = _ ++ [[nT n1, of9, nT n2]]
            rw [eps, ea, ec]
        · refine ⟨_, rfl, m, _, rfl, .inl (SqL.of hm8), rfl, rfl, _, rfl, ?_⟩
          refine ite2 (fun _ => iteT (bad (fun w9 r9 hb li => noC r9 ⟨by omega, by omega⟩ (lineC w9 r9 li).2) H8 s08)) (fun h5 => absurd rfl h5)
      · refine ⟨_, rfl, m, _, rfl, .inl (SqL.of hm8), rfl, ?_, _, rfl, ?_⟩
        · rcases nc with ⟨n2, hn2, ec, rfl⟩ | ⟨noC, rfl⟩ <;> rfl
        · refine ite2 (fun _ => iteT (notA noA H8 s08)) (fun h5 => absurd rfl h5)
    · rintro σ H' ⟨_, s4, ⟨ws, rs, hR', hW', ⟨hwl, hrl⟩, hgd, eqs⟩, o4, o5, o6, rfl⟩
      rw [List.length_map] at hwl hrl eqs
      rw [List.take_length] at eqs
      refine ⟨_, rfl, p, _, rfl, .inl (SqL.of (s4 _ _ hp1)), _, _, rfl, rfl, _, rfl, ?_⟩
      refine ite2 (fun h5 => kB (fun ⟨rs', ws', Wr⟩ => ?_) H' (s1.trans s4)) (fun h5 => ?_)
      · have h5 := of_decide_eq_true h5
        rw [List.length_map] at h5
        have := Wr.count
        have := Wr.1.n4
        omega
      · have g4 : (lines9 z).length ≤ 4 := by
          by_cases q9 : (lines9 z).length ≤ 4
          · exact q9
          · refine absurd (decide_eq_true ?_) h5
            rw [List.length_map]
            omega
        have g : Good rs ws := ⟨by omega, by omega, by omega, hgd⟩
        refine ⟨_, rfl, _, rfl, (by show 2 ≤ sizeLine; decide), fun t ht => ?_⟩
        have s9 := same_upd (o := .tup [.ref R, .ref W]) ht
        exact kG rs ws ⟨g, eqs⟩ t R W _ upd_same (s9 _ _ hR') (s9 _ _ hW') (s1.trans (s4.trans s9))
end
end Z

set_option Elab.async false
set_option linter.all false
set_option maxRecDepth 100000
set_option maxHeartbeats 8000000
namespace Z
open PySem L2
theorem join_any {ts : List Str} (h : (ts.map (·.length)).sum + ts.length ≤ 90) : JoinOk nl9 ts = true ∧ (Txt.join nl9 ts).length ≤ 90 := by
  have d : nl9.length = 1 := by decide +kernel
  have a := StrLaws.join_length_le nl9 ts
  rw [d] at a
  have e : Txt.join nl9 ts = Str.join nl9 ts := StrLaws.glued_eq_join _ _
  refine ⟨?_, by rw [e]; omega⟩
  have key : ∀ (ps : List Str) (n : Nat), ps.foldl (fun a p => a + p.length + nl9.length) n = n + (ps.map (·.length)).sum + ps.length := by
    intro ps
    induction ps with
    | nil => intro n; rfl
    | cons p ps ih =>
      intro n
      rw [List.foldl_cons, ih, d, List.map_cons, List.sum_cons, List.length_cons]
      omega
  have big : 100 ≤ sizeLine := by decide
  unfold JoinOk Builtin.Str.tooLong
  rw [Bool.not_eq_true', decide_eq_false_iff_not, List.foldl_toArray, key]
  omega
theorem cut_str (ts : List Str) (lo hi : Option Int) : ∃ us : List Str, cutV (ts.map V.str) lo hi = us.map V.str ∧ us.length ≤ ts.length ∧ ∀ u ∈ us, u ∈ ts := by
  unfold cutV
  refine ⟨(ts.drop (HT.sIx (ts.map V.str).length 0 lo)).take (HT.sIx (ts.map V.str).length (ts.map V.str).length hi - HT.sIx (ts.map V.str).length 0 lo), ?_, ?_, fun u hu => List.mem_of_mem_drop (List.mem_of_mem_take hu)⟩
  · rw [List.map_take, List.map_drop]
  · rw [List.length_take, List.length_drop]
    omega
section
variable {P : Program} {w : World} {K : PySem.W.Frag} {mg : Str → Option Value} {base : Heap} {C cY cB cD cL cT : Addr}
/-! ### _law_sign_by -/
def spSign (K : PySem.W.Frag) : Sp := fun vs H Q _ => ∃ (a : Addr) (ns : List Int), vs = [.ref a] ∧ SqL K H a (iL ns) ∧ ns.length ≤ 63 ∧ ∀ c : Nat, Q (.str ⟨#[c]⟩) H
theorem scSg : FnScope ["script", "some"] ["script"] (defScope sSignBy) := ⟨rfl, rfl, rfl, by decide +kernel, rfl, by decide +kernel, by decide +kernel⟩
theorem ok_sg {f fD : Addr} {fd fdD : FuncData} (F : Fun K "_law_sign_by" "_law_sign_by" sSignBy f fd) (T : Txt K mg C cY cB cD cL cT) (FD : Fun K "_law_drawn" "_law_drawn" sDrawn fD fdD) (bD : Binds K fdD ["script", "k", "many"] []) (mD : mg "_law_drawn" = some (.ref fD)) :
    FnOk P w K mg base CX0 2 f fd ["script"] (spSign K) := by
  have GD : FnOk P w K mg base CX0 1 fD fdD ["script", "k", "many"] (spDrawn K) := ok_dr FD T
  refine F.ok scSg (fun vs H Q E h => ?_) (fun cdv A outer s H vs Q E hr h => ?_)
  · obtain ⟨a, ns, rfl, _⟩ := h
    rfl
  · obtain ⟨a, ns, rfl, hs, hl, kk⟩ := h
    show let X9 := _; let E9 := _; ∃ t, PSs X9 (defBody sSignBy) t ∧ t E9 _ _
    intro X9 E9
    let x0_3 : SB9 X9 (defBody sSignBy) 3 := ⟨_, pss_one (ps_ret (pe_ix ix_str (pv 1) (pe_call GD hr (by rfl) mD FD.kp bD .nil pass0 (pa_cons (pv 0) (pa_cons pe_int (pa_cons (pe_callB call_len_str (by rfl) T.len PySem.boot_len (pa_cons (pv 1) pa_nil)) pa_nil)))) (fun _ _ => rfl)))⟩
    let tx0_3 : TS := x0_3.1
    have px0_3 : PSs X9 (List.drop 3 (defBody sSignBy)) tx0_3 := x0_3.2
    let x0_2 : SB9 X9 (defBody sSignBy) 2 := ⟨_, pss_cons (ps_if (pt_cmpR op_eq (pe_call GD hr (by rfl) mD FD.kp bD .nil pass0 (pa_cons (pv 0) (pa_cons pe_int (pa_cons pe_int pa_nil)))) pe_int (nomark _)) (pss_one (ps_set (i := 1) scSg.nd rfl (Or.inl rfl) pe_str)) pss_nil) px0_3⟩
    let tx0_2 : TS := x0_2.1
    have px0_2 : PSs X9 (List.drop 2 (defBody sSignBy)) tx0_2 := x0_2.2
    let x0_1 : SB9 X9 (defBody sSignBy) 1 := ⟨_, pss_cons (ps_set (i := 1) scSg.nd rfl (Or.inl rfl) (pe_op op_add_str (pv 1) pe_str)) px0_2⟩
    let tx0_1 : TS := x0_1.1
    have px0_1 : PSs X9 (List.drop 1 (defBody sSignBy)) tx0_1 := x0_1.2
    let x0_0 : SB9 X9 (defBody sSignBy) 0 := ⟨_, pss_cons (ps_set (i := 1) scSg.nd rfl (Or.inl rfl) pe_str) px0_1⟩
    let tx0_0 : TS := x0_0.1
    have px0_0 : PSs X9 (List.drop 0 (defBody sSignBy)) tx0_0 := x0_0.2
    refine ⟨tx0_0, px0_0, ?_⟩
    have big : 2000 ≤ sizeLine := by decide
    have fin : ∀ z : Str, 0 < z.length → z.length ≤ 1000 → tx0_3 E9 [some (.ref a), some (.str z)] H := fun z z0 z1 => by
      refine ⟨_, rfl, _, rfl, _, rfl, z, rfl, by omega, a, ns, _, _, rfl, hs, hl, by decide, by decide, by omega, fun c c0 c1 => ?_⟩
      have ez : z.cps.toList.length = z.length := by simp [Str.length]
      have hc : c.toNat < z.cps.toList.length := by omega
      have := atI_nat (List.getElem?_eq_getElem hc)
      rw [Int.toNat_of_nonneg c0] at this
      exact ⟨z, c, _, rfl, rfl, by omega, this, kk _⟩
    refine ⟨_, rfl, _, _, rfl, rfl, by decide +kernel, ?_⟩
    refine ⟨_, rfl, a, ns, _, _, rfl, hs, hl, by decide, by decide, by decide, fun c c0 c1 => ⟨rfl, _, rfl, ?_⟩⟩
    refine ite2 (fun _ => ?_) (fun _ => ?_)
    · exact fin (Str.ofString "0123456789 of") (by decide +kernel) (by decide +kernel)
    · refine fin _ ?_ ?_
      · rw [Str.length_append]
        exact Nat.lt_of_lt_of_le (by decide : 0 < 30) (Nat.le_trans (by decide +kernel) (Nat.le_add_left _ _))
      · rw [Str.length_append]
        decide +kernel
end
end Z

set_option Elab.async false
set_option linter.all false
set_option maxRecDepth 100000
set_option maxHeartbeats 8000000
namespace Z
open PySem L2
def shortV : V → Bool
  | .str y => decide (y.length ≤ 12)
  | _ => false
theorem odd_at {K : PySem.W.Frag} {H : Hp} {l : Addr} {xs : List V} {c : Int} {Q : VK} (h : H l = some (.lst xs)) (c0 : 0 ≤ c) (c1 : c < 20) (hl : xs.length = 20) (ha : xs.all shortV = true) (k : ∀ y : Str, y.length ≤ 12 → Q (.str y) H) : rIxL K (.ref l) (.int c) H Q := by
  have hc : c.toNat < xs.length := by omega
  have e := atI_nat (List.getElem?_eq_getElem hc)
  rw [Int.toNat_of_nonneg c0] at e
  have sh := List.all_eq_true.mp ha _ (List.getElem_mem hc)
  cases q : xs[c.toNat] with
  | str y =>
    rw [q] at e sh
    exact ⟨l, xs, c, .str y, rfl, rfl, SqL.of h, e, k y (of_decide_eq_true sh)⟩
  | _ =>
    rw [q] at sh
    exact absurd (show false = true from sh) (by decide)
def strC : Expr → Bool
  | .Constant (.str _) _ _ => true
  | _ => false
def strV : Expr → V
  | .Constant (.str x) _ _ => .str x
  | _ => .non
/-- a row of texts, all at once (one by one each costs twice the one before) -/
theorem pa_texts {X : Cx} : ∀ (es : List Expr), es.all strC = true → PA X es (fun _ H Q => Q (es.map strV) H)
  | [], _ => pa_nil
  | .Constant (.str x) j p :: es, h => by
    have ih := pa_texts (X := X) es (by simpa [strC] using h)
    exact pa_cons pe_str ih
  | e :: es, h => by
    cases e with
    | Constant c j p =>
      cases c with
      | str x => exact pa_cons pe_str (pa_texts es (by simpa [strC] using h))
      | _ => simp [strC] at h
    | _ => simp [strC] at h
section
variable {P : Program} {w : World} {K : PySem.W.Frag} {mg : Str → Option Value} {base : Heap} {C cY cB cD cL cT : Addr}
seal L2.PS L2.PE L2.PA L2.PSs
/-! ### _law_odd -/
def spOdd (K : PySem.W.Frag) : Sp := fun vs H Q _ => ∃ (a : Addr) (ns : List Int), vs = [.ref a] ∧ SqL K H a (iL ns) ∧ ns.length ≤ 63 ∧ ∀ (y : Str) (H' : Hp), y.length ≤ 12 → Same H H' → Q (.str y) H'
theorem scOd : FnScope ["script", "some"] ["script"] (defScope sOdd) := ⟨rfl, rfl, rfl, by decide +kernel, rfl, by decide +kernel, by decide +kernel⟩
theorem ok_od {f fD : Addr} {fd fdD : FuncData} (F : Fun K "_law_odd" "_law_odd" sOdd f fd) (T : Txt K mg C cY cB cD cL cT) (FD : Fun K "_law_drawn" "_law_drawn" sDrawn fD fdD) (bD : Binds K fdD ["script", "k", "many"] []) (mD : mg "_law_drawn" = some (.ref fD)) :
    FnOk P w K mg base CX0 2 f fd ["script"] (spOdd K) := by
  have GD : FnOk P w K mg base CX0 1 fD fdD ["script", "k", "many"] (spDrawn K) := ok_dr FD T
  refine F.ok scOd (fun vs H Q E h => ?_) (fun cdv A outer s H vs Q E hr h => ?_)
  · obtain ⟨a, ns, rfl, _⟩ := h
    rfl
  · obtain ⟨a, ns, rfl, hs, hl, kk⟩ := h
    show let X9 := _; let E9 := _; ∃ t, PSs X9 (defBody sOdd) t ∧ t E9 _ _
    intro X9 E9
    let x0_3 : SB9 X9 (defBody sOdd) 3 := ⟨_, pss_one (ps_ret (pe_ix ix_list (pv 1) (pe_call GD hr (by rfl) mD FD.kp bD .nil pass0 (pa_cons (pv 0) (pa_cons pe_int (pa_cons pe_int pa_nil)))) (fun _ _ => rfl)))⟩
    let tx0_3 : TS := x0_3.1
    have px0_3 : PSs X9 (List.drop 3 (defBody sOdd)) tx0_3 := x0_3.2
    let x0_2 : SB9 X9 (defBody sOdd) 2 := ⟨_, pss_cons (ps_set (i := 1) scOd.nd rfl (Or.inl rfl) (pe_op op_cat (pv 1) (pe_lst (pa_texts _ (by rfl))))) px0_3⟩
    let tx0_2 : TS := x0_2.1
    have px0_2 : PSs X9 (List.drop 2 (defBody sOdd)) tx0_2 := x0_2.2
    let x0_1 : SB9 X9 (defBody sOdd) 1 := ⟨_, pss_cons (ps_set (i := 1) scOd.nd rfl (Or.inl rfl) (pe_op op_cat (pv 1) (pe_lst (pa_texts _ (by rfl))))) px0_2⟩
    let tx0_1 : TS := x0_1.1
    have px0_1 : PSs X9 (List.drop 1 (defBody sOdd)) tx0_1 := x0_1.2
    let x0_0 : SB9 X9 (defBody sOdd) 0 := ⟨_, pss_cons (ps_set (i := 1) scOd.nd rfl (Or.inl rfl) (pe_lst (pa_texts _ (by rfl)))) px0_1⟩
    let tx0_0 : TS := x0_0.1
    have px0_0 : PSs X9 (List.drop 0 (defBody sOdd)) tx0_0 := x0_0.2
    refine ⟨tx0_0, px0_0, ?_⟩
    have big : 2000 ≤ sizeLine := by decide
    have st3 : ∀ (l : Addr) (xs : List V) (H3 : Hp), H3 l = some (.lst xs) → xs.length = 20 → xs.all shortV = true → Same H H3 → tx0_3 E9 [some (.ref a), some (.ref l)] H3 := fun l xs H3 h hlen ha s3 =>
      ⟨_, rfl, _, rfl, a, ns, _, _, rfl, s3.seq hs, hl, by decide, by decide, by decide, fun c c0 c1 => odd_at h c0 c1 hlen ha fun y hy => kk y _ hy s3⟩
    have st2 : ∀ (l : Addr) (xs : List V) (H3 : Hp), H3 l = some (.lst xs) → xs.length = 17 → xs.all shortV = true → Same H H3 → tx0_2 E9 [some (.ref a), some (.ref l)] H3 := fun l xs H3 h hlen ha s3 => by
      refine ⟨_, rfl, (by show 3 ≤ sizeLine; decide), fun m hm => ⟨l, m, _, _, rfl, rfl, by rw [upd_ne (ne_of_none h hm)]; exact h, upd_same, by rw [hlen]; show 20 ≤ sizeLine; decide, fun p hp => ?_⟩⟩
      show tx0_3 E9 [some (.ref a), some (.ref p)] _
      exact st3 p _ _ upd_same (by rw [List.length_append, hlen]; rfl) (by rw [List.all_append, ha, Bool.true_and]; decide +kernel) (s3.trans ((same_upd hm).trans (same_upd hp)))
    have st1 : ∀ (l : Addr) (xs : List V) (H3 : Hp), H3 l = some (.lst xs) → xs.length = 10 → xs.all shortV = true → Same H H3 → tx0_1 E9 [some (.ref a), some (.ref l)] H3 := fun l xs H3 h hlen ha s3 => by
      refine ⟨_, rfl, (by show 7 ≤ sizeLine; decide), fun m hm => ⟨l, m, _, _, rfl, rfl, by rw [upd_ne (ne_of_none h hm)]; exact h, upd_same, by rw [hlen]; show 17 ≤ sizeLine; decide, fun p hp => ?_⟩⟩
      show tx0_2 E9 [some (.ref a), some (.ref p)] _
      exact st2 p _ _ upd_same (by rw [List.length_append, hlen]; rfl) (by rw [List.all_append, ha, Bool.true_and]; decide +kernel) (s3.trans ((same_upd hm).trans (same_upd hp)))
    refine ⟨(by show 10 ≤ sizeLine; decide), fun l1 h1 => ?_⟩
    show tx0_1 E9 [some (.ref a), some (.ref l1)] _
    exact st1 l1 _ _ upd_same rfl (by decide +kernel) (same_upd h1)
end
end Z

set_option Elab.async false
set_option linter.all false
set_option maxRecDepth 100000
set_option maxHeartbeats 8000000
namespace Z
open PySem L2
theorem sum_leb (b : Nat) : ∀ ps : List Str, (∀ p ∈ ps, p.length ≤ b) → (ps.map (·.length)).sum ≤ b * ps.length
  | [], _ => Nat.le_refl _
  | p :: ps, h => by
    have i1 := sum_leb b ps fun x hx => h x (List.mem_cons_of_mem _ hx)
    have i2 := h p List.mem_cons_self
    rw [List.map_cons, List.sum_cons, List.length_cons, Nat.mul_succ]
    omega
theorem rep_str (x : Str) : ∀ n : Nat, (List.replicate n [V.str x]).flatten = (List.replicate n x).map V.str
  | 0 => rfl
  | n + 1 => by
    rw [List.replicate_succ, List.flatten_cons, rep_str x n, List.replicate_succ, List.map_cons]
    rfl
theorem sum_app9 (A B : List Str) : ((A ++ B).map (·.length)).sum + (A ++ B).length = ((A.map (·.length)).sum + A.length) + ((B.map (·.length)).sum + B.length) := by
  rw [List.map_append, List.sum_append, List.length_append]
  omega
theorem sum_few {A : List Str} (h : ∀ p ∈ A, p.length ≤ 8) (n : A.length ≤ 4) : (A.map (·.length)).sum + A.length ≤ 36 := by
  have := sum_leb 8 A h
  omega
theorem sum_one (y : Str) : (([y] : List Str).map (·.length)).sum + [y].length = y.length + 1 := by
  rw [List.map_cons, List.sum_cons]
  rfl
section
variable {P : Program} {w : World} {K : PySem.W.Frag} {mg : Str → Option Value} {base : Heap} {C cY cB cD cL cT : Addr}
seal L2.PS L2.PE L2.PA L2.PSs
/-! ### _law_spoilt -/
def spSpoilt (K : PySem.W.Frag) : Sp := fun vs H Q _ => ∃ (a : Addr) (ns ws rs : List Int), vs = [.ref a, .str (textT ws rs)] ∧ SqL K H a (iL ns) ∧ ns.length ≤ 63 ∧ Nums ws rs ∧ ∀ (y : Str) (H' : Hp), y.length ≤ 90 → Same H H' → Q (.str y) H'
theorem scSp : FnScope ["script", "shown", "way", "at", "lines", "k"] ["script", "shown"] (defScope sSpoilt) := ⟨rfl, rfl, rfl, by decide +kernel, rfl, by decide +kernel, by decide +kernel⟩
theorem ok_sp {f fD fS fO : Addr} {fd fdD fdS fdO : FuncData} (F : Fun K "_law_spoilt" "_law_spoilt" sSpoilt f fd) (T : Txt K mg C cY cB cD cL cT) (FD : Fun K "_law_drawn" "_law_drawn" sDrawn fD fdD) (bD : Binds K fdD ["script", "k", "many"] []) (mD : mg "_law_drawn" = some (.ref fD))
    (FS : Fun K "_law_sign_by" "_law_sign_by" sSignBy fS fdS) (bS : Binds K fdS ["script"] []) (mS : mg "_law_sign_by" = some (.ref fS)) (GS : FnOk P w K mg base CX0 2 fS fdS ["script"] (spSign K))
    (FO : Fun K "_law_odd" "_law_odd" sOdd fO fdO) (bO : Binds K fdO ["script"] []) (mO : mg "_law_odd" = some (.ref fO)) (GO : FnOk P w K mg base CX0 2 fO fdO ["script"] (spOdd K)) :
    FnOk P w K mg base CX0 3 f fd ["script", "shown"] (spSpoilt K) := by
  have GD : FnOk P w K mg base CX0 1 fD fdD ["script", "k", "many"] (spDrawn K) := ok_dr FD T
  refine F.ok scSp (fun vs H Q E h => ?_) (fun cdv A outer s H vs Q E hr h => ?_)
  · obtain ⟨a, ns, ws, rs, rfl, _⟩ := h
    rfl
  · obtain ⟨a, ns, ws, rs, rfl, hs, hl, hn, kk⟩ := h
    have hr1 := hr.mono (show 1 ≤ 2 by decide)
    show let X9 := _; let E9 := _; ∃ t, PSs X9 (defBody sSpoilt) t ∧ t E9 _ _
    intro X9 E9
    let x0_11 : SB9 X9 (defBody sSpoilt) 11 := ⟨_, pss_one (ps_ret (pv 1))⟩
    let tx0_11 : TS := x0_11.1
    have px0_11 : PSs X9 (List.drop 11 (defBody sSpoilt)) tx0_11 := x0_11.2
    let x0_10 : SB9 X9 (defBody sSpoilt) 10 := ⟨_, pss_cons (ps_if (pt_cmpR op_eq (pv 2) pe_int (nomark _)) (pss_one (ps_ret (pe_bm PySem.F.plainAttrs_str PySem.F.slot_str_join PySem.F.type_str_join mt_join pe_str (pa_cons (pe_op op_cat (pe_slice sl_list (pv 4) po_none (po_some (pv 5))) (pe_slice sl_list (pv 4) (po_some (pe_op op_add (pv 5) pe_int)) po_none)) pa_nil)))) pss_nil) px0_11⟩
    let tx0_10 : TS := x0_10.1
    have px0_10 : PSs X9 (List.drop 10 (defBody sSpoilt)) tx0_10 := x0_10.2
    let x0_9 : SB9 X9 (defBody sSpoilt) 9 := ⟨_, pss_cons (ps_if (pt_cmpR op_eq (pv 2) pe_int (nomark _)) (pss_one (ps_ret (pe_bm PySem.F.plainAttrs_str PySem.F.slot_str_join PySem.F.type_str_join mt_join pe_str (pa_cons (pe_op op_cat (pv 4) (pe_op op_rep (pe_lst (pa_cons pe_str pa_nil)) (pe_op op_add pe_int (pe_call GD hr1 (by rfl) mD FD.kp bD .nil pass0 (pa_cons (pv 0) (pa_cons pe_int (pa_cons pe_int pa_nil))))))) pa_nil)))) pss_nil) px0_10⟩
    let tx0_9 : TS := x0_9.1
    have px0_9 : PSs X9 (List.drop 9 (defBody sSpoilt)) tx0_9 := x0_9.2
    let x0_8 : SB9 X9 (defBody sSpoilt) 8 := ⟨_, pss_cons (ps_if (pt_cmpR op_eq (pv 2) pe_int (nomark _)) (pss_one (ps_ret (pe_bm PySem.F.plainAttrs_str PySem.F.slot_str_join PySem.F.type_str_join mt_join pe_str (pa_cons (pe_op op_cat (pe_op op_cat (pe_slice sl_list (pv 4) po_none (po_some (pv 5))) (pe_lst (pa_cons (pe_call GO hr (by rfl) mO FO.kp bO .nil pass0 (pa_cons (pv 0) pa_nil)) pa_nil))) (pe_slice sl_list (pv 4) (po_some (pe_op op_add (pv 5) pe_int)) po_none)) pa_nil)))) pss_nil) px0_9⟩
    let tx0_8 : TS := x0_8.1
    have px0_8 : PSs X9 (List.drop 8 (defBody sSpoilt)) tx0_8 := x0_8.2
    let x0_7 : SB9 X9 (defBody sSpoilt) 7 := ⟨_, pss_cons (ps_if (pt_cmpR op_eq (pv 2) pe_int (nomark _)) (pss_one (ps_ret (pe_bm PySem.F.plainAttrs_str PySem.F.slot_str_join PySem.F.type_str_join mt_join pe_str (pa_cons (pe_op op_cat (pe_op op_cat (pe_slice sl_list (pv 4) po_none (po_some (pv 5))) (pe_lst (pa_cons (pe_call GO hr (by rfl) mO FO.kp bO .nil pass0 (pa_cons (pv 0) pa_nil)) pa_nil))) (pe_slice sl_list (pv 4) (po_some (pv 5)) po_none)) pa_nil)))) pss_nil) px0_8⟩
    let tx0_7 : TS := x0_7.1
    have px0_7 : PSs X9 (List.drop 7 (defBody sSpoilt)) tx0_7 := x0_7.2
    let x0_6 : SB9 X9 (defBody sSpoilt) 6 := ⟨_, pss_cons (ps_if (pt_cmpR op_eq (pv 2) pe_int (nomark _)) (pss_one (ps_ret (pe_op op_add_str (pe_op op_add_str (pe_slice sl_str (pv 1) po_none (po_some (pv 3))) (pe_call GS hr (by rfl) mS FS.kp bS .nil pass0 (pa_cons (pv 0) pa_nil))) (pe_slice sl_str (pv 1) (po_some (pe_op op_add (pv 3) pe_int)) po_none)))) pss_nil) px0_7⟩
    let tx0_6 : TS := x0_6.1
    have px0_6 : PSs X9 (List.drop 6 (defBody sSpoilt)) tx0_6 := x0_6.2
    let x0_5 : SB9 X9 (defBody sSpoilt) 5 := ⟨_, pss_cons (ps_if (pt_cmpR op_eq (pv 2) pe_int (nomark _)) (pss_one (ps_ret (pe_op op_add_str (pe_slice sl_str (pv 1) po_none (po_some (pv 3))) (pe_slice sl_str (pv 1) (po_some (pe_op op_add (pv 3) pe_int)) po_none)))) pss_nil) px0_6⟩
    let tx0_5 : TS := x0_5.1
    have px0_5 : PSs X9 (List.drop 5 (defBody sSpoilt)) tx0_5 := x0_5.2
    let x0_4 : SB9 X9 (defBody sSpoilt) 4 := ⟨_, pss_cons (ps_if (pt_cmpR op_eq (pv 2) pe_int (nomark _)) (pss_one (ps_ret (pe_op op_add_str (pe_op op_add_str (pe_slice sl_str (pv 1) po_none (po_some (pv 3))) (pe_call GS hr (by rfl) mS FS.kp bS .nil pass0 (pa_cons (pv 0) pa_nil))) (pe_slice sl_str (pv 1) (po_some (pv 3)) po_none)))) pss_nil) px0_5⟩
    let tx0_4 : TS := x0_4.1
    have px0_4 : PSs X9 (List.drop 4 (defBody sSpoilt)) tx0_4 := x0_4.2
    let x0_3 : SB9 X9 (defBody sSpoilt) 3 := ⟨_, pss_cons (ps_set (i := 5) scSp.nd rfl (Or.inl rfl) (pe_call GD hr1 (by rfl) mD FD.kp bD .nil pass0 (pa_cons (pv 0) (pa_cons pe_int (pa_cons (pe_op op_add (pe_callB call_len_seq (by rfl) T.len PySem.boot_len (pa_cons (pv 4) pa_nil)) pe_int) pa_nil))))) px0_4⟩
    let tx0_3 : TS := x0_3.1
    have px0_3 : PSs X9 (List.drop 3 (defBody sSpoilt)) tx0_3 := x0_3.2
    let x0_2 : SB9 X9 (defBody sSpoilt) 2 := ⟨_, pss_cons (ps_set (i := 4) scSp.nd rfl (Or.inl rfl) (pe_bm PySem.F.plainAttrs_str PySem.F.slot_str_split PySem.F.type_str_split mt_split (pv 1) (pa_cons pe_str pa_nil))) px0_3⟩
    let tx0_2 : TS := x0_2.1
    have px0_2 : PSs X9 (List.drop 2 (defBody sSpoilt)) tx0_2 := x0_2.2
    let x0_1 : SB9 X9 (defBody sSpoilt) 1 := ⟨_, pss_cons (ps_set (i := 3) scSp.nd rfl (Or.inl rfl) (pe_call GD hr1 (by rfl) mD FD.kp bD .nil pass0 (pa_cons (pv 0) (pa_cons pe_int (pa_cons (pe_op op_add (pe_callB call_len_str (by rfl) T.len PySem.boot_len (pa_cons (pv 1) pa_nil)) pe_int) pa_nil))))) px0_2⟩
    let tx0_1 : TS := x0_1.1
    have px0_1 : PSs X9 (List.drop 1 (defBody sSpoilt)) tx0_1 := x0_1.2
    let x0_0 : SB9 X9 (defBody sSpoilt) 0 := ⟨_, pss_cons (ps_set (i := 2) scSp.nd rfl (Or.inl rfl) (pe_call GD hr1 (by rfl) mD FD.kp bD .nil pass0 (pa_cons (pv 0) (pa_cons pe_int (pa_cons pe_int pa_nil))))) px0_1⟩
    let tx0_0 : TS := x0_0.1
    have px0_0 : PSs X9 (List.drop 0 (defBody sSpoilt)) tx0_0 := x0_0.2
    refine ⟨tx0_0, px0_0, ?_⟩
    have big : 2000 ≤ sizeLine := by decide
    have one9 : 1 ≤ sizeLine := by decide
    have t40 := text_short hn
    have rsh := rows_short hn
    have rl4 : (rowsT ws rs).length ≤ 4 := by rw [rowsT_len hn]; exact hn.2.1
    have many := split_many (x := textT ws rs) (y := nl9)
    refine ⟨_, rfl, a, ns, _, _, rfl, hs, hl, by decide, by decide, by decide, fun way w0 w1 => ?_⟩
    refine ⟨_, rfl, _, rfl, _, rfl, by omega, _, _, rfl, rfl, a, ns, _, _, rfl, hs, hl, by decide, by decide, by omega, fun at9 a0 a1 => ?_⟩
    refine ⟨_, rfl, rfl, _, _, rfl, rfl, by decide +kernel, by omega, Nat.le_trans many (by omega), fun p hp => ?_⟩
    have s1 := same_upd (o := .lst ((Txt.split (textT ws rs) nl9).map V.str)) hp
    have hp1 : (upd H p (.lst ((Txt.split (textT ws rs) nl9).map V.str))) p = some (.lst ((Txt.split (textT ws rs) nl9).map V.str)) := upd_same
    show tx0_3 E9 [some (.ref a), some (.str (textT ws rs)), some (.int way), some (.int at9), some (.ref p), none] (upd H p (.lst ((Txt.split (textT ws rs) nl9).map V.str)))
    generalize upd H p (.lst ((Txt.split (textT ws rs) nl9).map V.str)) = H1 at s1 hp1 ⊢
    rw [text_split hn] at hp1
    have hs1 := s1.seq hs
    generalize rowsT ws rs = L at hp1 rsh rl4
    have jn : ∀ (q : Addr) (xs : List V) (us : List Str) (H' : Hp), H' q = some (.lst xs) → xs = us.map V.str → (us.map (·.length)).sum + us.length ≤ 90 → Same H H' → rJoin K (.str nl9) [.ref q] H' Q := fun q xs us H' h e hu s' => by
      subst e
      obtain ⟨j1, j2⟩ := join_any hu
      exact ⟨nl9, q, us, rfl, rfl, SqL.of h, j1, kk _ _ j2 s'⟩
    refine ⟨_, rfl, _, rfl, p, _, rfl, .inl (SqL.of hp1), _, _, rfl, rfl, a, ns, _, _, rfl, hs1, hl, by decide, by decide, by omega, fun k k0 k1 => ?_⟩
    show tx0_4 E9 [some (.ref a), some (.str (textT ws rs)), some (.int way), some (.int at9), some (.ref p), some (.int k)] H1
    -- 0
    refine ⟨_, rfl, rfl, _, rfl, ?_⟩
    refine ite2 (fun _ => ?_) (fun _ => ?_)
    · refine ⟨_, rfl, _, rfl, _, rfl, _, rfl, by omega, fun y1 h1 => ⟨_, rfl, a, ns, rfl, hs1, hl, fun c => ⟨_, _, rfl, rfl, ?_, _, rfl, _, rfl, _, rfl, _, rfl, by omega, fun y2 h2 => ⟨_, _, rfl, rfl, ?_, kk _ _ ?_ s1⟩⟩⟩⟩
      · show y1.length + 1 ≤ sizeLine
        omega
      · rw [Str.length_append]
        show y1.length + 1 + y2.length ≤ sizeLine
        omega
      · rw [Str.length_append, Str.length_append]
        show y1.length + 1 + y2.length ≤ 90
        omega
    -- 1
    refine ⟨_, rfl, rfl, _, rfl, ?_⟩
    refine ite2 (fun _ => ?_) (fun _ => ?_)
    · refine ⟨_, rfl, _, rfl, _, rfl, _, rfl, by omega, fun y1 h1 => ⟨_, rfl, _, rfl, _, _, rfl, rfl, _, rfl, _, rfl, by omega, fun y2 h2 => ⟨_, _, rfl, rfl, by omega, kk _ _ ?_ s1⟩⟩⟩
      rw [Str.length_append]
      omega
    -- 2
    refine ⟨_, rfl, rfl, _, rfl, ?_⟩
    refine ite2 (fun _ => ?_) (fun _ => ?_)
    · refine ⟨_, rfl, _, rfl, _, rfl, _, rfl, by omega, fun y1 h1 => ⟨_, rfl, a, ns, rfl, hs1, hl, fun c => ⟨_, _, rfl, rfl, ?_, _, rfl, _, rfl, _, _, rfl, rfl, _, rfl, _, rfl, by omega, fun y2 h2 => ⟨_, _, rfl, rfl, ?_, kk _ _ ?_ s1⟩⟩⟩⟩
      · show y1.length + 1 ≤ sizeLine
        omega
      · rw [Str.length_append]
        show y1.length + 1 + y2.length ≤ sizeLine
        omega
      · rw [Str.length_append, Str.length_append]
        show y1.length + 1 + y2.length ≤ 90
        omega
    have cl : ∀ lo hi, (cutV (L.map V.str) lo hi).length ≤ 4 := fun lo hi => Nat.le_trans (cutV_length _ _ _) (by rw [List.length_map]; exact rl4)
    obtain ⟨A, eA, lA, mA⟩ := cut_str L none (some k)
    have fA := sum_few (fun x hx => rsh x (mA x hx)) (Nat.le_trans lA rl4)
    obtain ⟨B, eB, lB, mB⟩ := cut_str L (some k) none
    have fB := sum_few (fun x hx => rsh x (mB x hx)) (Nat.le_trans lB rl4)
    obtain ⟨D, eD, lD, mD9⟩ := cut_str L (some (k + 1)) none
    have fD := sum_few (fun x hx => rsh x (mD9 x hx)) (Nat.le_trans lD rl4)
    -- 3
    refine ⟨_, rfl, rfl, _, rfl, ?_⟩
    refine ite2 (fun _ => ?_) (fun _ => ?_)
    · refine ⟨rfl, _, rfl, _, rfl, _, rfl, p, _, rfl, SqL.of hp1, fun p1 n1 => ?_⟩
      have u1 := same_upd (o := .lst (cutV (L.map V.str) none (some k))) n1
      refine ⟨_, rfl, a, ns, rfl, u1.seq hs1, hl, fun y H2 hy s2 => ⟨one9, fun m nm => ?_⟩⟩
      have q1 := s2 _ _ (upd_same (H := H1) (a := p1) (o := .lst (cutV (L.map V.str) none (some k))))
      have q2 := s2 _ _ (u1 _ _ hp1)
      have s02 := s1.trans (u1.trans s2)
      clear u1 s2
      have u2 := same_upd (o := .lst [.str y]) nm
      refine ⟨p1, m, _, _, rfl, rfl, u2 _ _ q1, upd_same, Nat.le_trans (Nat.add_le_add_right (cl _ _) _) (by show 5 ≤ sizeLine; decide), fun q nq => ?_⟩
      have u3 := same_upd (o := .lst (cutV (L.map V.str) none (some k) ++ [.str y])) nq
      refine ⟨_, rfl, _, rfl, _, rfl, p, _, rfl, SqL.of (u3 _ _ (u2 _ _ q2)), fun p2 n2 => ?_⟩
      have u4 := same_upd (o := .lst (cutV (L.map V.str) (some k) none)) n2
      refine ⟨q, p2, _, _, rfl, rfl, u4 _ _ upd_same, upd_same, by rw [List.length_append]; exact Nat.le_trans (Nat.add_le_add (Nat.add_le_add_right (cl _ _) _) (cl _ _)) (by show 9 ≤ sizeLine; decide), fun r nr => ?_⟩
      refine jn r _ (A ++ [y] ++ B) _ upd_same (by rw [eA, eB, List.map_append, List.map_append]; rfl) ?_ (s02.trans (u2.trans (u3.trans (u4.trans (same_upd nr)))))
      rw [sum_app9, sum_app9, sum_one]
      omega
    -- 4
    refine ⟨_, rfl, rfl, _, rfl, ?_⟩
    refine ite2 (fun _ => ?_) (fun _ => ?_)
    · refine ⟨rfl, _, rfl, _, rfl, _, rfl, p, _, rfl, SqL.of hp1, fun p1 n1 => ?_⟩
      have u1 := same_upd (o := .lst (cutV (L.map V.str) none (some k))) n1
      refine ⟨_, rfl, a, ns, rfl, u1.seq hs1, hl, fun y H2 hy s2 => ⟨one9, fun m nm => ?_⟩⟩
      have q1 := s2 _ _ (upd_same (H := H1) (a := p1) (o := .lst (cutV (L.map V.str) none (some k))))
      have q2 := s2 _ _ (u1 _ _ hp1)
      have s02 := s1.trans (u1.trans s2)
      clear u1 s2
      have u2 := same_upd (o := .lst [.str y]) nm
      refine ⟨p1, m, _, _, rfl, rfl, u2 _ _ q1, upd_same, Nat.le_trans (Nat.add_le_add_right (cl _ _) _) (by show 5 ≤ sizeLine; decide), fun q nq => ?_⟩
      have u3 := same_upd (o := .lst (cutV (L.map V.str) none (some k) ++ [.str y])) nq
      refine ⟨_, rfl, _, rfl, _, _, rfl, rfl, _, rfl, p, _, rfl, SqL.of (u3 _ _ (u2 _ _ q2)), fun p2 n2 => ?_⟩
      have u4 := same_upd (o := .lst (cutV (L.map V.str) (some (k + 1)) none)) n2
      refine ⟨q, p2, _, _, rfl, rfl, u4 _ _ upd_same, upd_same, by rw [List.length_append]; exact Nat.le_trans (Nat.add_le_add (Nat.add_le_add_right (cl _ _) _) (cl _ _)) (by show 9 ≤ sizeLine; decide), fun r nr => ?_⟩
      refine jn r _ (A ++ [y] ++ D) _ upd_same (by rw [eA, eD, List.map_append, List.map_append]; rfl) ?_ (s02.trans (u2.trans (u3.trans (u4.trans (same_upd nr)))))
      rw [sum_app9, sum_app9, sum_one]
      omega
    -- 5
    refine ⟨_, rfl, rfl, _, rfl, ?_⟩
    refine ite2 (fun _ => ?_) (fun _ => ?_)
    · refine ⟨rfl, _, rfl, one9, fun m nm => ?_⟩
      have u1 := same_upd (o := .lst [.str (Str.ofString "2 of 3")]) nm
      refine ⟨_, rfl, a, ns, _, _, rfl, u1.seq hs1, hl, by decide, by decide, by decide, fun c c0 c1 => ⟨_, _, rfl, rfl, ?_⟩⟩
      obtain ⟨n, en, hn2⟩ : ∃ n : Nat, (1 + c).toNat = n ∧ n ≤ 2 := ⟨_, rfl, by omega⟩
      have six : (Str.ofString "2 of 3").length = 6 := by decide +kernel
      refine ⟨m, _, _, rfl, rfl, upd_same, by omega, by omega, by rw [en]; show 1 * n ≤ sizeLine; omega, fun q nq => ?_⟩
      rw [en]
      have u2 := same_upd (o := .lst (List.replicate n [.str (Str.ofString "2 of 3")]).flatten) nq
      refine ⟨p, q, _, _, rfl, rfl, u2 _ _ (u1 _ _ hp1), upd_same, by rw [List.length_map, len_rep]; show _ + n * 1 ≤ sizeLine; omega, fun r nr => ?_⟩
      refine jn r _ (L ++ List.replicate n (Str.ofString "2 of 3")) _ upd_same (by rw [rep_str, List.map_append]) ?_ (s1.trans (u1.trans (u2.trans (same_upd nr))))
      have f1 := sum_few rsh rl4
      have f2 := sum_few (A := List.replicate n (Str.ofString "2 of 3")) (fun x hx => by rw [(List.mem_replicate.mp hx).2, six]; decide) (by rw [List.length_replicate]; omega)
      rw [sum_app9]
      omega
    -- 6
    refine ⟨_, rfl, rfl, _, rfl, ?_⟩
    refine ite2 (fun _ => ?_) (fun _ => ?_)
    · refine ⟨rfl, _, rfl, _, rfl, _, rfl, p, _, rfl, SqL.of hp1, fun p1 n1 => ?_⟩
      have u1 := same_upd (o := .lst (cutV (L.map V.str) none (some k))) n1
      refine ⟨_, rfl, _, rfl, _, _, rfl, rfl, _, rfl, p, _, rfl, SqL.of (u1 _ _ hp1), fun p2 n2 => ?_⟩
      have u4 := same_upd (o := .lst (cutV (L.map V.str) (some (k + 1)) none)) n2
      refine ⟨p1, p2, _, _, rfl, rfl, u4 _ _ upd_same, upd_same, Nat.le_trans (Nat.add_le_add (cl _ _) (cl _ _)) (by show 8 ≤ sizeLine; decide), fun r nr => ?_⟩
      refine jn r _ (A ++ D) _ upd_same (by rw [eA, eD, List.map_append]) ?_ (s1.trans (u1.trans (u4.trans (same_upd nr))))
      rw [sum_app9]
      omega
    exact ⟨_, rfl, kk _ _ (by omega) s1⟩
end
end Z

set_option Elab.async false
set_option linter.all false
set_option maxRecDepth 100000
set_option maxHeartbeats 8000000
namespace Z
open PySem L2
theorem Good.nums9 {rs ws : List Int} (g : Good rs ws) : Nums ws rs := ⟨g.eq, g.n4, g.n1, (good_nums g).1, (good_nums g).2⟩
theorem Writes.one {z : Str} {rs ws rs' ws' : List Int} (W : Writes z rs ws) (W' : Writes z rs' ws') : rs = rs' ∧ ws = ws' :=
  zip_inj W.1.eq W'.1.eq W.nums.1 W.nums.2 W'.nums.1 W'.nums.2 (W.2.symm.trans W'.2)
theorem iL_gI {l : List Int} {i : Nat} (h : i < l.length) : (iL l)[i]? = some (.int (gI l i)) := by
  have e := List.getElem?_eq_getElem h
  rw [gI_at e]
  show (l.map V.int)[i]? = _
  rw [List.getElem?_map, e]
  rfl
section
variable {P : Program} {w : World} {K : PySem.W.Frag} {mg : Str → Option Value} {base : Heap} {C cY cB cD cL cT : Addr}
seal L2.PS L2.PE L2.PA L2.PSs
def spLaw (K : PySem.W.Frag) : Sp := fun vs H Q _ => ∃ (a : Addr) (ns : List Int), vs = [.ref a] ∧ SqL K H a (iL ns) ∧ ns.length ≤ 63 ∧ ∀ H', Q (.bl true) H'
theorem scLw : FnScope ["script", "made", "shown", "signs", "due", "found", "e", "marks"] ["script"] (defScope sLaw) := ⟨rfl, rfl, rfl, by decide +kernel, rfl, by decide +kernel, by decide +kernel⟩
theorem ndKm : (["k", "made"] : List Str).Nodup := by decide +kernel
theorem ok_lw {f fY fS fU fR fRw fRo fWa : Addr} {fd fdY fdS fdU fdR fdRw fdRo fdWa : FuncData} (F : Fun K "law" "law" sLaw f fd) (T : Txt K mg C cY cB cD cL cT)
    (FY : Fun K "_law_yard_by" "_law_yard_by" sYardBy fY fdY) (bY : Binds K fdY ["script", "base"] []) (mY : mg "_law_yard_by" = some (.ref fY)) (GY : FnOk P w K mg base CX0 2 fY fdY ["script", "base"] (spYardBy K))
    (FS : Fun K "_law_spoilt" "_law_spoilt" sSpoilt fS fdS) (bS : Binds K fdS ["script", "shown"] []) (mS : mg "_law_spoilt" = some (.ref fS)) (GS : FnOk P w K mg base CX0 3 fS fdS ["script", "shown"] (spSpoilt K))
    (FU : Fun K "_law_due" "_law_due" sDue fU fdU) (bU : Binds K fdU ["signs"] []) (mU : mg "_law_due" = some (.ref fU)) (GU : FnOk P w K mg base CX0 2 fU fdU ["signs"] spDue)
    (FR : Fun K "read" "read" sRead fR fdR) (bR : Binds K fdR ["text"] []) (mR : mg "read" = some (.ref fR)) (GR : FnOk P w K mg base (CXow P w) 6 fR fdR ["text"] (spReadX C cT))
    (FRw : Fun K "_law_row" "_law_row" sRow fRw fdRw) (bRw : Binds K fdRw ["found", "due"] []) (mRw : mg "_law_row" = some (.ref fRw)) (GRw : FnOk P w K mg base CX0 2 fRw fdRw ["found", "due"] spRow)
    (eRo : Meth K C "rooms" fRo) (bRo : Binds K fdRo ["self"] []) (GRo : FnOk P w K mg base CX0 1 fRo fdRo ["self"] (spRooms C)) (eWa : Meth K C "waters" fWa) (bWa : Binds K fdWa ["self"] []) (GWa : FnOk P w K mg base CX0 1 fWa fdWa ["self"] (spWaters C)) :
    FnOk P w K mg base CX0 7 f fd ["script"] (spLaw K) := by
  refine F.ok scLw (fun vs H Q E h => ?_) (fun cdv A outer s H vs Q E hr h => ?_)
  · obtain ⟨a, ns, rfl, _⟩ := h
    rfl
  · obtain ⟨a, ns, rfl, hs, hl, kk⟩ := h
    have hr1 := hr.mono (show 1 ≤ 6 by decide)
    have hr2 := hr.mono (show 2 ≤ 6 by decide)
    have hr3 := hr.mono (show 3 ≤ 6 by decide)
    have hu := hr.units
    show let X9 := _; let E9 := _; ∃ t, PSs X9 (defBody sLaw) t ∧ t E9 _ _
    intro X9 E9
    let x0_5 : SB9 X9 (defBody sLaw) 5 := ⟨_, pss_one (ps_ret (pe_and (pe_cmp (pc_notN (pv 4)))
        (pe_and (pe_call GRw hr2 (by rfl) mRw FRw.kp bRw .nil pass0 (pa_cons (pe_meth0 (pv 5) T.cl eRo GRo hr1 bRo .nil pass0) (pa_cons (pe_ix ix_tup (pv 4) pe_int (fun _ _ => rfl)) pa_nil)))
        (pe_one (pe_call GRw hr2 (by rfl) mRw FRw.kp bRw .nil pass0 (pa_cons (pe_meth0 (pv 5) T.cl eWa GWa hr1 bWa .nil pass0) (pa_cons (pe_ix ix_tup (pv 4) pe_int (fun _ _ => rfl)) pa_nil)))))))⟩
    let tx0_5 : TS := x0_5.1
    have px0_5 : PSs X9 (List.drop 5 (defBody sLaw)) tx0_5 := x0_5.2
    let x0_4 : SB9 X9 (defBody sLaw) 4 := ⟨_, pss_cons (ps_tryw (i := 6) rfl rfl rfl scLw.nd rfl rfl (by rfl) T.mgY (fun D pn => pss_one (ps_set (i := 5) scLw.nd rfl (Or.inl rfl) (pe_callX GR hr (by rfl) mR FR.kp bR .nil passes_triedw (pa_cons (pv 3) pa_nil))))) px0_5⟩
    let tx0_4 : TS := x0_4.1
    have px0_4 : PSs X9 (List.drop 4 (defBody sLaw)) tx0_4 := x0_4.2
    let x0_3 : SB9 X9 (defBody sLaw) 3 := ⟨_, pss_cons (ps_set (i := 4) scLw.nd rfl (Or.inl rfl) (pe_call GU hr2 (by rfl) mU FU.kp bU .nil pass0 (pa_cons (pv 3) pa_nil))) px0_4⟩
    let tx0_3 : TS := x0_3.1
    have px0_3 : PSs X9 (List.drop 3 (defBody sLaw)) tx0_3 := x0_3.2
    let x0_2 : SB9 X9 (defBody sLaw) 2 := ⟨_, pss_cons (ps_set (i := 3) scLw.nd rfl (Or.inl rfl) (pe_call GS hr3 (by rfl) mS FS.kp bS .nil pass0 (pa_cons (pv 0) (pa_cons (pv 2) pa_nil)))) px0_3⟩
    let tx0_2 : TS := x0_2.1
    have px0_2 : PSs X9 (List.drop 2 (defBody sLaw)) tx0_2 := x0_2.2
    let x0_1 : SB9 X9 (defBody sLaw) 1 := ⟨_, pss_cons (ps_set (i := 2) scLw.nd rfl (Or.inl rfl) (pe_bm PySem.F.plainAttrs_str PySem.F.slot_str_join PySem.F.type_str_join mt_join pe_str (pa_cons
        (pe_comp (N := ["k", "made"]) (cap := [none, some 1]) rfl (.of (by rfl)) (pi_range1 (by rfl) T.range (pa_cons (pe_callB call_len_seq (by rfl) T.len PySem.boot_len (pa_cons (pe_ix ix_tup (pv 1) pe_int (fun _ _ => rfl)) pa_nil)) pa_nil))
          (fun _ _ _ _ => pg_name (i := 0) ndKm rfl (Or.inl rfl)) (fun _ _ _ _ => pts_nil)
          (fun _ _ _ _ => pe_op op_add_str (pe_op op_add_str (pe_callTy call_str_int (by rfl) T.str boot_str (pa_cons (pe_ix (show IxR _ (rIxL K) from ix_list) (pe_ix (show IxR _ (rIxT K) from ix_tup) (pv 1) pe_int (fun _ _ => rfl)) (pv 0) (fun _ _ => rfl)) pa_nil)) pe_str)
            (pe_callTy call_str_int (by rfl) T.str boot_str (pa_cons (pe_ix (show IxR _ (rIxL K) from ix_list) (pe_ix (show IxR _ (rIxT K) from ix_tup) (pv 1) pe_int (fun _ _ => rfl)) (pv 0) (fun _ _ => rfl)) pa_nil)))) pa_nil))) px0_2⟩
    let tx0_1 : TS := x0_1.1
    have px0_1 : PSs X9 (List.drop 1 (defBody sLaw)) tx0_1 := x0_1.2
    let x0_0 : SB9 X9 (defBody sLaw) 0 := ⟨_, pss_cons (ps_set (i := 1) scLw.nd rfl (Or.inr rfl) (pe_call GY hr2 (by rfl) mY FY.kp bY .nil pass0 (pa_cons (pv 0) (pa_cons pe_int pa_nil)))) px0_1⟩
    let tx0_0 : TS := x0_0.1
    have px0_0 : PSs X9 (List.drop 0 (defBody sLaw)) tx0_0 := x0_0.2
    refine ⟨tx0_0, px0_0, ?_⟩
    have big : 2000 ≤ sizeLine := by decide
    -- found, the text writes a yard
    have st5 : ∀ (o1 o2 o3 : Option V) (t r u y sz lv : Addr) (rs ws : List Int) (H5 : Hp), H5 t = some (.tup [.ref r, .ref u]) → H5 r = some (.lst (iL rs)) → H5 u = some (.lst (iL ws)) → YardAt C H5 y sz lv rs ws → rs.length ≤ 100 → ws.length ≤ 100 → tx0_5 E9 [some (.ref a), o1, o2, o3, some (.ref t), some (.ref y), none, none] H5 := by
      intro o1 o2 o3 t r u y sz lv rs ws H5 ht hr' hu' Y l1 l2
      obtain ⟨d0, hy⟩ := Y.ob
      refine ⟨_, rfl, true, rfl, iteT ?_⟩
      refine ⟨_, rfl, y, d0, _, rfl, hy, fl_no _ _ (by decide) (by decide), y, sz, lv, rs, ws, rfl, Y, fun r1 hr1' => ?_⟩
      have sQ := same_upd (o := .lst (iL rs)) hr1'
      refine ⟨_, rfl, t, _, _, _, rfl, rfl, SqT.of (sQ _ _ ht), atI_nat (j := 0) rfl, r1, r, rs, rfl, upd_same, sQ _ _ hr', l1, true, rfl, iteT ?_⟩
      refine ⟨_, rfl, y, d0, _, rfl, sQ _ _ hy, fl_no _ _ (by decide) (by decide), y, sz, lv, rs, ws, rfl, Y.same sQ, fun w1 hw1' => ?_⟩
      have sR := same_upd (o := .lst (iL ws)) hw1'
      exact ⟨_, rfl, t, _, _, _, rfl, rfl, SqT.of (sR _ _ (sQ _ _ ht)), atI_nat (j := 1) rfl, w1, u, ws, rfl, upd_same, sR _ _ (sQ _ _ hu'), l2, kk _⟩
    -- refused
    have st3 : ∀ (o1 o2 : Option V) (z : Str) (H3 : Hp), z.length ≤ 90 → tx0_3 E9 [some (.ref a), o1, o2, some (.str z), none, none, none, none] H3 := by
      intro o1 o2 z H3 hz
      refine ⟨_, rfl, z, rfl, hz, fun rs ws W t r u H4 ht hr' hu' s4 => ?_, fun nW H4 s4 => ?_⟩
      · refine ⟨_, rfl, z, rfl, hz, fun rs2 ws2 W2 y sz lv H5 Y s5 => ?_, fun nW => absurd ⟨rs, ws, W⟩ nW⟩
        obtain ⟨e1, e2⟩ := W.one W2
        subst e1 e2
        have g4 := W.1.n4
        have ge := W.1.eq
        exact st5 _ _ _ t r u y sz lv rs ws H5 (s5 _ _ ht) (s5 _ _ hr') (s5 _ _ hu') Y (by omega) (by omega)
      · refine ⟨_, rfl, z, rfl, hz, fun rs2 ws2 W2 => absurd ⟨rs2, ws2, W2⟩ nW, fun _ H5 s5 => ⟨T.exmT, fun e oe pn hoe => ⟨_, pss_cons
          (ps_set (i := 7) scLw.nd rfl (Or.inl rfl) (pe_lst (pa_cons (pe_callB call_isiX (by rfl) T.isi boot_isi (pa_cons (pv 6) (pa_cons (pe_glob (v := .ref cT) (by rfl) T.exT.mg rfl) pa_nil)))
            (pa_cons (pe_callB call_isiX (by rfl) T.isi boot_isi (pa_cons (pv 6) (pa_cons (pe_bltn (v := .ty "ValueError") (by rfl) T.ve boot_ve rfl) pa_nil)))
            (pa_cons (pe_callB call_isiX (by rfl) T.isi boot_isi (pa_cons (pv 6) (pa_cons (pe_glob (v := .ref cB) (by rfl) T.exB.mg rfl) pa_nil)))
            (pa_cons (pe_callB call_isiX (by rfl) T.isi boot_isi (pa_cons (pv 6) (pa_cons (pe_glob (v := .ref cD) (by rfl) T.exD.mg rfl) pa_nil))) pa_nil))))))
          (pss_one (ps_ret (pe_and (pe_cmp (pc_isN (pv 4))) (pe_one (pe_cmpR op_eqD (pe_op op_cat (pv 7) (pe_lst (pa_cons (pe_callB call_isiX (by rfl) T.isi boot_isi (pa_cons (pv 6) (pa_cons (pe_glob (v := .ref cL) (by rfl) T.exL.mg rfl) pa_nil))) pa_nil))) (pe_lst (pa_cons pe_bl (pa_cons pe_bl (pa_cons pe_bl (pa_cons pe_bl (pa_cons pe_bl pa_nil)))))) (nomark _)))))), ?_⟩⟩⟩
        have hm : (e, oe) ∈ pn ++ [(e, oe)] := List.mem_append_right _ List.mem_cons_self
        refine ⟨_, rfl, e, oe, cT, _, _, rfl, hm, hoe, T.kT, (by nofun), T.iTT, _, rfl, e, oe, cT, _, _, rfl, hm, hoe, T.kT, (by nofun), T.iTV, _, rfl, e, oe, cT, _, _, rfl, hm, hoe, T.kT, (by nofun), T.iTB, _, rfl, e, oe, cT, _, _, rfl, hm, hoe, T.kT, (by nofun), T.iTD, (by show 4 ≤ sizeLine; decide), fun m1 hm1 => ?_⟩
        refine ⟨_, rfl, true, rfl, iteT ?_⟩
        refine ⟨_, rfl, _, rfl, e, oe, cT, _, _, rfl, hm, hoe, T.kT, (by nofun), T.iTL, (by show 1 ≤ sizeLine; decide), fun m2 hm2 => ?_⟩
        have sb := same_upd (o := .lst [.bl false]) hm2
        refine ⟨m1, m2, _, _, rfl, rfl, sb _ _ upd_same, upd_same, (by show 5 ≤ sizeLine; decide), fun m3 hm3 => ?_⟩
        refine ⟨(by show 5 ≤ sizeLine; decide), fun m4 hm4 => ?_⟩
        have sd := same_upd (o := .lst [.bl true, .bl true, .bl false, .bl false, .bl false]) hm4
        refine ⟨.lst [.bl true, .bl true, .bl false, .bl false, .bl false], ⟨m3, _, rfl, SqL.of (sd _ _ upd_same), ?_⟩, ⟨m4, _, rfl, SqL.of upd_same, ?_⟩, by decide, ?_, kk _⟩
        · exact ⟨_, _, rfl, rfl, _, _, rfl, rfl, _, _, rfl, rfl, _, _, rfl, rfl, _, _, rfl, rfl, rfl⟩
        · exact ⟨_, _, rfl, rfl, _, _, rfl, rfl, _, _, rfl, rfl, _, _, rfl, rfl, _, _, rfl, rfl, rfl⟩
        · exact Nat.lt_of_le_of_lt (Nat.add_le_add_left (by decide) _) hu
    -- made
    refine ⟨_, rfl, a, ns, _, rfl, hs, hl, by decide, by decide, fun m r u rs ws H1 nm nr nu nru hm hr' hu' g s1 => ?_⟩
    show tx0_1 E9 [some (.ref a), some (.ref m), none, none, none, none, none, none] H1
    have hn := g.nums9
    have h4 := g.n4
    have ge := g.eq
    -- shown
    refine ⟨rfl, _, rfl, m, _, _, _, rfl, rfl, SqT.of hm, atI_nat (j := 0) rfl, r, _, rfl, .inl (SqL.of hr'), _, rfl, by omega, ?_, fun D hD => ?_⟩
    · rw [List.length_map]
      omega
    rw [show (((iL rs).length : Nat) : Int).toNat = rs.length by rw [List.length_map]; omega]
    refine comp_by rs.length (sz100 (by omega)) (fun i ys τ H' => i ≤ rs.length ∧ ys = ((rowsT ws rs).take i).map V.str ∧ H' = upd H1 D (.lst ys) ∧ ∃ o, τ = [o, some (.ref m)]) ?_ ?_ ?_ ?_
    · exact ⟨Nat.zero_le _, rfl, rfl, none, rfl⟩
    · rintro i ys τ H' ⟨hi, rfl, rfl, _⟩
      exact ⟨upd_same, by rw [List.length_map, List.length_take]; exact Nat.min_le_left _ _⟩
    · rintro i ys τ H' hi ⟨_, rfl, rfl, o, rfl⟩
      have sw := same_upd (o := .lst (((rowsT ws rs).take i).map V.str)) hD
      have e0 : (0 : Int) + (i : Int) = (i : Int) := by omega
      obtain ⟨nw, nr9⟩ := hn.at hi
      have lw := nw.ok.2.2
      have lr := nr9.ok.2.2
      have of4 : (" of " : Str).length = 4 := by decide +kernel
      refine ⟨hi, ?_⟩
      rintro x H3 ⟨rfl, rfl⟩
      refine name_yes_if ?_
      refine ⟨_, rfl, m, _, _, _, rfl, rfl, SqT.of (sw _ _ hm), atI_nat (j := 1) rfl, _, rfl, u, _, _, _, rfl, rfl, SqL.of (sw _ _ hu'), (by rw [e0]; exact atI_nat (iL_gI (by omega))), _, rfl, nw.log, _, _, rfl, rfl, ?_, _, rfl, m, _, _, _, rfl, rfl, SqT.of (sw _ _ hm), atI_nat (j := 0) rfl, _, rfl, r, _, _, _, rfl, rfl, SqL.of (sw _ _ hr'), (by rw [e0]; exact atI_nat (iL_gI hi)), _, rfl, nr9.log, _, _, rfl, rfl, ?_, upd_same, hi, ?_, ?_, _, rfl⟩
      · show (nT (gI ws i)).length + (" of " : Str).length ≤ sizeLine
        omega
      · show (nT (gI ws i) ++ (" of " : Str)).length + (nT (gI rs i)).length ≤ sizeLine
        rw [Str.length_append]
        omega
      · rw [take_snoc (rowsT_at hn hi), List.map_append]
        rfl
      · rw [upd_upd]
    rintro ys τ H' ⟨_, rfl, rfl, o, rfl⟩
    refine ⟨Nat.le_refl _, ?_⟩
    rw [← rowsT_len hn, List.take_length]
    have s2 := same_upd (o := .lst ((rowsT ws rs).map V.str)) hD
    refine ⟨nl9, D, rowsT ws rs, rfl, rfl, SqL.of upd_same, join_ok hn, ?_⟩
    have et : Txt.join nl9 (rowsT ws rs) = textT ws rs := StrLaws.glued_eq_join _ _
    refine ⟨_, rfl, _, rfl, a, ns, ws, rs, congrArg (fun z => [V.ref a, V.str z]) et, (s1.trans s2).seq hs, hl, hn, fun y H9 hy s9 => ?_⟩
    exact st3 _ _ y H9 hy
end
end Z

set_option Elab.async false
set_option linter.all false
set_option maxRecDepth 100000
set_option maxHeartbeats 8000000
namespace Z
open PySem L2
theorem all_mk {l : PySem.W.OpenLaw} {w : World} {K : PySem.W.Frag} {h : Heap} {mg : Str → Option Value} {fa C cY cB cD cL cT : Addr} (X : K.In h) (G : h.Ns mainGlobals mg) (hfa : mg "law" = some (.ref fa))
    {f_is_whole f_are_whole f_check_yard f_m_init f_m_rooms f_m_waters f_read_number f_read_tank f_read f_law_drawn f_law_whole f_law_row f_law_yard_by f_law_number f_law_due f_law_sign_by f_law_odd f_law_spoilt f_law : Addr} {od_is_whole an_is_whole od_are_whole an_are_whole od_check_yard an_check_yard od_m_init an_m_init od_m_rooms an_m_rooms od_m_waters an_m_waters od_read_number an_read_number od_read_tank an_read_tank od_read an_read od_law_drawn an_law_drawn od_law_whole an_law_whole od_law_row an_law_row od_law_yard_by an_law_yard_by od_law_number an_law_number od_law_due an_law_due od_law_sign_by an_law_sign_by od_law_odd an_law_odd od_law_spoilt an_law_spoilt od_law an_law : Option Addr} {sl_is_whole sl_are_whole sl_check_yard sl_m_init sl_m_rooms sl_m_waters sl_read_number sl_read_tank sl_read sl_law_drawn sl_law_whole sl_law_row sl_law_yard_by sl_law_number sl_law_due sl_law_sign_by sl_law_odd sl_law_spoilt sl_law : Array (Option Value)} {oc_is_whole kV_is_whole dc_is_whole pm_is_whole cd_is_whole ct_is_whole oc_are_whole kV_are_whole dc_are_whole pm_are_whole cd_are_whole ct_are_whole oc_check_yard kV_check_yard dc_check_yard pm_check_yard cd_check_yard ct_check_yard oc_m_init kV_m_init dc_m_init pm_m_init cd_m_init ct_m_init oc_m_rooms kV_m_rooms dc_m_rooms pm_m_rooms cd_m_rooms ct_m_rooms oc_m_waters kV_m_waters dc_m_waters pm_m_waters cd_m_waters ct_m_waters oc_read_number kV_read_number dc_read_number pm_read_number cd_read_number ct_read_number oc_read_tank kV_read_tank dc_read_tank pm_read_tank cd_read_tank ct_read_tank oc_read kV_read dc_read pm_read cd_read ct_read oc_law_drawn kV_law_drawn dc_law_drawn pm_law_drawn cd_law_drawn ct_law_drawn oc_law_whole kV_law_whole dc_law_whole pm_law_whole cd_law_whole ct_law_whole oc_law_row kV_law_row dc_law_row pm_law_row cd_law_row ct_law_row oc_law_yard_by kV_law_yard_by dc_law_yard_by pm_law_yard_by cd_law_yard_by ct_law_yard_by oc_law_number kV_law_number dc_law_number pm_law_number cd_law_number ct_law_number oc_law_due kV_law_due dc_law_due pm_law_due cd_law_due ct_law_due oc_law_sign_by kV_law_sign_by dc_law_sign_by pm_law_sign_by cd_law_sign_by ct_law_sign_by oc_law_odd kV_law_odd dc_law_odd pm_law_odd cd_law_odd ct_law_odd oc_law_spoilt kV_law_spoilt dc_law_spoilt pm_law_spoilt cd_law_spoilt ct_law_spoilt oc_law kV_law dc_law pm_law cd_law ct_law : Value} {t_m50 t_m4 t_m30 : Tok} {cdT : ClassData}
    (aC : PySem.W.nsIn K mainGlobals "Yard" = some (some (.ref C)))
    (acY : PySem.W.nsIn K mainGlobals "YardError" = some (some (.ref cY)))
    (acB : PySem.W.nsIn K mainGlobals "BadYard" = some (some (.ref cB)))
    (acD : PySem.W.nsIn K mainGlobals "BadDays" = some (some (.ref cD)))
    (acL : PySem.W.nsIn K mainGlobals "BadLine" = some (some (.ref cL)))
    (acT : PySem.W.nsIn K mainGlobals "BadText" = some (some (.ref cT)))
    (a_m50 : PySem.W.nsIn K mainGlobals "MOST_ROOM" = some (some (.int 50 t_m50)))
    (a_m4 : PySem.W.nsIn K mainGlobals "MOST_TANKS" = some (some (.int 4 t_m4)))
    (a_m30 : PySem.W.nsIn K mainGlobals "MOST_IN_A_DAY" = some (some (.int 30 t_m30)))
    (a_is_whole : PySem.W.nsIn K mainGlobals "is_whole" = some (some (.ref f_is_whole)))
    (l_is_whole : K.lookup f_is_whole = some ⟨oc_is_whole, od_is_whole, .func (PySem.W.fnOf "is_whole" "is_whole" (defArgs sIsWhole) (defBody sIsWhole) (defScope sIsWhole) .none kV_is_whole dc_is_whole pm_is_whole an_is_whole cd_is_whole ct_is_whole), sl_is_whole⟩)
    (c_is_whole : PySem.W.codeIn K cd_is_whole "is_whole" = true)
    (k_is_whole : PySem.W.keepIn K (.ref f_is_whole) = true)
    (a_are_whole : PySem.W.nsIn K mainGlobals "are_whole" = some (some (.ref f_are_whole)))
    (l_are_whole : K.lookup f_are_whole = some ⟨oc_are_whole, od_are_whole, .func (PySem.W.fnOf "are_whole" "are_whole" (defArgs sAreWhole) (defBody sAreWhole) (defScope sAreWhole) .none kV_are_whole dc_are_whole pm_are_whole an_are_whole cd_are_whole ct_are_whole), sl_are_whole⟩)
    (c_are_whole : PySem.W.codeIn K cd_are_whole "are_whole" = true)
    (k_are_whole : PySem.W.keepIn K (.ref f_are_whole) = true)
    (a_check_yard : PySem.W.nsIn K mainGlobals "check_yard" = some (some (.ref f_check_yard)))
    (l_check_yard : K.lookup f_check_yard = some ⟨oc_check_yard, od_check_yard, .func (PySem.W.fnOf "check_yard" "check_yard" (defArgs sCheck) (defBody sCheck) (defScope sCheck) .none kV_check_yard dc_check_yard pm_check_yard an_check_yard cd_check_yard ct_check_yard), sl_check_yard⟩)
    (c_check_yard : PySem.W.codeIn K cd_check_yard "check_yard" = true)
    (k_check_yard : PySem.W.keepIn K (.ref f_check_yard) = true)
    (a_m_init : PySem.W.findIn K (.ref C) "__init__" = some (some (.ref f_m_init)))
    (i_m_init : PySem.W.isFn K (.ref f_m_init) = true)
    (l_m_init : K.lookup f_m_init = some ⟨oc_m_init, od_m_init, .func (PySem.W.fnOf "__init__" "Yard.__init__" (defArgs sInit) (defBody sInit) (defScope sInit) .none kV_m_init dc_m_init pm_m_init an_m_init cd_m_init ct_m_init), sl_m_init⟩)
    (c_m_init : PySem.W.codeIn K cd_m_init "Yard.__init__" = true)
    (k_m_init : PySem.W.keepIn K (.ref f_m_init) = true)
    (a_m_rooms : PySem.W.findIn K (.ref C) "rooms" = some (some (.ref f_m_rooms)))
    (i_m_rooms : PySem.W.isFn K (.ref f_m_rooms) = true)
    (l_m_rooms : K.lookup f_m_rooms = some ⟨oc_m_rooms, od_m_rooms, .func (PySem.W.fnOf "rooms" "Yard.rooms" (defArgs sRooms) (defBody sRooms) (defScope sRooms) .none kV_m_rooms dc_m_rooms pm_m_rooms an_m_rooms cd_m_rooms ct_m_rooms), sl_m_rooms⟩)
    (c_m_rooms : PySem.W.codeIn K cd_m_rooms "Yard.rooms" = true)
    (k_m_rooms : PySem.W.keepIn K (.ref f_m_rooms) = true)
    (a_m_waters : PySem.W.findIn K (.ref C) "waters" = some (some (.ref f_m_waters)))
    (i_m_waters : PySem.W.isFn K (.ref f_m_waters) = true)
    (l_m_waters : K.lookup f_m_waters = some ⟨oc_m_waters, od_m_waters, .func (PySem.W.fnOf "waters" "Yard.waters" (defArgs sWaters) (defBody sWaters) (defScope sWaters) .none kV_m_waters dc_m_waters pm_m_waters an_m_waters cd_m_waters ct_m_waters), sl_m_waters⟩)
    (c_m_waters : PySem.W.codeIn K cd_m_waters "Yard.waters" = true)
    (k_m_waters : PySem.W.keepIn K (.ref f_m_waters) = true)
    (a_read_number : PySem.W.nsIn K mainGlobals "read_number" = some (some (.ref f_read_number)))
    (l_read_number : K.lookup f_read_number = some ⟨oc_read_number, od_read_number, .func (PySem.W.fnOf "read_number" "read_number" (defArgs sReadNumber) (defBody sReadNumber) (defScope sReadNumber) .none kV_read_number dc_read_number pm_read_number an_read_number cd_read_number ct_read_number), sl_read_number⟩)
    (c_read_number : PySem.W.codeIn K cd_read_number "read_number" = true)
    (k_read_number : PySem.W.keepIn K (.ref f_read_number) = true)
    (a_read_tank : PySem.W.nsIn K mainGlobals "read_tank" = some (some (.ref f_read_tank)))
    (l_read_tank : K.lookup f_read_tank = some ⟨oc_read_tank, od_read_tank, .func (PySem.W.fnOf "read_tank" "read_tank" (defArgs sReadTank) (defBody sReadTank) (defScope sReadTank) .none kV_read_tank dc_read_tank pm_read_tank an_read_tank cd_read_tank ct_read_tank), sl_read_tank⟩)
    (c_read_tank : PySem.W.codeIn K cd_read_tank "read_tank" = true)
    (k_read_tank : PySem.W.keepIn K (.ref f_read_tank) = true)
    (a_read : PySem.W.nsIn K mainGlobals "read" = some (some (.ref f_read)))
    (l_read : K.lookup f_read = some ⟨oc_read, od_read, .func (PySem.W.fnOf "read" "read" (defArgs sRead) (defBody sRead) (defScope sRead) .none kV_read dc_read pm_read an_read cd_read ct_read), sl_read⟩)
    (c_read : PySem.W.codeIn K cd_read "read" = true)
    (k_read : PySem.W.keepIn K (.ref f_read) = true)
    (a_law_drawn : PySem.W.nsIn K mainGlobals "_law_drawn" = some (some (.ref f_law_drawn)))
    (l_law_drawn : K.lookup f_law_drawn = some ⟨oc_law_drawn, od_law_drawn, .func (PySem.W.fnOf "_law_drawn" "_law_drawn" (defArgs sDrawn) (defBody sDrawn) (defScope sDrawn) .none kV_law_drawn dc_law_drawn pm_law_drawn an_law_drawn cd_law_drawn ct_law_drawn), sl_law_drawn⟩)
    (c_law_drawn : PySem.W.codeIn K cd_law_drawn "_law_drawn" = true)
    (k_law_drawn : PySem.W.keepIn K (.ref f_law_drawn) = true)
    (a_law_whole : PySem.W.nsIn K mainGlobals "_law_whole" = some (some (.ref f_law_whole)))
    (l_law_whole : K.lookup f_law_whole = some ⟨oc_law_whole, od_law_whole, .func (PySem.W.fnOf "_law_whole" "_law_whole" (defArgs sWhole) (defBody sWhole) (defScope sWhole) .none kV_law_whole dc_law_whole pm_law_whole an_law_whole cd_law_whole ct_law_whole), sl_law_whole⟩)
    (c_law_whole : PySem.W.codeIn K cd_law_whole "_law_whole" = true)
    (k_law_whole : PySem.W.keepIn K (.ref f_law_whole) = true)
    (a_law_row : PySem.W.nsIn K mainGlobals "_law_row" = some (some (.ref f_law_row)))
    (l_law_row : K.lookup f_law_row = some ⟨oc_law_row, od_law_row, .func (PySem.W.fnOf "_law_row" "_law_row" (defArgs sRow) (defBody sRow) (defScope sRow) .none kV_law_row dc_law_row pm_law_row an_law_row cd_law_row ct_law_row), sl_law_row⟩)
    (c_law_row : PySem.W.codeIn K cd_law_row "_law_row" = true)
    (k_law_row : PySem.W.keepIn K (.ref f_law_row) = true)
    (a_law_yard_by : PySem.W.nsIn K mainGlobals "_law_yard_by" = some (some (.ref f_law_yard_by)))
    (l_law_yard_by : K.lookup f_law_yard_by = some ⟨oc_law_yard_by, od_law_yard_by, .func (PySem.W.fnOf "_law_yard_by" "_law_yard_by" (defArgs sYardBy) (defBody sYardBy) (defScope sYardBy) .none kV_law_yard_by dc_law_yard_by pm_law_yard_by an_law_yard_by cd_law_yard_by ct_law_yard_by), sl_law_yard_by⟩)
    (c_law_yard_by : PySem.W.codeIn K cd_law_yard_by "_law_yard_by" = true)
    (k_law_yard_by : PySem.W.keepIn K (.ref f_law_yard_by) = true)
    (a_law_number : PySem.W.nsIn K mainGlobals "_law_number" = some (some (.ref f_law_number)))
    (l_law_number : K.lookup f_law_number = some ⟨oc_law_number, od_law_number, .func (PySem.W.fnOf "_law_number" "_law_number" (defArgs sNumber) (defBody sNumber) (defScope sNumber) .none kV_law_number dc_law_number pm_law_number an_law_number cd_law_number ct_law_number), sl_law_number⟩)
    (c_law_number : PySem.W.codeIn K cd_law_number "_law_number" = true)
    (k_law_number : PySem.W.keepIn K (.ref f_law_number) = true)
    (a_law_due : PySem.W.nsIn K mainGlobals "_law_due" = some (some (.ref f_law_due)))
    (l_law_due : K.lookup f_law_due = some ⟨oc_law_due, od_law_due, .func (PySem.W.fnOf "_law_due" "_law_due" (defArgs sDue) (defBody sDue) (defScope sDue) .none kV_law_due dc_law_due pm_law_due an_law_due cd_law_due ct_law_due), sl_law_due⟩)
    (c_law_due : PySem.W.codeIn K cd_law_due "_law_due" = true)
    (k_law_due : PySem.W.keepIn K (.ref f_law_due) = true)
    (a_law_sign_by : PySem.W.nsIn K mainGlobals "_law_sign_by" = some (some (.ref f_law_sign_by)))
    (l_law_sign_by : K.lookup f_law_sign_by = some ⟨oc_law_sign_by, od_law_sign_by, .func (PySem.W.fnOf "_law_sign_by" "_law_sign_by" (defArgs sSignBy) (defBody sSignBy) (defScope sSignBy) .none kV_law_sign_by dc_law_sign_by pm_law_sign_by an_law_sign_by cd_law_sign_by ct_law_sign_by), sl_law_sign_by⟩)
    (c_law_sign_by : PySem.W.codeIn K cd_law_sign_by "_law_sign_by" = true)
    (k_law_sign_by : PySem.W.keepIn K (.ref f_law_sign_by) = true)
    (a_law_odd : PySem.W.nsIn K mainGlobals "_law_odd" = some (some (.ref f_law_odd)))
    (l_law_odd : K.lookup f_law_odd = some ⟨oc_law_odd, od_law_odd, .func (PySem.W.fnOf "_law_odd" "_law_odd" (defArgs sOdd) (defBody sOdd) (defScope sOdd) .none kV_law_odd dc_law_odd pm_law_odd an_law_odd cd_law_odd ct_law_odd), sl_law_odd⟩)
    (c_law_odd : PySem.W.codeIn K cd_law_odd "_law_odd" = true)
    (k_law_odd : PySem.W.keepIn K (.ref f_law_odd) = true)
    (a_law_spoilt : PySem.W.nsIn K mainGlobals "_law_spoilt" = some (some (.ref f_law_spoilt)))
    (l_law_spoilt : K.lookup f_law_spoilt = some ⟨oc_law_spoilt, od_law_spoilt, .func (PySem.W.fnOf "_law_spoilt" "_law_spoilt" (defArgs sSpoilt) (defBody sSpoilt) (defScope sSpoilt) .none kV_law_spoilt dc_law_spoilt pm_law_spoilt an_law_spoilt cd_law_spoilt ct_law_spoilt), sl_law_spoilt⟩)
    (c_law_spoilt : PySem.W.codeIn K cd_law_spoilt "_law_spoilt" = true)
    (k_law_spoilt : PySem.W.keepIn K (.ref f_law_spoilt) = true)
    (a_law : PySem.W.nsIn K mainGlobals "law" = some (some (.ref f_law)))
    (l_law : K.lookup f_law = some ⟨oc_law, od_law, .func (PySem.W.fnOf "law" "law" (defArgs sLaw) (defBody sLaw) (defScope sLaw) .none kV_law dc_law pm_law an_law cd_law ct_law), sl_law⟩)
    (c_law : PySem.W.codeIn K cd_law "law" = true)
    (k_law : PySem.W.keepIn K (.ref f_law) = true)
    (pg : PySem.W.plainGet K C Str.empty = true)
    (hd : PySem.W.hasDictIn K C = true)
    (po : PySem.W.plainOver K C = true)
    (sa : PySem.W.findIn K (.ref C) "__setattr__" = some (some (.builtin "object.__setattr__")))
    (nS : PySem.W.findIn K (.ref C) "sizes" = some none)
    (nL : PySem.W.findIn K (.ref C) "levels" = some none)
    (yB : PySem.W.excIn K cB [.type "ValueError", .type "Exception", .type "BaseException", .type "object"] "ValueError.__new__" = true)
    (yD : PySem.W.excIn K cD [.type "ValueError", .type "Exception", .type "BaseException", .type "object"] "ValueError.__new__" = true)
    (yL : PySem.W.excIn K cL [.type "ValueError", .type "Exception", .type "BaseException", .type "object"] "ValueError.__new__" = true)
    (yT : PySem.W.excIn K cT [.type "ValueError", .type "Exception", .type "BaseException", .type "object"] "ValueError.__new__" = true)
    (xclT : PySem.W.clsIn K cT = some cdT)
    (xgaT : PySem.W.findIn K (.ref cT) "__getattribute__" = some (some (.builtin "BaseException.__getattribute__")))
    (xghT : PySem.W.findIn K (.ref cT) "__getattr__" = some none)
    (xcaT : PySem.W.findIn K (.ref cT) "__class__" = some (some (.builtin "object.__class__")))
    (xgtT : PySem.W.specialIn K (.builtin "object.__class__") "__get__" = some (some (.builtin "getset_descriptor.__get__")))
    (xtkT : PySem.W.takesIn K (.builtin "object.__class__") = some true)
    (xmoT : PySem.W.mroIn K cT (.type "object") = some true)
    (xmbT : PySem.W.mroIn K cT (.type "BaseException") = some true)
    (xeT : PySem.W.exmOne K (.ref cT) (.ref cY) = some true)
    (iTB : PySem.W.kitOne K (.ref cT) (.ref cB) = some false)
    (iTD : PySem.W.kitOne K (.ref cT) (.ref cD) = some false)
    (iTL : PySem.W.kitOne K (.ref cT) (.ref cL) = some false)
    (iTT : PySem.W.kitOne K (.ref cT) (.ref cT) = some true)
    (iTV : PySem.W.kitOne K (.ref cT) (.type "ValueError") = some true)
    (xeBB : PySem.W.exmOne K (.ref cB) (.ref cB) = some true)
    (z_len : PySem.W.nsIn K mainGlobals "len" = some none)
    (z_range : PySem.W.nsIn K mainGlobals "range" = some none)
    (z_isi : PySem.W.nsIn K mainGlobals "isinstance" = some none)
    (z_list : PySem.W.nsIn K mainGlobals "list" = some none)
    (z_all : PySem.W.nsIn K mainGlobals "all" = some none)
    (z_any : PySem.W.nsIn K mainGlobals "any" = some none)
    (z_zip : PySem.W.nsIn K mainGlobals "zip" = some none)
    (z_int : PySem.W.nsIn K mainGlobals "int" = some none)
    (z_bool : PySem.W.nsIn K mainGlobals "bool" = some none)
    (z_ve : PySem.W.nsIn K mainGlobals "ValueError" = some none)
    (z_min : PySem.W.nsIn K mainGlobals "min" = some none)
    (z_tup : PySem.W.nsIn K mainGlobals "tuple" = some none)
    (z_max : PySem.W.nsIn K mainGlobals "max" = some none)
    (z_sum : PySem.W.nsIn K mainGlobals "sum" = some none)
    (z_enu : PySem.W.nsIn K mainGlobals "enumerate" = some none)
    (z_str : PySem.W.nsIn K mainGlobals "str" = some none)
    (ki : PySem.W.kitOne K (.type "int") (.type "int") = some true)
    (kib : PySem.W.kitOne K (.type "int") (.type "bool") = some false)
    (kll : PySem.W.kitOne K (.type "list") (.type "list") = some true)
    (ktt : PySem.W.kitOne K (.type "tuple") (.type "tuple") = some true)
    (kbb : PySem.W.kitOne K (.type "bool") (.type "bool") = some true)
    (kss : PySem.W.kitOne K (.type "str") (.type "str") = some true)
    (mk : PySem.W.makesIn K C = true)
    (kc : PySem.W.keepIn K (.ref C) = true)
    : ∃ fd : FuncData, (∀ (s : Shared) (v : Value), BindsTo s fd ⟨[v], []⟩ [("script", v)]) ∧ ∀ base : Heap, K.In base → base.Ns mainGlobals mg → FnOk l.prog w K mg base CX0 7 fa fd ["script"] (spLaw K) := by
  have e := hfa.symm.trans (PySem.W.mg_of X G a_law)
  cases e
  have T : Txt K mg C cY cB cD cL cT := {
    cl := ⟨pg, hd, po, sa⟩
    nS := nS
    nL := nL
    mgC := PySem.W.mg_of X G aC
    mgY := PySem.W.mg_of X G acY
    exB := ⟨PySem.W.mg_of X G acB, yB⟩
    exD := ⟨PySem.W.mg_of X G acD, yD⟩
    exL := ⟨PySem.W.mg_of X G acL, yL⟩
    exT := ⟨PySem.W.mg_of X G acT, yT⟩
    kT := ⟨by rw [xclT]; rfl, xgaT, xghT, xcaT, xgtT, xtkT, xmoT, xmbT⟩
    exmT := xeT
    iTB := iTB
    iTD := iTD
    iTL := iTL
    iTT := iTT
    iTV := iTV
    exmBB := xeBB
    len := PySem.W.mg_none_of X G z_len
    range := PySem.W.mg_none_of X G z_range
    isi := PySem.W.mg_none_of X G z_isi
    list := PySem.W.mg_none_of X G z_list
    all := PySem.W.mg_none_of X G z_all
    any := PySem.W.mg_none_of X G z_any
    zip := PySem.W.mg_none_of X G z_zip
    int := PySem.W.mg_none_of X G z_int
    bool := PySem.W.mg_none_of X G z_bool
    ve := PySem.W.mg_none_of X G z_ve
    min := PySem.W.mg_none_of X G z_min
    tup := PySem.W.mg_none_of X G z_tup
    max := PySem.W.mg_none_of X G z_max
    sum := PySem.W.mg_none_of X G z_sum
    enu := PySem.W.mg_none_of X G z_enu
    str := PySem.W.mg_none_of X G z_str
    m50 := ⟨_, PySem.W.mg_of X G a_m50⟩
    m4 := ⟨_, PySem.W.mg_of X G a_m4⟩
    m30 := ⟨_, PySem.W.mg_of X G a_m30⟩
    ki := ki
    kib := kib
    kll := kll
    ktt := ktt
    kbb := kbb
    kss := kss }
  have F_is_whole := fun_mk (st := sIsWhole) l_is_whole c_is_whole k_is_whole
  have b_is_whole := F_is_whole.binds (ps := ["value", "most"]) fun _ _ _ _ _ _ us hl => len_2 us hl (fun _ _ => rfl)
  have g_is_whole := PySem.W.mg_of X G a_is_whole
  have F_are_whole := fun_mk (st := sAreWhole) l_are_whole c_are_whole k_are_whole
  have b_are_whole := F_are_whole.binds (ps := ["values", "most"]) fun _ _ _ _ _ _ us hl => len_2 us hl (fun _ _ => rfl)
  have g_are_whole := PySem.W.mg_of X G a_are_whole
  have F_check_yard := fun_mk (st := sCheck) l_check_yard c_check_yard k_check_yard
  have b_check_yard := F_check_yard.binds (ps := ["rooms", "waters"]) fun _ _ _ _ _ _ us hl => len_2 us hl (fun _ _ => rfl)
  have g_check_yard := PySem.W.mg_of X G a_check_yard
  have F_m_init := fun_mk (st := sInit) l_m_init c_m_init k_m_init
  have b_m_init := F_m_init.binds (ps := ["self", "rooms", "waters"]) fun _ _ _ _ _ _ us hl => len_3 us hl (fun _ _ _ => rfl)
  have M : Mk K C f_m_init := ⟨mk, a_m_init, i_m_init, kc⟩
  have F_m_rooms := fun_mk (st := sRooms) l_m_rooms c_m_rooms k_m_rooms
  have b_m_rooms := F_m_rooms.binds (ps := ["self"]) fun _ _ _ _ _ _ us hl => len_1 us hl (fun _ => rfl)
  have e_m_rooms : Meth K C "rooms" f_m_rooms := ⟨a_m_rooms, i_m_rooms, k_m_rooms⟩
  have F_m_waters := fun_mk (st := sWaters) l_m_waters c_m_waters k_m_waters
  have b_m_waters := F_m_waters.binds (ps := ["self"]) fun _ _ _ _ _ _ us hl => len_1 us hl (fun _ => rfl)
  have e_m_waters : Meth K C "waters" f_m_waters := ⟨a_m_waters, i_m_waters, k_m_waters⟩
  have F_read_number := fun_mk (st := sReadNumber) l_read_number c_read_number k_read_number
  have b_read_number := F_read_number.binds (ps := ["part"]) fun _ _ _ _ _ _ us hl => len_1 us hl (fun _ => rfl)
  have g_read_number := PySem.W.mg_of X G a_read_number
  have F_read_tank := fun_mk (st := sReadTank) l_read_tank c_read_tank k_read_tank
  have b_read_tank := F_read_tank.binds (ps := ["row"]) fun _ _ _ _ _ _ us hl => len_1 us hl (fun _ => rfl)
  have g_read_tank := PySem.W.mg_of X G a_read_tank
  have F_read := fun_mk (st := sRead) l_read c_read k_read
  have b_read := F_read.binds (ps := ["text"]) fun _ _ _ _ _ _ us hl => len_1 us hl (fun _ => rfl)
  have g_read := PySem.W.mg_of X G a_read
  have F_law_drawn := fun_mk (st := sDrawn) l_law_drawn c_law_drawn k_law_drawn
  have b_law_drawn := F_law_drawn.binds (ps := ["script", "k", "many"]) fun _ _ _ _ _ _ us hl => len_3 us hl (fun _ _ _ => rfl)
  have g_law_drawn := PySem.W.mg_of X G a_law_drawn
  have F_law_whole := fun_mk (st := sWhole) l_law_whole c_law_whole k_law_whole
  have b_law_whole := F_law_whole.binds (ps := ["found"]) fun _ _ _ _ _ _ us hl => len_1 us hl (fun _ => rfl)
  have g_law_whole := PySem.W.mg_of X G a_law_whole
  have F_law_row := fun_mk (st := sRow) l_law_row c_law_row k_law_row
  have b_law_row := F_law_row.binds (ps := ["found", "due"]) fun _ _ _ _ _ _ us hl => len_2 us hl (fun _ _ => rfl)
  have g_law_row := PySem.W.mg_of X G a_law_row
  have F_law_yard_by := fun_mk (st := sYardBy) l_law_yard_by c_law_yard_by k_law_yard_by
  have b_law_yard_by := F_law_yard_by.binds (ps := ["script", "base"]) fun _ _ _ _ _ _ us hl => len_2 us hl (fun _ _ => rfl)
  have g_law_yard_by := PySem.W.mg_of X G a_law_yard_by
  have F_law_number := fun_mk (st := sNumber) l_law_number c_law_number k_law_number
  have b_law_number := F_law_number.binds (ps := ["word"]) fun _ _ _ _ _ _ us hl => len_1 us hl (fun _ => rfl)
  have g_law_number := PySem.W.mg_of X G a_law_number
  have F_law_due := fun_mk (st := sDue) l_law_due c_law_due k_law_due
  have b_law_due := F_law_due.binds (ps := ["signs"]) fun _ _ _ _ _ _ us hl => len_1 us hl (fun _ => rfl)
  have g_law_due := PySem.W.mg_of X G a_law_due
  have F_law_sign_by := fun_mk (st := sSignBy) l_law_sign_by c_law_sign_by k_law_sign_by
  have b_law_sign_by := F_law_sign_by.binds (ps := ["script"]) fun _ _ _ _ _ _ us hl => len_1 us hl (fun _ => rfl)
  have g_law_sign_by := PySem.W.mg_of X G a_law_sign_by
  have F_law_odd := fun_mk (st := sOdd) l_law_odd c_law_odd k_law_odd
  have b_law_odd := F_law_odd.binds (ps := ["script"]) fun _ _ _ _ _ _ us hl => len_1 us hl (fun _ => rfl)
  have g_law_odd := PySem.W.mg_of X G a_law_odd
  have F_law_spoilt := fun_mk (st := sSpoilt) l_law_spoilt c_law_spoilt k_law_spoilt
  have b_law_spoilt := F_law_spoilt.binds (ps := ["script", "shown"]) fun _ _ _ _ _ _ us hl => len_2 us hl (fun _ _ => rfl)
  have g_law_spoilt := PySem.W.mg_of X G a_law_spoilt
  have F_law := fun_mk (st := sLaw) l_law c_law k_law
  have g_law := PySem.W.mg_of X G a_law
  refine ⟨PySem.W.fnOf "law" "law" (defArgs sLaw) (defBody sLaw) (defScope sLaw) .none kV_law dc_law pm_law an_law cd_law ct_law, fun s v => .of_eq rfl, fun base _ _ => ?_⟩
  have GCk := ok_ck (P := l.prog) (w := w) (base := base) F_check_yard T F_are_whole b_are_whole g_are_whole F_is_whole b_is_whole g_is_whole
  have GI := ok_in F_m_init T F_check_yard b_check_yard g_check_yard GCk
  have GRo := ok_ro (P := l.prog) (w := w) (base := base) F_m_rooms T
  have GWa := ok_wa (P := l.prog) (w := w) (base := base) F_m_waters T
  have GTk := ok_tk (P := l.prog) (w := w) (base := base) F_read_tank T F_read_number b_read_number g_read_number
  have GRd := ok_rd F_read T F_read_tank b_read_tank g_read_tank GTk M GI b_m_init
  have GSg := ok_sg (P := l.prog) (w := w) (base := base) F_law_sign_by T F_law_drawn b_law_drawn g_law_drawn
  have GOd := ok_od (P := l.prog) (w := w) (base := base) F_law_odd T F_law_drawn b_law_drawn g_law_drawn
  have GSp := ok_sp F_law_spoilt T F_law_drawn b_law_drawn g_law_drawn F_law_sign_by b_law_sign_by g_law_sign_by GSg F_law_odd b_law_odd g_law_odd GOd
  have GDu := ok_du (P := l.prog) (w := w) (base := base) F_law_due T F_law_number b_law_number g_law_number
  exact ok_lw F_law T F_law_yard_by b_law_yard_by g_law_yard_by (ok_yb F_law_yard_by T F_law_drawn b_law_drawn g_law_drawn) F_law_spoilt b_law_spoilt g_law_spoilt GSp F_law_due b_law_due g_law_due GDu F_read b_read g_read GRd
    F_law_row b_law_row g_law_row (ok_rw F_law_row T F_law_whole b_law_whole g_law_whole) e_m_rooms b_m_rooms GRo e_m_waters b_m_waters GWa
theorem walk {l : PySem.W.OpenLaw} {q : Program} {loose : List Str} {XP : (Str → Option Value) → Heap → Prop} {YP : World → Heap → Prop} {d : DefRec} {K : Params → PySem.W.Frag} (hn : l.most = some 63) (hdf : d.params.defaults = [])
    (hY : ∀ (w : World) (h : Heap), YP w h → (K w.params).In h)
    (F : ∀ (w : World) (mg : Str → Option Value) (fa : Addr) (h : Heap), (K w.params).In h → h.Ns mainGlobals mg → mg d.name = some (.ref fa) →
      ∃ fd : FuncData, (∀ (s : Shared) (u : Value), BindsTo s fd ⟨[u], []⟩ [("script", u)]) ∧ ∀ base : Heap, (K w.params).In base → base.Ns mainGlobals mg → FnOk l.prog w (K w.params) mg base CX0 7 fa fd ["script"] (spLaw (K w.params))) :
    PySem.W.WalkO q loose XP YP l.row.toRowW d [] (fun f vs => PySem.call f vs) :=
  L2.walk_of (n := 63) (k := 7) (x := "script") (CX := fun _ => CX0) (sp := fun w => spLaw (K w.params)) hn (by decide) hdf ⟨rfl, by decide, by decide⟩ hY F (fun _ _ a ns hl _ hS => ⟨a, ns, rfl, hS, hl, fun _ => rfl⟩) fun _ _ _ _ _ z => z
end Z
def PySem.W.Fast.tw13232940345899416476 : Unit := ()
def PySem.W.Fast.tw2075636071812744660 : Unit := ()
def PySem.W.Fast.tw11577652820584746795 : Unit := ()
def PySem.W.Fast.tw12928684318608587757 : Unit := ()
def PySem.W.Fast.tw8225042293078760126 : Unit := ()
def PySem.W.Fast.tw15349693187246536947 : Unit := ()
def PySem.W.Fast.tw4156790028082649252 : Unit := ()
def PySem.W.Fast.tw15610026075272333056 : Unit := ()
def PySem.W.Fast.tw199636083413516206 : Unit := ()
def PySem.W.Fast.tw17699920737574590323 : Unit := ()
def PySem.W.Fast.tw15067611535659677158 : Unit := ()
def PySem.W.Fast.tw16409133541465842935 : Unit := ()
def PySem.W.Fast.tw12104016110939213733 : Unit := ()
def PySem.W.Fast.tw11786384088554096059 : Unit := ()
def PySem.W.Fast.tw9231270663006752748 : Unit := ()
def PySem.W.Fast.tw4572018171063876218 : Unit := ()
def PySem.W.Fast.tw16234424257403579505 : Unit := ()
def PySem.W.Fast.tw13531503290299875118 : Unit := ()
def PySem.W.Fast.tw12985653129154728034 : Unit := ()
def PySem.W.Fast.tw18148022447891242284 : Unit := ()
def PySem.W.Fast.tw8023534317929072799 : Unit := ()
def PySem.W.Fast.tw586733514492980259 : Unit := ()
def PySem.W.Fast.tw11652371556436483602 : Unit := ()
def PySem.W.Fast.tw13464834300105609497 : Unit := ()
def PySem.W.Fast.tw15568033017746321305 : Unit := ()
def PySem.W.Fast.tw7016569750857958515 : Unit := ()
def PySem.W.Fast.tw9600764144216961545 : Unit := ()
def PySem.W.Fast.tw5072763905013114980 : Unit := ()
def PySem.W.Fast.tw16473063269315058572 : Unit := ()
def PySem.W.Fast.tw8522694618430864880 : Unit := ()
def PySem.W.Fast.tw12646896535015091418 : Unit := ()
def PySem.W.Fast.tw8807762258025019569 : Unit := ()
def PySem.W.Fast.tw4466660949753825934 : Unit := ()
def PySem.W.Fast.tw8345483579318877147 : Unit := ()
def PySem.W.Fast.tw13896966594520446139 : Unit := ()
def PySem.W.Fast.tw626856501538596075 : Unit := ()
def PySem.W.Fast.tw13921887670347114878 : Unit := ()
def PySem.W.Fast.tw646854764930989571 : Unit := ()
def PySem.W.Fast.tw12347753329038452746 : Unit := ()
def PySem.W.Fast.tw4828898408951823760 : Unit := ()
def PySem.W.Fast.tw8921638111836370080 : Unit := ()
def PySem.W.Fast.tw8860033550450775048 : Unit := ()
def PySem.W.Fast.tw1984428488088345106 : Unit := ()
def PySem.W.Fast.tw12611502479624494528 : Unit := ()
def PySem.W.Fast.tw4327657872413148156 : Unit := ()
def PySem.W.Fast.tw14065995837729114525 : Unit := ()
def PySem.W.Fast.tw1919388848876543864 : Unit := ()
def PySem.W.Fast.tw15516970741766506414 : Unit := ()
def PySem.W.Fast.tw6766143027546353615 : Unit := ()
def PySem.W.Fast.tw13028753594689763052 : Unit := ()
def PySem.W.Fast.tw12838128978199284432 : Unit := ()
def PySem.W.Fast.tw17271147023652252503 : Unit := ()
def PySem.W.Fast.tw11145763207076513744 : Unit := ()
def PySem.W.Fast.tw7088963058828826035 : Unit := ()
def PySem.W.Fast.tw16546022353089852147 : Unit := ()
def PySem.W.Fast.tw8875604881542640610 : Unit := ()
def PySem.W.Fast.tw16638766302365778389 : Unit := ()
def PySem.W.Fast.tw7072229850029302045 : Unit := ()
def PySem.W.Fast.tw8671251085150814413 : Unit := ()
def PySem.W.Fast.tw11139856164394954189 : Unit := ()
def PySem.W.Fast.tw1858779912399856679 : Unit := ()
def PySem.W.Fast.tw2926983548103893503 : Unit := ()
def PySem.W.Fast.tw13098787888155765082 : Unit := ()
def PySem.W.Fast.tw13722821650770348785 : Unit := ()
def PySem.W.Fast.tw6900858423252609780 : Unit := ()
def PySem.W.Fast.tw12264013076012662592 : Unit := ()
def PySem.W.Fast.tw11719637672678011651 : Unit := ()
def PySem.W.Fast.tw3286683761834764377 : Unit := ()
def PySem.W.Fast.tw3975889393526565602 : Unit := ()
def PySem.W.Fast.tw1069135325864520151 : Unit := ()
def PySem.W.Fast.tw16196427936154149828 : Unit := ()
def PySem.W.Fast.tw13190649397878346431 : Unit := ()
def PySem.W.Fast.tw1288605833546815269 : Unit := ()
def PySem.W.Fast.tw16288960014912435050 : Unit := ()
def PySem.W.Fast.tw5701849827865450349 : Unit := ()
def PySem.W.Fast.tw1368737120826897378 : Unit := ()
def PySem.W.Fast.tw11417272873116961204 : Unit := ()
def PySem.W.Fast.tw7333913094626196029 : Unit := ()
def PySem.W.Fast.tw9085758161814199432 : Unit := ()
def PySem.W.Fast.tw16800634669673914693 : Unit := ()
def PySem.W.Fast.tw6213984587592476206 : Unit := ()
def PySem.W.Fast.tw6253549626863002879 : Unit := ()
def PySem.W.Fast.tw5070593766344806047 : Unit := ()
def PySem.W.Fast.tw15944679092339700480 : Unit := ()
def PySem.W.Fast.tw13135307224818095872 : Unit := ()
def PySem.W.Fast.tw8410810873280355468 : Unit := ()
def PySem.W.Fast.tw10866375831136982723 : Unit := ()
def PySem.W.Fast.tw12140172220152981767 : Unit := ()
def PySem.W.Fast.tw16931897780256388722 : Unit := ()
def PySem.W.Fast.tw5049737406139940467 : Unit := ()
def PySem.W.Fast.tw9347089248348993020 : Unit := ()
def PySem.W.Fast.tw14185893364587225241 : Unit := ()
def PySem.W.Fast.tw6781731888391792493 : Unit := ()
def PySem.W.Fast.tw13655726100789132467 : Unit := ()
def PySem.W.Fast.tw10112831993048013803 : Unit := ()
def PySem.W.Fast.tw16157965408630640071 : Unit := ()
def PySem.W.Fast.tw15730811363013527968 : Unit := ()
def PySem.W.Fast.tw15432578712520081784 : Unit := ()
def PySem.W.Fast.tw2176811755162136402 : Unit := ()
def PySem.W.Fast.tw2540701560222415773 : Unit := ()
def PySem.W.Fast.tw10033694335000452657 : Unit := ()
def PySem.W.Fast.tw1681457601467541852 : Unit := ()
def PySem.W.Fast.tw8497804540909729643 : Unit := ()
def PySem.W.Fast.tw8869355875104275880 : Unit := ()
def PySem.W.Fast.tw13948590854011241912 : Unit := ()
def PySem.W.Fast.tw1884413253622785738 : Unit := ()
def PySem.W.Fast.tw3979542462457835454 : Unit := ()
def PySem.W.Fast.tw2022580834536389347 : Unit := ()
def PySem.W.Fast.tw692510094864568900 : Unit := ()
def PySem.W.Fast.tw5442027214028206772 : Unit := ()
def PySem.W.Fast.tw3010471230695096270 : Unit := ()
def PySem.W.Fast.tw15042437256461889793 : Unit := ()
def PySem.W.Fast.tw5918497239952302532 : Unit := ()
def PySem.W.Fast.tw12698172121188651286 : Unit := ()
def PySem.W.Fast.tw12923201889879344101 : Unit := ()
def PySem.W.Fast.tw10482966078550005580 : Unit := ()
def PySem.W.Fast.tw15587425616617696869 : Unit := ()
def PySem.W.Fast.tw7713917040514780644 : Unit := ()
def PySem.W.Fast.tw17774635138671448595 : Unit := ()
def PySem.W.Fast.tw12383228646692637058 : Unit := ()
def PySem.W.Fast.tw102030542088537909 : Unit := ()
def PySem.W.Fast.tw10816515871677491438 : Unit := ()
def PySem.W.Fast.tw10786371569173680822 : Unit := ()
def PySem.W.Fast.tw3657197921316723339 : Unit := ()
def PySem.W.Fast.tw1627799759114904957 : Unit := ()
def PySem.W.Fast.tw9924018803829240413 : Unit := ()
def PySem.W.Fast.tw16265290030221532003 : Unit := ()
def PySem.W.Fast.tw896645957360661623 : Unit := ()
def PySem.W.Fast.tw10585675488713598333 : Unit := ()
def PySem.W.Fast.tw4645639053137907670 : Unit := ()
def PySem.W.Fast.tw3009079277767519212 : Unit := ()
def PySem.W.Fast.tw6513843183157311097 : Unit := ()
def PySem.W.Fast.tw11583934556379106325 : Unit := ()
def PySem.W.Fast.tw11918767609607458380 : Unit := ()
def PySem.W.Fast.tw8777150376885416293 : Unit := ()
def PySem.W.Fast.tw9940596757732709479 : Unit := ()
def PySem.W.Fast.tw14830738830363600293 : Unit := ()
def PySem.W.Fast.tw15415949692521493441 : Unit := ()
def PySem.W.Fast.tw3156226088939454118 : Unit := ()
def PySem.W.Fast.tw1045294852795734988 : Unit := ()
def PySem.W.Fast.tw14877507084250671625 : Unit := ()
def PySem.W.Fast.tw4202822243476379521 : Unit := ()
def PySem.W.Fast.tw17014584813353722579 : Unit := ()
def PySem.W.Fast.tw6514209268532757156 : Unit := ()
def PySem.W.Fast.tw2864924695872591484 : Unit := ()
def PySem.W.Fast.tw5104388548826382294 : Unit := ()
def PySem.W.Fast.tw1922717236237227510 : Unit := ()
def PySem.W.Fast.tw1264556109469344504 : Unit := ()
def PySem.W.Fast.tw1171309572624206931 : Unit := ()
def PySem.W.Fast.tw2529914672537175257 : Unit := ()
def PySem.W.Fast.tw847791530324138630 : Unit := ()
def PySem.W.Fast.tw11891252974126894700 : Unit := ()
def PySem.W.Fast.tw2493169558111911387 : Unit := ()
def PySem.W.Fast.tw12363819851012578254 : Unit := ()
def PySem.W.Fast.tw15865417479650766907 : Unit := ()
def PySem.W.Fast.tw16800601894104591225 : Unit := ()
def PySem.W.Fast.tw15295736635014278733 : Unit := ()
def PySem.W.Fast.tw1614535588546878614 : Unit := ()
def PySem.W.Fast.tw17534033336266742641 : Unit := ()
def PySem.W.Fast.tw8753291307789308925 : Unit := ()
def PySem.W.Fast.tw15164760143885008302 : Unit := ()
def PySem.W.Fast.tw2021829986204057820 : Unit := ()
def PySem.W.Fast.tw942845737875257931 : Unit := ()
def PySem.W.Fast.tw3345350090106321891 : Unit := ()
def PySem.W.Fast.tw10830757999436374384 : Unit := ()
def PySem.W.Fast.tw9017987648503471751 : Unit := ()
def PySem.W.Fast.tw11908935146489463600 : Unit := ()
def PySem.W.Fast.tw4945163791947992918 : Unit := ()
def PySem.W.Fast.tw16058099371383085331 : Unit := ()
def PySem.W.Fast.tw3865983479288693063 : Unit := ()
def PySem.W.Fast.tw12251533392696074329 : Unit := ()
def PySem.W.Fast.tw10151118570242452440 : Unit := ()
def PySem.W.Fast.tw9377826159900433264 : Unit := ()
def PySem.W.Fast.tw5570213807373559648 : Unit := ()
def PySem.W.Fast.tw12445417576650478725 : Unit := ()
def PySem.W.Fast.tw15601094993882905645 : Unit := ()
def PySem.W.Fast.tw9596957486263119760 : Unit := ()
def PySem.W.Fast.tw15090769973599786249 : Unit := ()
def PySem.W.Fast.tw9867526052752462551 : Unit := ()
def PySem.W.Fast.tw12759902859642619511 : Unit := ()
def PySem.W.Fast.tw16959367701377655822 : Unit := ()
def PySem.W.Fast.tw15151059882404705865 : Unit := ()
def PySem.W.Fast.tw17343084074714594170 : Unit := ()
def PySem.W.Fast.tw16859380487227002469 : Unit := ()
def PySem.W.Fast.tw1978133313902391804 : Unit := ()
def PySem.W.Fast.tw12242207957338855637 : Unit := ()
def PySem.W.Fast.tw10911150794299187679 : Unit := ()
def PySem.W.Fast.tw17102112396445879259 : Unit := ()
def PySem.W.Fast.tw7628065988596648453 : Unit := ()
def PySem.W.Fast.tw1073863290355476525 : Unit := ()
def PySem.W.Fast.tw9301709262088460132 : Unit := ()
def PySem.W.Fast.tw4914316445268816156 : Unit := ()
def PySem.W.Fast.tw14646703121925614931 : Unit := ()
def PySem.W.Fast.tw11872729505493569557 : Unit := ()
def PySem.W.Fast.tw2152136927053931374 : Unit := ()
def PySem.W.Fast.tw16202036244350673490 : Unit := ()
def PySem.W.Fast.tw18306140914664846686 : Unit := ()
def PySem.W.Fast.tw8872422690537995161 : Unit := ()
def PySem.W.Fast.tw8797828022626918776 : Unit := ()
def PySem.W.Fast.tw13432363144336939610 : Unit := ()
def PySem.W.Fast.tw17534534759150169880 : Unit := ()
def PySem.W.Fast.tw8601090413385963623 : Unit := ()
def PySem.W.Fast.tw11072772836303537829 : Unit := ()
def PySem.W.Fast.tw12286661989384988805 : Unit := ()
def PySem.W.Fast.tw4672124561789132649 : Unit := ()
def PySem.W.Fast.tw16405219262996500274 : Unit := ()
def PySem.W.Fast.tw3724273469933714220 : Unit := ()
def PySem.W.Fast.tw17431953596123178671 : Unit := ()
def PySem.W.Fast.tw8776579125013099357 : Unit := ()
def PySem.W.Fast.tw15196935328961709541 : Unit := ()
def PySem.W.Fast.tw16237857226224429138 : Unit := ()
def PySem.W.Fast.tw8990800680170143391 : Unit := ()
def PySem.W.Fast.tw15891636271652219620 : Unit := ()
def PySem.W.Fast.tw14267380394766897857 : Unit := ()
def PySem.W.Fast.tw18119251357454638324 : Unit := ()
def PySem.W.Fast.tw13137350185126231596 : Unit := ()
def PySem.W.Fast.tw2805060887338282314 : Unit := ()
def PySem.W.Fast.tw2678251389009909902 : Unit := ()
def PySem.W.Fast.tw4101199428717620646 : Unit := ()
def PySem.W.Fast.tw4787723759998537856 : Unit := ()
def PySem.W.Fast.tw14479150945350883514 : Unit := ()
def PySem.W.Fast.tw5685238797736474885 : Unit := ()
def PySem.W.Fast.tw17714929052503098696 : Unit := ()
def PySem.W.Fast.tw5595888931634832472 : Unit := ()
def PySem.W.Fast.tw1791174188788168960 : Unit := ()
def PySem.W.Fast.tw15845125223261017827 : Unit := ()
def PySem.W.Fast.tw3346223860677293069 : Unit := ()
def PySem.W.Fast.tw11899578538327383091 : Unit := ()
def PySem.W.Fast.tw15940569986229713135 : Unit := ()
def PySem.W.Fast.tw18313159422842544565 : Unit := ()
def PySem.W.Fast.tw5646022767028333879 : Unit := ()
def PySem.W.Fast.tw6690684724892903222 : Unit := ()
def PySem.W.Fast.tw9769174170148389821 : Unit := ()
def PySem.W.Fast.tw3847038934582415432 : Unit := ()
def PySem.W.Fast.tw8921545485716558802 : Unit := ()
def PySem.W.Fast.tw9094294784029558319 : Unit := ()
def PySem.W.Fast.tw2145586863500352752 : Unit := ()
def PySem.W.Fast.tw18281758105690848307 : Unit := ()
open PySem PySem.W PyProof.Rows
set_option maxRecDepth 100000 in
set_option maxHeartbeats 0 in
theorem PySem.Challenge.cw_cisternyard_k13_texts_refused_holds : PySem.Challenge.rw_cisternyard_k13_texts_refused.Holds := by
  w_on; o_law; k_head; (case hw => w_witness2)
  k_fill
  refine Z.walk (l := PySem.Challenge.rw_cisternyard_k13_texts_refused) rfl rfl (fun w h Y => PySem.W.kIn_of Y) ?F
  case F =>
    intro w mg fa h KX G hmg
    refine' Z.all_mk  KX G hmg ?aC ?acY ?acB ?acD ?acL ?acT ?a_m50 ?a_m4 ?a_m30 ?a_is_whole ?l_is_whole ?c_is_whole ?k_is_whole ?a_are_whole ?l_are_whole ?c_are_whole ?k_are_whole ?a_check_yard ?l_check_yard ?c_check_yard ?k_check_yard ?a_m_init ?i_m_init ?l_m_init ?c_m_init ?k_m_init ?a_m_rooms ?i_m_rooms ?l_m_rooms ?c_m_rooms ?k_m_rooms ?a_m_waters ?i_m_waters ?l_m_waters ?c_m_waters ?k_m_waters ?a_read_number ?l_read_number ?c_read_number ?k_read_number ?a_read_tank ?l_read_tank ?c_read_tank ?k_read_tank ?a_read ?l_read ?c_read ?k_read ?a_law_drawn ?l_law_drawn ?c_law_drawn ?k_law_drawn ?a_law_whole ?l_law_whole ?c_law_whole ?k_law_whole ?a_law_row ?l_law_row ?c_law_row ?k_law_row ?a_law_yard_by ?l_law_yard_by ?c_law_yard_by ?k_law_yard_by ?a_law_number ?l_law_number ?c_law_number ?k_law_number ?a_law_due ?l_law_due ?c_law_due ?k_law_due ?a_law_sign_by ?l_law_sign_by ?c_law_sign_by ?k_law_sign_by ?a_law_odd ?l_law_odd ?c_law_odd ?k_law_odd ?a_law_spoilt ?l_law_spoilt ?c_law_spoilt ?k_law_spoilt ?a_law ?l_law ?c_law ?k_law ?pg ?hd ?po ?sa ?nS ?nL ?yB ?yD ?yL ?yT ?xclT ?xgaT ?xghT ?xcaT ?xgtT ?xtkT ?xmoT ?xmbT ?xeT ?iTB ?iTD ?iTL ?iTT ?iTV ?xeBB ?z_len ?z_range ?z_isi ?z_list ?z_all ?z_any ?z_zip ?z_int ?z_bool ?z_ve ?z_min ?z_tup ?z_max ?z_sum ?z_enu ?z_str ?ki ?kib ?kll ?ktt ?kbb ?kss ?mk ?kc
    (case aC => k_is)
    (case acY => k_is)
    (case acB => k_is)
    (case acD => k_is)
    (case acL => k_is)
    (case acT => k_is)
    (case a_m50 => k_is)
    (case a_m4 => k_is)
    (case a_m30 => k_is)
    (case a_is_whole => k_is)
    (case l_is_whole => k_is)
    (case c_is_whole => k_is)
    (case k_is_whole => k_is)
    (case a_are_whole => k_is)
    (case l_are_whole => k_is)
    (case c_are_whole => k_is)
    (case k_are_whole => k_is)
    (case a_check_yard => k_is)
    (case l_check_yard => k_is)
    (case c_check_yard => k_is)
    (case k_check_yard => k_is)
    (case a_m_init => k_is)
    (case i_m_init => k_is)
    (case l_m_init => k_is)
    (case c_m_init => k_is)
    (case k_m_init => k_is)
    (case a_m_rooms => k_is)
    (case i_m_rooms => k_is)
    (case l_m_rooms => k_is)
    (case c_m_rooms => k_is)
    (case k_m_rooms => k_is)
    (case a_m_waters => k_is)
    (case i_m_waters => k_is)
    (case l_m_waters => k_is)
    (case c_m_waters => k_is)
    (case k_m_waters => k_is)
    (case a_read_number => k_is)
    (case l_read_number => k_is)
    (case c_read_number => k_is)
    (case k_read_number => k_is)
    (case a_read_tank => k_is)
    (case l_read_tank => k_is)
    (case c_read_tank => k_is)
    (case k_read_tank => k_is)
    (case a_read => k_is)
    (case l_read => k_is)
    (case c_read => k_is)
    (case k_read => k_is)
    (case a_law_drawn => k_is)
    (case l_law_drawn => k_is)
    (case c_law_drawn => k_is)
    (case k_law_drawn => k_is)
    (case a_law_whole => k_is)
    (case l_law_whole => k_is)
    (case c_law_whole => k_is)
    (case k_law_whole => k_is)
    (case a_law_row => k_is)
    (case l_law_row => k_is)
    (case c_law_row => k_is)
    (case k_law_row => k_is)
    (case a_law_yard_by => k_is)
    (case l_law_yard_by => k_is)
    (case c_law_yard_by => k_is)
    (case k_law_yard_by => k_is)
    (case a_law_number => k_is)
    (case l_law_number => k_is)
    (case c_law_number => k_is)
    (case k_law_number => k_is)
    (case a_law_due => k_is)
    (case l_law_due => k_is)
    (case c_law_due => k_is)
    (case k_law_due => k_is)
    (case a_law_sign_by => k_is)
    (case l_law_sign_by => k_is)
    (case c_law_sign_by => k_is)
    (case k_law_sign_by => k_is)
    (case a_law_odd => k_is)
    (case l_law_odd => k_is)
    (case c_law_odd => k_is)
    (case k_law_odd => k_is)
    (case a_law_spoilt => k_is)
    (case l_law_spoilt => k_is)
    (case c_law_spoilt => k_is)
    (case k_law_spoilt => k_is)
    (case a_law => k_is)
    (case l_law => k_is)
    (case c_law => k_is)
    (case k_law => k_is)
    (case pg => k_is)
    (case hd => k_is)
    (case po => k_is)
    (case sa => k_is)
    (case nS => k_is)
    (case nL => k_is)
    (case yB => k_exc)
    (case yD => k_exc)
    (case yL => k_exc)
    (case yT => k_exc)
    (case xclT => k_is)
    (case xgaT => k_is)
    (case xghT => k_is)
    (case xcaT => k_is)
    (case xgtT => k_is)
    (case xtkT => k_is)
    (case xmoT => k_is)
    (case xmbT => k_is)
    (case xeT => kts_exm)
    (case iTB => kit_is)
    (case iTD => kit_is)
    (case iTL => kit_is)
    (case iTT => kit_is)
    (case iTV => kit_is)
    (case xeBB => kts_exm)
    (case z_len => k_is)
    (case z_range => k_is)
    (case z_isi => k_is)
    (case z_list => k_is)
    (case z_all => k_is)
    (case z_any => k_is)
    (case z_zip => k_is)
    (case z_int => k_is)
    (case z_bool => k_is)
    (case z_ve => k_is)
    (case z_min => k_is)
    (case z_tup => k_is)
    (case z_max => k_is)
    (case z_sum => k_is)
    (case z_enu => k_is)
    (case z_str => k_is)
    (case ki => kit_is)
    (case kib => kit_is)
    (case kll => kit_is)
    (case ktt => kit_is)
    (case kbb => kit_is)
    (case kss => kit_is)
    (case mk => k_is)
    (case kc => k_is)
