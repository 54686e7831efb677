import PyProof.Rows.All
import Wide.All
import OpenK.AllK
import Wide.FinOn
import Lean
import PyProof.EqAt
import PyProof.EqKinds
import PyProof.TupleCall
import PySem.Challenge.RW_twinwalk_k56_programs_with_picks
set_option Elab.async false
set_option linter.all false
set_option maxRecDepth 100000
/-! THE HAND LAYER, for ints, bools, texts, own classes, LISTS and tuples (index, slices, in, append, pop ..), calls, loops. Paste it whole ahead of your own text; what your proof does not reach may be deleted. -/
namespace L2
open PySem PySem.Spec PyProof.Rows

/-- a key: an int or a str -/
abbrev Key := Sum Int Str
def keyIs : Key → Value → Bool
  | .inl k, v => Value.isInt k v
  | .inr x, v => Value.isStrOf x v
def keyH (w : World) : Key → Int
  | .inl k => hashInt k
  | .inr x => hashStr w x
theorem keyIs_shape : ∀ {k : Key} {v : Value}, keyIs k v = true → (∃ i t, k = Sum.inl i ∧ v = Value.int i t) ∨ (∃ x t, k = Sum.inr x ∧ v = Value.str x t)
  | .inl i, v, h => by
    obtain ⟨t, e⟩ := Value.isInt_shape (k := i) (v := v) h
    exact .inl ⟨i, t, rfl, e⟩
  | .inr x, v, h => by
    obtain ⟨t, e⟩ := Value.isStrOf_shape (x := x) (v := v) h
    exact .inr ⟨x, t, rfl, e⟩
theorem keyIs_int (i : Int) (t : Tok) : keyIs (.inl i) (.int i t) = true := by simp [keyIs, Value.isInt]
theorem keyIs_str (x : Str) (t : Tok) : keyIs (.inr x) (.str x t) = true := by simp [keyIs, Value.isStrOf]
theorem key_ll (a b : Int) : decide ((Sum.inl a : Key) = Sum.inl b) = (a == b) := by
  by_cases e : a = b
  · subst e; simp
  · have h : ¬ (Sum.inl a : Key) = Sum.inl b := fun q => e (Sum.inl.inj q)
    rw [decide_eq_false h]
    exact (beq_eq_false_iff_ne.mpr e).symm
theorem key_rr (a b : Str) : decide ((Sum.inr a : Key) = Sum.inr b) = decide (a = b) := by
  by_cases e : a = b
  · subst e; simp
  · have h : ¬ (Sum.inr a : Key) = Sum.inr b := fun q => e (Sum.inr.inj q)
    rw [decide_eq_false h, decide_eq_false e]
theorem key_lr (a : Int) (b : Str) : decide ((Sum.inl a : Key) = Sum.inr b) = false := decide_eq_false (fun q => nomatch q)
theorem key_rl (a : Str) (b : Int) : decide ((Sum.inr a : Key) = Sum.inl b) = false := decide_eq_false (fun q => nomatch q)

def mixKind (prog : Program) (w : World) : PySem.KeyKind prog w Key where
  is := keyIs
  hash := keyH w
  inj := fun v a b ha hb => by
    rcases keyIs_shape ha with ⟨i, t, rfl, rfl⟩ | ⟨x, t, rfl, rfl⟩
    · rcases keyIs_shape hb with ⟨j, u, rfl, e⟩ | ⟨y, u, rfl, e⟩
      · injection e with e1 _; rw [e1]
      · exact nomatch e
    · rcases keyIs_shape hb with ⟨j, u, rfl, e⟩ | ⟨y, u, rfl, e⟩
      · exact nomatch e
      · injection e with e1 _; rw [e1]
  byValue := fun k v h => by
    rcases keyIs_shape h with ⟨i, t, rfl, rfl⟩ | ⟨x, t, rfl, rfl⟩ <;> rfl
  pyHash := fun hv h => by
    rcases keyIs_shape hv with ⟨i, t, rfl, rfl⟩ | ⟨x, t, rfl, rfl⟩
    · exact wpAny_pyHash_int h
    · exact wpAny_pyHash_str h
  eqBool := fun hu hv h => by
    rcases keyIs_shape hu with ⟨i, t, rfl, rfl⟩ | ⟨x, t, rfl, rfl⟩
    · rcases keyIs_shape hv with ⟨j, u, rfl, rfl⟩ | ⟨y, u, rfl, rfl⟩
      · rw [key_ll] at h; exact wpAny_eqBool_int h
      · rw [key_lr] at h; exact SeqAt.EqAt.int_str i t y u _ _ _ _ h
    · rcases keyIs_shape hv with ⟨j, u, rfl, rfl⟩ | ⟨y, u, rfl, rfl⟩
      · rw [key_rl] at h; exact SeqAt.EqAt.str_int x t j u _ _ _ _ h
      · rw [key_rr] at h; exact wpAny_eqBool_str h
  «strs» := fun k x t v h => by
    rcases keyIs_shape h with ⟨i, u, rfl, e⟩ | ⟨y, u, rfl, e⟩
    · exact nomatch e
    · injection e with e1 _
      subst e1
      cases v <;> rfl

theorem mixKind_int (prog : Program) (w : World) (i : Int) (t : Tok) : (mixKind prog w).is (.inl i) (.int i t) = true := keyIs_int i t
theorem mixKind_str (prog : Program) (w : World) (x : Str) (t : Tok) : (mixKind prog w).is (.inr x) (.str x t) = true := keyIs_str x t
end L2

namespace L2
open PySem PySem.Spec PyProof.Rows

/-- a value, without the heap -/
inductive V where
  | non | bl (b : Bool) | int (i : Int) | str (x : Str) | byt (b : Array UInt8) | flt (b : UInt64) | ref (a : Addr) | ty (n : String)
  deriving DecidableEq

def RelV : V → Value → Prop
  | .non, u => u = Value.none
  | .bl b, u => u = Value.bool b
  | .int i, u => ∃ t, u = Value.int i t
  | .str x, u => ∃ t, u = Value.str x t
  | .byt b, u => ∃ t, u = Value.bytes b t
  | .flt b, u => ∃ t, u = Value.float b t
  | .ref a, u => u = Value.ref a
  | .ty n, u => u = Value.type n

abbrev Vals : List V → List Value → Prop := Paired RelV
theorem Vals.length {xs : List V} {us : List Value} (r : Vals xs us) : xs.length = us.length := Paired.length r
theorem Vals.get : ∀ {xs : List V} {us : List Value} {i : Nat} {x : V}, Vals xs us → xs[i]? = some x → ∃ u, us[i]? = some u ∧ RelV x u
  | _, _, _, _, .nil, e => by simp at e
  | _, _, 0, _, .cons r _, e => by simp at e; subst e; exact ⟨_, rfl, r⟩
  | _, _, i + 1, x, .cons _ t, e => by
    obtain ⟨u, h1, h2⟩ := Vals.get (i := i) (x := x) t (by simpa using e)
    exact ⟨u, by simpa using h1, h2⟩
theorem Vals.set {x : V} {u : Value} (r : RelV x u) : ∀ {xs : List V} {us : List Value} (i : Nat), Vals xs us → Vals (xs.set i x) (us.set i u)
  | _, _, _, .nil => .nil
  | _, _, 0, .cons _ t => .cons r t
  | _, _, i + 1, .cons q t => .cons q (Vals.set r i t)
theorem Vals.append : ∀ {xs ys : List V} {us ws : List Value}, Vals xs us → Vals ys ws → Vals (xs ++ ys) (us ++ ws)
  | _, _, _, _, .nil, s => s
  | _, _, _, _, .cons r t, s => .cons r (Vals.append t s)
theorem Vals.take : ∀ {xs : List V} {us : List Value} (n : Nat), Vals xs us → Vals (xs.take n) (us.take n)
  | _, _, 0, _ => .nil
  | _, _, _ + 1, .nil => .nil
  | _, _, n + 1, .cons r t => .cons r (Vals.take n t)
theorem Vals.drop : ∀ {xs : List V} {us : List Value} (n : Nat), Vals xs us → Vals (xs.drop n) (us.drop n)
  | _, _, 0, r => r
  | _, _, _ + 1, .nil => .nil
  | _, _, n + 1, .cons _ t => Vals.drop n t
def RelO : Option V → Option Value → Prop
  | some v, some u => RelV v u
  | none, none => True
  | _, _ => False
def KV {κ : Type} : List (κ × V) → List (κ × Value) → Prop := Paired fun (p : κ × V) (q : κ × Value) => p.1 = q.1 ∧ RelV p.2 q.2

/-- a key of a dict (00_mix): an int or a text -/
def kV : Key → V
  | .inl i => .int i
  | .inr x => .str x

/-- what stands at a tracked address -/
inductive HO where
  /-- a list -/
  | lst (xs : List V)
  /-- a tuple (never changes) -/
  | tup (xs : List V)
  /-- a dict whose keys are ints and texts; one whose keys are tuples of ints and texts (the empty one is both) -/
  | dK (kvs : List (Key × V)) | dT (kvs : List (List Key × V))
  /-- a set of ints: its members, its size -/
  | set (S : Int → Bool) (n : Nat)
  /-- an instance of the class at C, its dict at dx, its attributes -/
  | ins (C dx : Addr) (fs : List (Str × V))
  /-- the dict of the instance at x -/
  | own (x : Addr)
  /-- the dict of an exception -/
  | xd (fs : List (Str × V))
  /-- a bound method, f of x -/
  | met (f x : Addr)
  /-- a range object lo, lo + 1, .. below hi -/
  | rng (lo hi : Int)
  /-- a thing that is known to the object (the script; a dict while a loop walks it): read, never written while it is so -/
  | frz (o : Obj) (u : HO)
  /-- a code object's table -/
  | tbl (ps : Array Value)
  /-- any other thing, by what is true of its one object (a def of one's own: SetO a S n := HO.ext fun h => ..) -/
  | ext (φ : Heap → Prop)

abbrev Hp := Addr → Option HO
def upd (H : Hp) (a : Addr) (o : HO) : Hp := fun b => if b = a then some o else H b
theorem upd_same {H : Hp} {a : Addr} {o : HO} : upd H a o a = some o := by unfold upd; rw [if_pos rfl]
theorem upd_ne {H : Hp} {a b : Addr} {o : HO} (h : b ≠ a) : upd H a o b = H b := by unfold upd; rw [if_neg h]
theorem upd_upd {H : Hp} {a : Addr} {o u : HO} : upd (upd H a o) a u = upd H a u := by
  funext b; unfold upd; split <;> rfl
/-- two objects of different content stand apart -/
theorem ne_of {H : Hp} {a b : Addr} {o u : HO} (h : H a = some o) (h' : H b = some u) (d : o ≠ u) : a ≠ b := by
  intro e; subst e; rw [h] at h'; exact d (Option.some.inj h')
theorem ne_of_none {H : Hp} {a b : Addr} {o : HO} (h : H a = some o) (h' : H b = none) : a ≠ b := by
  intro e; subst e; rw [h] at h'; cases h'

section
variable (P : Program) (w : World)
def ObjOk (H : Hp) (h : Heap) (a : Addr) : HO → Prop
  | .lst xs => xs.length ≤ sizeLine ∧ ∃ (its : List Value) (n : Nat), Vals xs its ∧ h.get? a = some { cls := .type "list", data := .seq its.toArray n }
  | .tup xs => xs.length ≤ sizeLine ∧ ∃ its : List Value, Vals xs its ∧ IsTup h a its.toArray
  | .dK kvs => kvs.length ≤ sizeLine ∧ (a == sysModules) = false ∧ ∃ vs, KV kvs vs ∧ h.DictOf (mixKind P w) a vs
  | .dT kvs => kvs.length ≤ sizeLine ∧ (a == sysModules) = false ∧ ∃ xs : List (List Key × Addr × Value),
      Paired (fun (p : List Key × V) (q : List Key × Addr × Value) => p.1 = q.1 ∧ H q.2.1 = some (.tup (p.1.map kV)) ∧ RelV p.2 q.2.2) kvs xs ∧
      ∃ o es ep, h.get? a = some o ∧ o.ExactDict ∧ o.data = .dict es ep ∧ es.toList = xs.map (entryOfKey (tupleKind (mixKind P w))) ∧ (xs.map (·.1)).Nodup
  | .set S n => h.SetOf (intKind P w) a S n
  | .ins C dx fs => H dx = some (.own a) ∧ fs.length ≤ 1000 ∧ dx ≠ a ∧ h.get? a = some (PySem.W.instObj C dx) ∧
      ∃ mA, h.Ns1 dx mA ∧ (∀ f, RelO (fs.lookup f) (mA f)) ∧ PySem.Within mA (fs.map (·.1))
  | .own _ => ∃ o, h.get? a = some o
  | .xd fs => ∃ mA, h.Ns1 a mA ∧ ∀ f, RelO (fs.lookup f) (mA f)
  | .rng lo hi => ∃ t u v, h.get? a = some { cls := .type "range", data := .fields #[.int lo t, .int hi u, .int 1 v] }
  | .frz o u => h.get? a = some o ∧ ObjOk H h a u
  | .tbl ps => h.get? a = some { cls := .none, data := .fields ps }
  | .met f x => h.get? a = some (PySem.W.methodObj (.ref f) (.ref x))
  | .ext φ => φ h ∧ (∃ o, h.get? a = some o) ∧ ∀ h1 h2 : Heap, φ h1 → (∀ o, h1.get? a = some o → h2.get? a = some o) → φ h2
/-- the abstract heap is held -/
def HOk (H : Hp) (h : Heap) : Prop := ∀ a o, H a = some o → ObjOk P w H h a o
end

section
variable {P : Program} {w : World} {H H' : Hp} {h h' : Heap} {a : Addr} {o : HO}
theorem ObjOk.lt (x : ObjOk P w H h a o) : a < h.objs.size := by
  cases o with
  | lst xs => obtain ⟨_, _, _, _, e⟩ := x; exact Heap.lt_size e
  | tup xs => obtain ⟨_, _, _, p⟩ := x; exact p.lt
  | dK kvs => obtain ⟨_, _, _, _, o, _, _, e, _⟩ := x; exact Heap.lt_size e
  | dT kvs => obtain ⟨_, _, _, _, o, _, _, e, _⟩ := x; exact Heap.lt_size e
  | set S n => obtain ⟨o, _, _, _, e, _⟩ := x; exact Heap.lt_size e
  | ins C dx fs => obtain ⟨_, _, _, e, _⟩ := x; exact Heap.lt_size e
  | own y => obtain ⟨_, e⟩ := x; exact Heap.lt_size e
  | xd fs => obtain ⟨_, ⟨_, _, _, e, _⟩, _⟩ := x; exact Heap.lt_size e
  | rng lo hi => obtain ⟨_, _, _, e⟩ := x; exact Heap.lt_size e
  | frz ob u => obtain ⟨e, _⟩ := x; exact Heap.lt_size e
  | tbl ps => exact Heap.lt_size (show h.get? a = some _ from x)
  | met f y => exact Heap.lt_size (show h.get? a = some _ from x)
  | ext φ => obtain ⟨_, ⟨_, e⟩, _⟩ := x; exact Heap.lt_size e
theorem Paired.mapP {α β : Type} {F G : α → β → Prop} : ∀ {l₁ : List α} {l₂ : List β}, Paired F l₁ l₂ → (∀ a b, F a b → G a b) → Paired G l₁ l₂
  | _, _, .nil, _ => .nil
  | _, _, .cons r t, f => .cons (f _ _ r) (Paired.mapP t f)
/-- what an object's description leans on: its own object, its own dict, the tuples -/
theorem ObjOk.stay (x : ObjOk P w H h a o) (k : ∀ b u, (b = a ∨ H b = some (.own a)) → h.get? b = some u → h'.get? b = some u)
    (ho : ∀ b, H b = some (.own a) → H' b = some (.own a)) (ht : ∀ b xs, H b = some (.tup xs) → H' b = some (.tup xs)) : ObjOk P w H' h' a o := by
  induction o with
  | lst xs => obtain ⟨z, its, n, r, e⟩ := x; exact ⟨z, its, n, r, k _ _ (.inl rfl) e⟩
  | tup xs => obtain ⟨z, its, r, ob, e, c⟩ := x; exact ⟨z, its, r, ob, k _ _ (.inl rfl) e, c⟩
  | dK kvs => obtain ⟨z, y, vs, r, ob, es, ep, e, c⟩ := x; exact ⟨z, y, vs, r, ob, es, ep, k _ _ (.inl rfl) e, c⟩
  | dT kvs =>
    obtain ⟨z, y, xs, r, ob, es, ep, e, c⟩ := x
    exact ⟨z, y, xs, Paired.mapP r fun p q z => ⟨z.1, ht _ _ z.2.1, z.2.2⟩, ob, es, ep, k _ _ (.inl rfl) e, c⟩
  | set S n => obtain ⟨ob, es, ep, t, e, c⟩ := x; exact ⟨ob, es, ep, t, k _ _ (.inl rfl) e, c⟩
  | ins C dx fs =>
    obtain ⟨d, z, ne, e, mA, ⟨od, es, ep, e2, c⟩, r⟩ := x
    exact ⟨ho _ d, z, ne, k _ _ (.inl rfl) e, mA, ⟨od, es, ep, k _ _ (.inr d) e2, c⟩, r⟩
  | own y => obtain ⟨ob, e⟩ := x; exact ⟨ob, k _ _ (.inl rfl) e⟩
  | xd fs => obtain ⟨mA, ⟨od, es, ep, e, c⟩, r⟩ := x; exact ⟨mA, ⟨od, es, ep, k _ _ (.inl rfl) e, c⟩, r⟩
  | rng lo hi => obtain ⟨t, u, v, e⟩ := x; exact ⟨t, u, v, k _ _ (.inl rfl) e⟩
  | frz ob u ih => obtain ⟨e, q⟩ := x; exact ⟨k _ _ (.inl rfl) e, ih q⟩
  | tbl ps =>
    have e : h.get? a = some { cls := .none, data := .fields ps } := x
    show h'.get? a = some { cls := .none, data := .fields ps }
    exact k a _ (.inl rfl) e
  | met f y =>
    have e : h.get? a = some (PySem.W.methodObj (.ref f) (.ref y)) := x
    show h'.get? a = some (PySem.W.methodObj (.ref f) (.ref y))
    exact k a _ (.inl rfl) e
  | ext φ => obtain ⟨p, ⟨o, e⟩, st⟩ := x; exact ⟨st _ _ p fun o q => k _ _ (.inl rfl) q, ⟨o, k _ _ (.inl rfl) e⟩, st⟩
theorem HOk.lt (x : HOk P w H h) (e : H a = some o) : a < h.objs.size := (x a o e).lt
theorem HOk.fresh (x : HOk P w H h) (e : h.objs.size ≤ a) : H a = none := by
  cases q : H a with
  | none => rfl
  | some u => exact absurd (Nat.lt_of_lt_of_le (x.lt q) e) (Nat.lt_irrefl _)
/-- every object of the heap is kept -/
theorem HOk.kept (x : HOk P w H h) (k : ∀ b u, h.get? b = some u → h'.get? b = some u) : HOk P w H h' := fun a o e =>
  (x a o e).stay (fun b u _ q => k b u q) (fun _ q => q) fun _ _ q => q
/-- a new object is laid and tracked -/
theorem HOk.laid (x : HOk P w H h) (k : ∀ b u, h.get? b = some u → h'.get? b = some u) (hp : h.objs.size ≤ a) (new : ObjOk P w (upd H a o) h' a o) : HOk P w (upd H a o) h' := fun b u e => by
  have hn := x.fresh hp
  by_cases hb : b = a
  · subst hb; rw [upd_same] at e; cases e; exact new
  · rw [upd_ne hb] at e
    exact (x b u e).stay (fun c v _ q => k c v q) (fun c q => by rw [upd_ne (ne_of_none q hn)]; exact q) fun c xs q => by rw [upd_ne (ne_of_none q hn)]; exact q
end

/-- what may be read as u: it is u, or a known u -/
def Rd (H : Hp) (a : Addr) (u : HO) : Prop := H a = some u ∨ ∃ o, H a = some (.frz o u)
theorem Rd.ok {P : Program} {w : World} {H : Hp} {h : Heap} {a : Addr} {u : HO} (r : Rd H a u) (x : HOk P w H h) : ObjOk P w H h a u := by
  rcases r with r | ⟨o, r⟩
  · exact x a u r
  · obtain ⟨_, q⟩ := x a _ r
    exact q
/-- what may be written -/
def Mut : Option HO → Prop
  | some (.lst _) => True
  | some (.dK _) => True
  | some (.dT _) => True
  | some (.set _ _) => True
  | some (.ins _ _ _) => True
  | some (.ext _) => True
  | _ => False
section
variable {P : Program} {w : World} {H : Hp} {h h' : Heap} {x e : Addr} {o' : HO}
/-- the object at e is changed: x itself, or the dict of the instance x -/
theorem HOk.write (ok : HOk P w H h) (mu : Mut (H x)) (he : e = x ∨ H e = some (.own x)) (k : ∀ b u, b ≠ e → h.get? b = some u → h'.get? b = some u) (heo : ∃ u, h'.get? e = some u)
    (new : ObjOk P w (upd H x o') h' x o') : HOk P w (upd H x o') h' := fun b u q => by
  have nown : ∀ c y, H c = some (.own y) → c ≠ x := fun c y r z => by subst z; rw [r] at mu; exact mu
  have ntup : ∀ c xs, H c = some (.tup xs) → c ≠ x := fun c xs r z => by subst z; rw [r] at mu; exact mu
  by_cases hb : b = x
  · subst hb; rw [upd_same] at q; cases q; exact new
  · rw [upd_ne hb] at q
    by_cases hbe : b = e
    · have q' : H b = some (.own x) := by
        rcases he with z | z
        · exact absurd (hbe.trans z) hb
        · rw [hbe]; exact z
      rw [q] at q'; cases q'
      obtain ⟨v, hv⟩ := heo
      exact ⟨v, by rw [hbe]; exact hv⟩
    · refine (ok b u q).stay (fun c v hc r => k c v ?_ r) (fun c r => by rw [upd_ne (nown c b r)]; exact r) fun c xs r => by rw [upd_ne (ntup c xs r)]; exact r
      rcases hc with rfl | hc
      · exact hbe
      · rintro rfl
        rcases he with z | z
        · exact nown c b hc z
        · rw [hc] at z; cases z; exact hb rfl
end

/-! ### kept unless tracked; of the frames at fs (the callers') the slots may change (an exception that passes writes there); of the records at ex (iterators) nothing is said -/
structure Un (fs ex : List Addr) (H H' : Hp) (h h' : Heap) : Prop where
  keep : ∀ b o, h.get? b = some o → H b = none → b ∉ fs → b ∉ ex → h'.get? b = some o
  slot : ∀ b o, h.get? b = some o → H b = none → b ∈ fs → b ∉ ex → ∃ sl, h'.get? b = some { o with slots := sl }
  free : ∀ b o, h.get? b = some o → H b = none → b ∉ ex → H' b = none
  there : ∀ b o, h.get? b = some o → b ∉ ex → ∃ o', h'.get? b = some o'
  tups : ∀ b xs, H b = some (.tup xs) → H' b = some (.tup xs)
  frzs : ∀ b o u, H b = some (.frz o u) → H' b = some (.frz o u)
  tbls : ∀ b ps, H b = some (.tbl ps) → ∃ more, H' b = some (.tbl (ps ++ more))
section
variable {fs fs' ex ex' : List Addr} {H H1 H2 : Hp} {h h1 h2 h' : Heap} {a x e : Addr} {o : HO}
theorem Un.any (u : Un fs ex H H1 h h1) {b : Addr} {ob : Obj} (q : h.get? b = some ob) (n : H b = none) (hx : b ∉ ex) : ∃ sl, h1.get? b = some { ob with slots := sl } := by
  by_cases hb : b ∈ fs
  · exact u.slot b ob q n hb hx
  · exact ⟨ob.slots, u.keep b ob q n hb hx⟩
theorem Un.kept (k : ∀ b u, h.get? b = some u → h'.get? b = some u) : Un fs ex H H h h' :=
  ⟨fun b ob q _ _ _ => k b ob q, fun b ob q _ _ _ => ⟨ob.slots, k b ob q⟩, fun _ _ _ n _ => n, fun b ob q _ => ⟨ob, k b ob q⟩, fun _ _ q => q, fun _ _ _ q => q, fun _ ps q => ⟨#[], by rw [q]; simp⟩⟩
theorem Un.refl : Un fs ex H H h h := Un.kept fun _ _ q => q
theorem Un.laid (k : ∀ b u, h.get? b = some u → h'.get? b = some u) (hp : h.objs.size ≤ a) (hn : H a = none) : Un fs ex H (upd H a o) h h' where
  keep := fun b u q _ _ _ => k b u q
  slot := fun b u q _ _ _ => ⟨u.slots, k b u q⟩
  free := fun b u q n _ => by rw [upd_ne (Nat.ne_of_lt (Nat.lt_of_lt_of_le (Heap.lt_size q) hp))]; exact n
  there := fun b u q _ => ⟨u, k b u q⟩
  tups := fun b xs q => by rw [upd_ne (ne_of_none q hn)]; exact q
  frzs := fun b u xs q => by rw [upd_ne (ne_of_none q hn)]; exact q
  tbls := fun b ps q => ⟨#[], by rw [upd_ne (ne_of_none q hn), q]; simp⟩
theorem Un.write (mu : Mut (H x)) (he : e = x ∨ H e = some (.own x)) (k : ∀ b u, b ≠ e → h.get? b = some u → h'.get? b = some u) (heo : ∃ u, h'.get? e = some u) : Un fs ex H (upd H x o) h h' := by
  have hx : ∀ b, H b = none → b ≠ x := fun b n z => by subst z; rw [n] at mu; exact mu
  have hb : ∀ b, H b = none → b ≠ e := fun b n z => by
    subst z
    rcases he with r | r
    · exact hx b n r
    · rw [n] at r; cases r
  have hm : ∀ b u, H b = some u → ¬ Mut (some u) → b ≠ x := fun b u q nm z => by subst z; rw [q] at mu; exact nm mu
  refine ⟨fun b u q n _ _ => k b u (hb b n) q, fun b u q n _ _ => ⟨u.slots, k b u (hb b n) q⟩, fun b u q n _ => by rw [upd_ne (hx b n)]; exact n, fun b u q _ => ?_,
    fun b xs q => by rw [upd_ne (hm b _ q fun z => z)]; exact q, fun b u xs q => by rw [upd_ne (hm b _ q fun z => z)]; exact q, fun b ps q => ⟨#[], by rw [upd_ne (hm b _ q fun z => z), q]; simp⟩⟩
  by_cases hbe : b = e
  · subst hbe; exact heo
  · exact ⟨u, k b u hbe q⟩
end

/-! ### the heap without what is tracked -/
def trk (h : Heap) (H : Hp) : List Addr := (List.range h.objs.size).filter fun a => (H a).isSome
def hidT (h : Heap) (H : Hp) : Heap := PySem.W.hideAll h (trk h H)
theorem hidT_size (h : Heap) (H : Hp) : (hidT h H).objs.size = h.objs.size := PySem.W.hideAll_size _ _
theorem hidT_get {h : Heap} {H : Hp} {b : Addr} {o : Obj} (e : h.get? b = some o) (n : H b = none) : (hidT h H).get? b = some o :=
  PySem.W.hideAll_get _ e fun hm => by
    have q : (H b).isSome = true := (List.mem_filter.mp hm).2
    rw [n] at q; simp at q
theorem of_hidT {h : Heap} {H : Hp} {b : Addr} {o : Obj} (e : (hidT h H).get? b = some o) : h.get? b = some o ∧ H b = none := by
  have e' : h.get? b = some o := PySem.W.of_hideAll (trk h H) e
  refine ⟨e', ?_⟩
  cases q : H b with
  | none => rfl
  | some x =>
    have hm : b ∈ trk h H := List.mem_filter.mpr ⟨List.mem_range.mpr (Heap.lt_size e'), by simp [q]⟩
    have z : (hidT h H).get? b = none := PySem.W.hideAll_none (trk h H) hm
    rw [z] at e; cases e

/-! ### OpenK's ledger, filled with every new object but one -/
end L2

namespace L2
open PySem PySem.Spec PyProof.Rows

/-- the module's facts, over the base: the heap at the law's entry without what is tracked there -/
structure Mod (K : PySem.W.Frag) (mg : Str → Option Value) (base : Heap) : Prop where
  kin : K.In base
  glob : base.Ns mainGlobals mg
  blt : ∃ mb, base.Ns builtinsNs mb ∧ ∀ x : Str, x ≠ "__name__" → mb x = bootBuiltins x
  nolimit : base.NoLimit

/-- the context: a def's body (or a comprehension's block) running. base: fixed through the whole law; s₀, H₀: the entry; outer: the frames whose slots others may change (a def's callers); stack: all frames that run;
   ex: iterators that were made ahead of the entry and are walked here (a comprehension's); fn: the names whose cells were made at the entry (a def: all; a comprehension's block: its own); calm: not within an except suite; pn: pins that every state bears; xe: what is wanted of an exception that leaves the code -/
structure Cx where
  prog : Program
  w : World
  K : PySem.W.Frag
  mg : Str → Option Value
  base : Heap
  A : Around
  N : List Str
  s₀ : Shared
  H₀ : Hp
  env : Env
  outer : List Env
  stack : List Env
  ex : List Addr
  fn : Str → Bool
  calm : Bool
  pn : List (Addr × Obj)
  xe : Value → Shared → Prop
/-- the callers' frames -/
def frs (l : List Env) : List Addr := l.filterMap (·.frame)
abbrev Cx.fs (X : Cx) : List Addr := frs X.outer

def Vis (sc : Scope) (x : Str) : Prop := sc.names.lookup x = some .local ∨ sc.names.lookup x = some .cell ∨ sc.names.lookup x = some .free
def Loc (sc : Scope) (x : Str) : Prop := sc.names.lookup x = some .local ∨ sc.names.lookup x = some .cell
def Look (env : Env) (h : Heap) (m : Str → Option Value) (x : Str) (u : Value) : Prop :=
  (env.kindOf x = some .local ∧ m x = some u) ∨ ((env.kindOf x = some .cell ∨ env.kindOf x = some .free) ∧ ∃ c, env.cells.lookup x = some c ∧ h.IsCell c (some u))

structure Cx.Ok (X : Cx) : Prop where
  mod : Mod X.K X.mg X.base
  kind : X.env.scope.kind = .function
  glob : X.env.globals = mainGlobals
  blt : X.env.builtins = builtinsNs
  above : X.s₀.heap.objs.size ≤ X.env.locals
  inj : ∀ x y c, X.env.cells.lookup x = some c → X.env.cells.lookup y = some c → x = y
  has : ∀ x, (X.env.kindOf x = some .cell ∨ X.env.kindOf x = some .free) → ∃ c, X.env.cells.lookup x = some c
  cab : ∀ x c, X.fn x = true → X.env.cells.lookup x = some c → X.s₀.heap.objs.size ≤ c
  hd : X.calm = true → X.A.handled = none
  frames : X.A.frames = some X.stack
  stk : X.stack = X.outer ∨ (X.stack = X.env :: X.outer ∧ X.env.frame = some X.env.locals)
  exf : ∀ b ∈ X.ex, b ≠ X.env.locals ∧ ∀ x c, X.env.cells.lookup x = some c → c ≠ b
  bs : ∀ b o, X.base.get? b = some o → X.s₀.heap.get? b = some o ∧ X.H₀ b = none
  bsz : X.base.objs.size ≤ X.s₀.heap.objs.size
  noex : ∀ b o, X.base.get? b = some o → b ∉ X.ex
  exfs : ∀ b ∈ X.ex, b ∉ X.fs
  funs : X.s₀.heap.FunFrames X.base X.outer
  frf : ∀ b ∈ X.fs, X.H₀ b = none

structure Inv (X : Cx) (pins : List (Addr × Obj)) (σ : List (Option V)) (H : Hp) (s : Shared) : Prop where
  ok : X.Ok
  os : s.os = X.s₀.os
  bare : AllBare s.gens
  base : Un X.fs X.ex X.H₀ H X.s₀.heap s.heap
  loc : ∃ m, s.heap.Ns X.env.locals m ∧ ∀ (i : Nat) (x : Str) (v : V), X.N[i]? = some x → σ[i]? = some (some v) → Vis X.env.scope x → ∃ u, RelV v u ∧ Look X.env s.heap m x u
  cell : ∀ x c, X.env.cells.lookup x = some c → ∃ v, s.heap.IsCell c v
  free : H X.env.locals = none
  freeC : ∀ x c, X.env.cells.lookup x = some c → H c = none
  pin : ∀ p ∈ X.pn ++ pins, s.heap.get? p.1 = some p.2 ∧ H p.1 = none ∧ p.1 ≠ X.env.locals ∧ p.1 ∉ X.fs ∧ ∀ v, p.2.data ≠ .cell v
  hok : HOk X.prog X.w H s.heap
  len : σ.length = X.N.length

section
variable {X : Cx} {pins : List (Addr × Obj)} {σ : List (Option V)} {H H' : Hp} {s : Shared} {h' : Heap}

theorem Cx.Ok.nofr (ok : X.Ok) {b : Addr} {o : Obj} (e : X.base.get? b = some o) : b ∉ X.fs := fun hb => by
  have := (ok.funs.mem hb).1
  rw [e] at this; cases this
theorem Inv.bs (I : Inv X pins σ H s) : ∀ b o, X.base.get? b = some o → s.heap.get? b = some o ∧ H b = none := fun b o e =>
  ⟨I.base.keep b o (I.ok.bs b o e).1 (I.ok.bs b o e).2 (I.ok.nofr e) (I.ok.noex b o e), I.base.free b o (I.ok.bs b o e).1 (I.ok.bs b o e).2 (I.ok.noex b o e)⟩
theorem Inv.bk (I : Inv X pins σ H s) : ∀ b o, X.base.get? b = some o → s.heap.get? b = some o := fun b o e => (I.bs b o e).1
theorem Inv.mod (I : Inv X pins σ H s) : Mod X.K X.mg X.base := I.ok.mod
theorem Inv.kIn (I : Inv X pins σ H s) : X.K.In s.heap := I.ok.mod.kin.keeps I.bk
theorem Inv.lt (I : Inv X pins σ H s) : X.env.locals < s.heap.objs.size := let ⟨_, hn, _⟩ := I.loc; hn.lt
theorem Inv.sz (I : Inv X pins σ H s) : X.s₀.heap.objs.size ≤ s.heap.objs.size := Nat.le_trans I.ok.above (Nat.le_of_lt I.lt)
theorem Inv.nofs (I : Inv X pins σ H s) {a : Addr} (h : s.heap.objs.size ≤ a) : a ∉ X.fs := fun hb => by
  obtain ⟨_, o, ho, _⟩ := I.ok.funs.mem hb
  exact absurd (Nat.lt_of_lt_of_le (Heap.lt_size ho) (Nat.le_trans I.sz h)) (Nat.lt_irrefl _)
theorem Inv.cne (I : Inv X pins σ H s) : ∀ x c, X.env.cells.lookup x = some c → c ≠ X.env.locals := fun x c e z => by
  obtain ⟨v, o, ho, hd⟩ := I.cell x c e
  obtain ⟨m, ⟨o', es, ep, ho', hd', _⟩, _⟩ := I.loc
  rw [z, ho'] at ho; cases ho; rw [hd'] at hd; cases hd
theorem Inv.funs (I : Inv X pins σ H s) : s.heap.FunFrames X.base X.outer := by
  have all : ∀ (l : List Env), (∀ b ∈ frs l, b ∈ X.fs) → X.s₀.heap.FunFrames X.base l → s.heap.FunFrames X.base l := by
    intro l
    induction l with
    | nil => intro _ _; trivial
    | cons env r ih =>
      intro hs hl
      obtain ⟨hk, ⟨L, o, hf, hn, ho, hd⟩, hr⟩ := hl
      have hL : L ∈ X.fs := hs L (by unfold frs; rw [List.filterMap_cons, hf]; exact List.mem_cons_self)
      obtain ⟨sl, e⟩ := I.base.slot L o ho (I.ok.frf L hL) hL fun z => I.ok.exfs L z hL
      exact ⟨hk, ⟨L, _, hf, hn, e, hd⟩, ih (fun b hb => hs b (by unfold frs; rw [List.filterMap_cons, hf]; exact List.mem_cons_of_mem _ hb)) hr⟩
  exact all X.outer (fun _ hb => hb) I.ok.funs

/-- the frames that run, for a call -/
theorem Inv.stack (I : Inv X pins σ H s) : s.heap.FunFrames X.base X.stack := by
  rcases I.ok.stk with e | ⟨e, hf⟩
  · rw [e]; exact I.funs
  · rw [e]
    obtain ⟨m, hn, _⟩ := I.loc
    refine .cons (by rw [I.ok.kind]; decide) hf hn ?_ I.funs
    exact Heap.get?_none_of_le (Nat.le_trans I.ok.bsz I.ok.above)
theorem Inv.stkSub (I : Inv X pins σ H s) : ∀ b ∈ frs X.stack, b ∈ X.env.locals :: X.fs := fun b hb => by
  rcases I.ok.stk with e | ⟨e, hf⟩
  · rw [e] at hb; exact List.mem_cons_of_mem _ hb
  · rw [e] at hb
    unfold frs at hb
    rw [List.filterMap_cons, hf] at hb
    exact hb
theorem Inv.stkFree (I : Inv X pins σ H s) : ∀ b ∈ frs X.stack, H b = none := fun b hb => by
  rcases List.mem_cons.mp (I.stkSub b hb) with e | hb
  · rw [e]; exact I.free
  · obtain ⟨_, o, ho, _⟩ := I.ok.funs.mem hb
    exact I.base.free b o ho (I.ok.frf b hb) fun z => I.ok.exfs b z hb

/-- THE STEP: the untracked objects but the frame and the records at ch are kept (the callers' frames up to slots), the frame's map is kept, the new abstract heap is held -/
theorem Inv.step {g' : Array GenState} {t' : Nat} {d' : Drawn} {ch : List Addr} (I : Inv X pins σ H s)
    (hch : ∀ b ∈ ch, (b ∈ X.ex ∨ X.s₀.heap.objs.size ≤ b) ∧ b ≠ X.env.locals ∧ (∀ x c, X.env.cells.lookup x = some c → c ≠ b) ∧ ∀ p ∈ X.pn ++ pins, p.1 ≠ b)
    (keep : ∀ b o, b ≠ X.env.locals → b ∉ X.fs → b ∉ ch → s.heap.get? b = some o → H b = none → h'.get? b = some o)
    (slot : ∀ b o, b ≠ X.env.locals → b ∈ X.fs → b ∉ ch → s.heap.get? b = some o → H b = none → ∃ sl, h'.get? b = some { o with slots := sl }) (free : ∀ b o, b ∉ ch → s.heap.get? b = some o → H b = none → H' b = none)
    (there : ∀ b o, b ∉ ch → s.heap.get? b = some o → ∃ o', h'.get? b = some o')
    (tups : ∀ b xs, H b = some (.tup xs) → H' b = some (.tup xs)) (frzs : ∀ b o u, H b = some (.frz o u) → H' b = some (.frz o u)) (tbls : ∀ b ps, H b = some (.tbl ps) → ∃ more, H' b = some (.tbl (ps ++ more)))
    (ns : ∀ m, s.heap.Ns X.env.locals m → h'.Ns X.env.locals m) (hok : HOk X.prog X.w H' h') (hg : AllBare g') :
    Inv X pins σ H' { s with heap := h', gens := g', drawn := d', toks := t' } := by
  have neL : ∀ b o, X.s₀.heap.get? b = some o → b ≠ X.env.locals := fun b o e => Nat.ne_of_lt (Nat.lt_of_lt_of_le (Heap.lt_size e) I.ok.above)
  have neC : ∀ b o, X.s₀.heap.get? b = some o → b ∉ X.ex → b ∉ ch := fun b o e hx hb => by
    rcases (hch b hb).1 with z | z
    · exact hx z
    · exact absurd (Nat.lt_of_lt_of_le (Heap.lt_size e) z) (Nat.lt_irrefl _)
  have cellK : ∀ x c, X.env.cells.lookup x = some c → ∀ v, s.heap.IsCell c v → h'.IsCell c v := fun x c e v ⟨o, ho, hd⟩ => by
    have nch : c ∉ ch := fun z => (hch c z).2.2.1 x c e rfl
    by_cases hc : c ∈ X.fs
    · obtain ⟨sl, q⟩ := slot c o (I.cne x c e) hc nch ho (I.freeC x c e)
      exact ⟨_, q, hd⟩
    · exact ⟨o, keep c o (I.cne x c e) hc nch ho (I.freeC x c e), hd⟩
  refine ⟨I.ok, I.os, hg, ⟨fun b o e n hb hx => ?_, fun b o e n hb hx => ?_, fun b o e n hx => ?_, fun b o e hx => ?_, fun b xs e => tups b xs (I.base.tups b xs e), fun b o xs e => frzs b o xs (I.base.frzs b o xs e), fun b ps e => ?_⟩, ?_, fun x c e => ?_, ?_, fun x c e => ?_, fun p hp => ?_, hok, I.len⟩
  · exact keep b o (neL b o e) hb (neC b o e hx) (I.base.keep b o e n hb hx) (I.base.free b o e n hx)
  · obtain ⟨sl, e1⟩ := I.base.slot b o e n hb hx
    obtain ⟨sl', e2⟩ := slot b _ (neL b o e) hb (neC b o e hx) e1 (I.base.free b o e n hx)
    exact ⟨sl', e2⟩
  · obtain ⟨o', e1⟩ := I.base.there b o e hx
    exact free b o' (neC b o e hx) e1 (I.base.free b o e n hx)
  · obtain ⟨o', e1⟩ := I.base.there b o e hx
    exact there b o' (neC b o e hx) e1
  · obtain ⟨m1, e1⟩ := I.base.tbls b ps e
    obtain ⟨m2, e2⟩ := tbls b _ e1
    exact ⟨m1 ++ m2, by rw [e2, Array.append_assoc]⟩
  · obtain ⟨m, hn, hl⟩ := I.loc
    refine ⟨m, ns m hn, fun i x v e1 e2 e3 => ?_⟩
    obtain ⟨u, r, l⟩ := hl i x v e1 e2 e3
    refine ⟨u, r, ?_⟩
    rcases l with l | ⟨k, c, e, z⟩
    · exact .inl l
    · exact .inr ⟨k, c, e, cellK x c e _ z⟩
  · obtain ⟨v, z⟩ := I.cell x c e
    exact ⟨v, cellK x c e v z⟩
  · obtain ⟨m, ⟨o, _, _, ho, _⟩, _⟩ := I.loc
    exact free _ o (fun z => (hch _ z).2.1 rfl) ho I.free
  · obtain ⟨v, o, ho, hd⟩ := I.cell x c e
    exact free c o (fun z => (hch c z).2.2.1 x c e rfl) ho (I.freeC x c e)
  · obtain ⟨e, n, ne, nf, d⟩ := I.pin p hp
    have nch : p.1 ∉ ch := fun z => (hch p.1 z).2.2.2 p hp rfl
    exact ⟨keep p.1 p.2 ne nf nch e n, free p.1 p.2 nch e n, ne, nf, d⟩
/-- .. where the frame's own object is kept too -/
theorem Inv.un {t' : Nat} (I : Inv X pins σ H s) (u : Un X.fs [] H H' s.heap h') (hok : HOk X.prog X.w H' h') : Inv X pins σ H' { s with heap := h', toks := t' } := by
  obtain ⟨m, ⟨o, es, ep, ho, r⟩, _⟩ := id I.loc
  obtain ⟨sl, hL⟩ := u.any ho I.free (by simp)
  exact I.step (g' := s.gens) (d' := s.drawn) (ch := []) (fun _ z => nomatch z) (fun b o _ hb _ e n => u.keep b o e n hb (by simp)) (fun b o _ hb _ e n => u.slot b o e n hb (by simp)) (fun b o _ e n => u.free b o e n (by simp)) (fun b o _ e => u.there b o e (by simp)) u.tups u.frzs u.tbls (fun m' hm => by
    obtain ⟨o', es', ep', ho', r'⟩ := hm
    rw [ho] at ho'; cases ho'
    exact ⟨_, es', ep', hL, r'⟩) hok I.bare
/-- behind a call (or a comprehension's block): the slots of this frame may have changed too, the records at ch may have turned -/
theorem Inv.call {g' : Array GenState} {t' : Nat} {d' : Drawn} {ch : List Addr} (I : Inv X pins σ H s) (u : Un (frs X.stack) ch H H' s.heap h') (hok : HOk X.prog X.w H' h') (hg : AllBare g')
    (hch : ∀ b ∈ ch, (b ∈ X.ex ∨ X.s₀.heap.objs.size ≤ b) ∧ b ≠ X.env.locals ∧ (∀ x c, X.env.cells.lookup x = some c → c ≠ b) ∧ ∀ p ∈ X.pn ++ pins, p.1 ≠ b) :
    Inv X pins σ H' { s with heap := h', gens := g', drawn := d', toks := t' } := by
  obtain ⟨m, ⟨o, es, ep, ho, r⟩, _⟩ := id I.loc
  obtain ⟨sl, hL⟩ := u.any ho I.free fun z => (hch _ z).2.1 rfl
  exact I.step (ch := ch) hch (fun b o hL hb hc e n => u.keep b o e n (fun z => (List.mem_cons.mp (I.stkSub b z)).elim hL hb) hc) (fun b o _ _ hc e n => u.any e n hc) (fun b o hc e n => u.free b o e n hc) (fun b o hc e => u.there b o e hc) u.tups u.frzs u.tbls (fun m' hm => by
    obtain ⟨o', es', ep', ho', r'⟩ := hm
    rw [ho] at ho'; cases ho'
    exact ⟨_, es', ep', hL, r'⟩) hok hg
/-- an untracked record of ours (an iterator) has turned -/
theorem Inv.turned {t' : Nat} {it : Addr} (I : Inv X pins σ H s) (k : ∀ b o, b ≠ it → s.heap.get? b = some o → h'.get? b = some o) (hn : H it = none) (hL : it ≠ X.env.locals)
    (h1 : it ∈ X.ex ∨ X.s₀.heap.objs.size ≤ it) (h2 : ∀ x c, X.env.cells.lookup x = some c → c ≠ it) (h3 : ∀ p ∈ X.pn ++ pins, p.1 ≠ it) : Inv X pins σ H { s with heap := h', toks := t' } := by
  have nit : ∀ b u, H b = some u → b ≠ it := fun b u e z => by rw [z, hn] at e; cases e
  refine I.step (g' := s.gens) (d' := s.drawn) (ch := [it]) (fun b hb => ?_) (fun b o _ _ hc e _ => k b o (fun z => hc (by simp [z])) e) (fun b o _ _ hc e _ => ⟨o.slots, k b o (fun z => hc (by simp [z])) e⟩) (fun _ _ _ _ n => n)
    (fun b o hc e => ⟨o, k b o (fun z => hc (by simp [z])) e⟩) (fun _ _ e => e) (fun _ _ _ e => e) (fun b ps e => ⟨#[], by rw [e]; simp⟩) (fun m hm => ?_) (fun b u e => ?_) I.bare
  · have e : b = it := by simpa using hb
    subst e
    exact ⟨h1, hL, h2, h3⟩
  · obtain ⟨o, es, ep, ho, r⟩ := hm
    exact ⟨o, es, ep, k _ o (Ne.symm hL) ho, r⟩
  · refine (I.hok b u e).stay (fun c v hc q => k c v ?_ q) (fun _ q => q) fun _ _ q => q
    rcases hc with z | z
    · rw [z]; exact nit b u e
    · exact nit c _ z
theorem Inv.tok (I : Inv X pins σ H s) (t : Nat) : Inv X pins σ H { s with toks := t } := I.un (h' := s.heap) (t' := t) Un.refl I.hok
/-- all objects kept -/
theorem Inv.kept {t' : Nat} (I : Inv X pins σ H s) (k : ∀ b u, s.heap.get? b = some u → h'.get? b = some u) : Inv X pins σ H { s with heap := h', toks := t' } := I.un (Un.kept k) (I.hok.kept k)
/-- a new object laid and tracked -/
theorem Inv.laid {a : Addr} {o : HO} {t' : Nat} (I : Inv X pins σ H s) (k : ∀ b u, s.heap.get? b = some u → h'.get? b = some u) (hp : s.heap.objs.size ≤ a) (new : ObjOk X.prog X.w (upd H a o) h' a o) :
    Inv X pins σ (upd H a o) { s with heap := h', toks := t' } := I.un (Un.laid k hp (I.hok.fresh hp)) (I.hok.laid k hp new)
/-- an object written -/
theorem Inv.write {x e : Addr} {o : HO} {t' : Nat} (I : Inv X pins σ H s) (mu : Mut (H x)) (he : e = x ∨ H e = some (.own x)) (k : ∀ b u, b ≠ e → s.heap.get? b = some u → h'.get? b = some u) (heo : ∃ u, h'.get? e = some u)
    (new : ObjOk X.prog X.w (upd H x o) h' x o) : Inv X pins σ (upd H x o) { s with heap := h', toks := t' } := I.un (Un.write mu he k heo) (I.hok.write mu he k heo new)
/-- forgetting slots, pins -/
theorem Inv.weak {σ' : List (Option V)} (I : Inv X pins σ H s) (hl : σ'.length = σ.length) (w : ∀ (i : Nat) v, σ'[i]? = some (some v) → σ[i]? = some (some v)) : Inv X pins σ' H s :=
  ⟨I.ok, I.os, I.bare, I.base, let ⟨m, hn, hl'⟩ := I.loc; ⟨m, hn, fun i x v e1 e2 e3 => hl' i x v e1 (w i v e2) e3⟩, I.cell, I.free, I.freeC, I.pin, I.hok, hl.trans I.len⟩
theorem Inv.pins_of {pins' : List (Addr × Obj)} (I : Inv X pins σ H s) (h : ∀ p ∈ pins', s.heap.get? p.1 = some p.2 ∧ H p.1 = none ∧ p.1 ≠ X.env.locals ∧ p.1 ∉ X.fs ∧ ∀ v, p.2.data ≠ .cell v) : Inv X pins' σ H s :=
  ⟨I.ok, I.os, I.bare, I.base, I.loc, I.cell, I.free, I.freeC, fun p hp => (List.mem_append.mp hp).elim (fun z => I.pin p (List.mem_append_left _ z)) (h p), I.hok, I.len⟩

theorem nodup_ix {N : List Str} (hN : N.Nodup) {i j : Nat} {x : Str} (a : N[i]? = some x) (b : N[j]? = some x) : i = j := by
  obtain ⟨h1, e1⟩ := List.getElem?_eq_some_iff.mp a
  obtain ⟨h2, e2⟩ := List.getElem?_eq_some_iff.mp b
  exact (List.getElem_inj hN).mp (e1.trans e2.symm)

/-- a name is stored; what changed -/
theorem store_ok2 {M : Model} {A : Around} {E : Value → Shared → Prop} {i : Nat} {x : Str} {v : V} {u : Value} {Q : Unit → Shared → Prop} (I : Inv X pins σ H s) (hN : X.N.Nodup) (hi : X.N[i]? = some x) (hx : Loc X.env.scope x) (r : RelV v u)
    (h : ∀ s', Inv X pins (σ.set i (some v)) H s' → (∃ a, Heap.SameBut a s.heap s'.heap ∧ (a = X.env.locals ∨ X.env.cells.lookup x = some a)) → Q () s') (hf : X.fn x = true ∨ X.env.scope.names.lookup x = some .local := by first | exact .inl rfl | exact .inr rfl | assumption) : wpAny M A (storeName X.env x u) Q E s := by
  obtain ⟨m, hn, hl⟩ := id I.loc
  have hcls : (X.env.scope.kind == .class || (X.env.scope.kind == .module && X.env.locals != X.env.globals)) = false := by rw [I.ok.kind]; rfl
  have hiσ : i < σ.length := by rw [I.len]; exact (List.getElem?_eq_some_iff.mp hi).1
  have cne := I.cne
  have tracked : ∀ {a : Addr} {h' : Heap}, (∃ o, s.heap.get? a = some o ∧ H a = none) → Heap.SameBut a s.heap h' → HOk X.prog X.w H h' := fun {a h'} ha hs b ob e => by
    obtain ⟨_, _, hfree⟩ := ha
    refine (I.hok b ob e).stay (fun c w' hc q => (hs.2 c ?_).trans q) (fun _ q => q) fun _ _ q => q
    rintro rfl
    rcases hc with rfl | hc
    · rw [hfree] at e; cases e
    · rw [hfree] at hc; cases hc
  rcases hx with hk | hk
  · refine wpAny_storeName_local hk hn (fun h' hn' hs => ?_) hcls
    obtain ⟨oL, _, _, hoL, _⟩ := id hn
    refine h _ ⟨I.ok, I.os, I.bare, ⟨fun b o e n hb hx => ?_, fun b o e n hb hx => ?_, I.base.free, fun b o e hx => ?_, I.base.tups, I.base.frzs, I.base.tbls⟩, ⟨_, hn', fun j y v' e1 e2 e3 => ?_⟩, fun y c e => ?_, I.free, I.freeC, fun p hp => ?_, tracked ⟨oL, hoL, I.free⟩ hs, by simpa using I.len⟩ ⟨_, hs, .inl rfl⟩
    · exact (hs.2 b (Nat.ne_of_lt (Nat.lt_of_lt_of_le (Heap.lt_size e) I.ok.above))).trans (I.base.keep b o e n hb hx)
    · obtain ⟨sl, e1⟩ := I.base.slot b o e n hb hx
      exact ⟨sl, (hs.2 b (Nat.ne_of_lt (Nat.lt_of_lt_of_le (Heap.lt_size e) I.ok.above))).trans e1⟩
    · obtain ⟨o', e1⟩ := I.base.there b o e hx
      exact ⟨o', (hs.2 b (Nat.ne_of_lt (Nat.lt_of_lt_of_le (Heap.lt_size e) I.ok.above))).trans e1⟩
    · by_cases hj : j = i
      · subst hj
        rw [hi] at e1; cases e1
        rw [List.getElem?_set_self hiσ] at e2
        cases e2
        exact ⟨u, r, .inl ⟨hk, by simp⟩⟩
      · rw [List.getElem?_set_ne (Ne.symm hj)] at e2
        obtain ⟨u', r', q⟩ := hl j y v' e1 e2 e3
        refine ⟨u', r', ?_⟩
        rcases q with ⟨k, e⟩ | ⟨k, c, e, z⟩
        · refine .inl ⟨k, ?_⟩
          have : y ≠ x := fun e => hj (nodup_ix hN e1 (e ▸ hi))
          simp [this, e]
        · exact .inr ⟨k, c, e, z.sameBut hs (cne y c e)⟩
    · obtain ⟨w', z⟩ := I.cell y c e
      exact ⟨w', z.sameBut hs (cne y c e)⟩
    · obtain ⟨e, n, ne, nf, d⟩ := I.pin p hp
      exact ⟨(hs.2 p.1 ne).trans e, n, ne, nf, d⟩
  · have hfn : X.fn x = true := by
      rcases hf with z | z
      · exact z
      · rw [z] at hk; cases hk
    obtain ⟨c, hc⟩ := I.ok.has x (.inl hk)
    obtain ⟨w', z⟩ := I.cell x c hc
    refine wpAny_storeName_cell I.ok.kind hk hc z (fun h' hc' hs => ?_)
    obtain ⟨oc, hoc, hocd⟩ := id z
    refine h { s with heap := h' } ⟨I.ok, I.os, I.bare, ⟨fun b o e n hb hx => ?_, fun b o e n hb hx => ?_, I.base.free, fun b o e hx => ?_, I.base.tups, I.base.frzs, I.base.tbls⟩, ⟨m, hn.sameBut hs (Ne.symm (cne x c hc)), fun j y v' e1 e2 e3 => ?_⟩, fun y c' e => ?_, I.free, I.freeC, fun p hp => ?_, tracked ⟨oc, hoc, I.freeC x c hc⟩ hs, by simpa using I.len⟩ ⟨c, hs, .inr hc⟩
    · exact (hs.2 b (Nat.ne_of_lt (Nat.lt_of_lt_of_le (Heap.lt_size e) (I.ok.cab x c hfn hc)))).trans (I.base.keep b o e n hb hx)
    · obtain ⟨sl, e1⟩ := I.base.slot b o e n hb hx
      exact ⟨sl, (hs.2 b (Nat.ne_of_lt (Nat.lt_of_lt_of_le (Heap.lt_size e) (I.ok.cab x c hfn hc)))).trans e1⟩
    · obtain ⟨o', e1⟩ := I.base.there b o e hx
      exact ⟨o', (hs.2 b (Nat.ne_of_lt (Nat.lt_of_lt_of_le (Heap.lt_size e) (I.ok.cab x c hfn hc)))).trans e1⟩
    · by_cases hj : j = i
      · subst hj
        rw [hi] at e1; cases e1
        rw [List.getElem?_set_self hiσ] at e2
        cases e2
        exact ⟨u, r, .inr ⟨.inl hk, c, hc, hc'⟩⟩
      · rw [List.getElem?_set_ne (Ne.symm hj)] at e2
        obtain ⟨u', r', q⟩ := hl j y v' e1 e2 e3
        refine ⟨u', r', ?_⟩
        rcases q with q | ⟨k, c', e, z'⟩
        · exact .inl q
        · refine .inr ⟨k, c', e, z'.sameBut hs ?_⟩
          rintro rfl
          exact hj (nodup_ix hN e1 (I.ok.inj _ _ _ e hc ▸ hi))
    · by_cases hcc : c' = c
      · subst hcc; exact ⟨_, hc'⟩
      · obtain ⟨w2, z2⟩ := I.cell y c' e
        exact ⟨w2, z2.sameBut hs hcc⟩
    · obtain ⟨e, n, ne, nf, d⟩ := I.pin p hp
      refine ⟨(hs.2 p.1 ?_).trans e, n, ne, nf, d⟩
      intro q
      rw [q, hoc] at e
      have q' : oc = p.2 := Option.some.inj e
      exact d w' (by rw [← q']; exact hocd)
theorem store_ok {M : Model} {A : Around} {E : Value → Shared → Prop} {i : Nat} {x : Str} {v : V} {u : Value} {Q : Unit → Shared → Prop} (I : Inv X pins σ H s) (hN : X.N.Nodup) (hi : X.N[i]? = some x) (hx : Loc X.env.scope x) (r : RelV v u)
    (h : ∀ s', Inv X pins (σ.set i (some v)) H s' → Q () s') (hf : X.fn x = true ∨ X.env.scope.names.lookup x = some .local := by first | exact .inl rfl | exact .inr rfl | assumption) : wpAny M A (storeName X.env x u) Q E s :=
  store_ok2 I hN hi hx r (fun s' I' _ => h s' I') hf
/-- behind a call or a block, the state as it is -/
theorem Inv.call' {s' : Shared} {ch : List Addr} (I : Inv X pins σ H s) (ho : s'.os = s.os) (u : Un (frs X.stack) ch H H' s.heap s'.heap) (hok : HOk X.prog X.w H' s'.heap) (hg : AllBare s'.gens)
    (hch : ∀ b ∈ ch, (b ∈ X.ex ∨ X.s₀.heap.objs.size ≤ b) ∧ b ≠ X.env.locals ∧ (∀ x c, X.env.cells.lookup x = some c → c ≠ b) ∧ ∀ p ∈ X.pn ++ pins, p.1 ≠ b) : Inv X pins σ H' s' := by
  obtain ⟨h', g', d', t', o'⟩ := s'
  have e : o' = s.os := ho
  subst e
  exact I.call (g' := g') (t' := t') (d' := d') u hok hg hch
end

/-! ### the judgements -/
/-- an exception: its class, its own dict's address (where it has one), the abstract heap behind it -/
abbrev XK := Value → Option Addr → Hp → Prop
abbrev St := List (Option V)
abbrev VK := V → Hp → Prop
/-- an expression's reading; a test's; an argument list's -/
abbrev TE := St → Hp → VK → Prop
abbrev TT := St → Hp → (Bool → Hp → Prop) → Prop
abbrev TA := St → Hp → (List V → Hp → Prop) → Prop
/-- what is wanted behind a statement -/
structure Ends where
  nx : St → Hp → Prop
  rt : VK
  bk : St → Hp → Prop := fun _ _ => False
  ct : St → Hp → Prop := fun _ _ => False
abbrev TS := Ends → St → Hp → Prop

def EP (X : Cx) (pins : List (Addr × Obj)) (σ : St) (Q : VK) (u : Value) (s' : Shared) : Prop := ∃ v H', Inv X pins σ H' s' ∧ RelV v u ∧ Q v H'
def TP (X : Cx) (pins : List (Addr × Obj)) (σ : St) (Q : Bool → Hp → Prop) (b : Bool) (s' : Shared) : Prop := ∃ H', Inv X pins σ H' s' ∧ Q b H'
def AP (X : Cx) (pins : List (Addr × Obj)) (σ : St) (Q : List V → Hp → Prop) (us : List Value) (s' : Shared) : Prop := ∃ vs H', Inv X pins σ H' s' ∧ Vals vs us ∧ Q vs H'
def SP (X : Cx) (pins : List (Addr × Obj)) (D : Ends) (f : Flow) (s' : Shared) : Prop :=
  match f with
  | .next => ∃ σ' H', Inv X pins σ' H' s' ∧ D.nx σ' H'
  | .brk => ∃ σ' H', Inv X pins σ' H' s' ∧ D.bk σ' H'
  | .cont => ∃ σ' H', Inv X pins σ' H' s' ∧ D.ct σ' H'
  | .ret u => ∃ v σ' H', Inv X pins σ' H' s' ∧ RelV v u ∧ D.rt v H'

def PE (X : Cx) (e : Expr) (t : TE) : Prop :=
  ∀ (pins : List (Addr × Obj)) (s : Shared) (σ : St) (H : Hp) (Q : VK), Inv X pins σ H s → t σ H Q → wpAny (model X.prog X.w) X.A (eval e X.env) (EP X pins σ Q) X.xe s
def PT (X : Cx) (e : Expr) (t : TT) : Prop :=
  ∀ (pins : List (Addr × Obj)) (s : Shared) (σ : St) (H : Hp) (Q : Bool → Hp → Prop), Inv X pins σ H s → t σ H Q → wpAny (model X.prog X.w) X.A (isTrue e X.env (eval e X.env)) (TP X pins σ Q) X.xe s
/-- a test whatever its 'whole' is (and, or) -/
def PW (X : Cx) (e : Expr) (t : TT) : Prop :=
  ∀ (whole : Sem Value) (pins : List (Addr × Obj)) (s : Shared) (σ : St) (H : Hp) (Q : Bool → Hp → Prop), Inv X pins σ H s → t σ H Q → wpAny (model X.prog X.w) X.A (isTrue e X.env whole) (TP X pins σ Q) X.xe s
theorem PW.pt {X : Cx} {e : Expr} {t : TT} (h : PW X e t) : PT X e t := h _
/-- an argument list (no star), from the left -/
def PA (X : Cx) (es : List Expr) (t : TA) : Prop :=
  ∀ (pos : Pos) (pins : List (Addr × Obj)) (s : Shared) (σ : St) (H : Hp) (Q : List V → Hp → Prop), Inv X pins σ H s → t σ H Q → wpAny (model X.prog X.w) X.A (spliced (backTo pos (starEach es X.env))) (AP X pins σ Q) X.xe s
def PS (X : Cx) (st : Stmt) (t : TS) : Prop :=
  ∀ (pins : List (Addr × Obj)) (s : Shared) (σ : St) (H : Hp) (D : Ends), Inv X pins σ H s → t D σ H → wpAny (model X.prog X.w) X.A (exec st X.env) (SP X pins D) X.xe s
def PSs (X : Cx) (st : List Stmt) (t : TS) : Prop :=
  ∀ (pins : List (Addr × Obj)) (s : Shared) (σ : St) (H : Hp) (D : Ends), Inv X pins σ H s → t D σ H → wpAny (model X.prog X.w) X.A (execs st X.env) (SP X pins D) X.xe s
/-- weaken the end -/
theorem thn {α : Type} {t : Sem α} {Q Q' : α → Shared → Prop} {M : Model} {A : Around} {E : Value → Shared → Prop} {s : Shared} (h : wpAny M A t Q E s) (hQ : ∀ a s, Q a s → Q' a s) : wpAny M A t Q' E s := wpAny_mono h hQ fun _ _ x => x
end L2

namespace L2
open PySem PySem.Spec PyProof.Rows
section
variable {X : Cx}

/-! ### names and constants -/
def tVar (i : Nat) : TE := fun σ H Q => ∃ v, σ[i]? = some (some v) ∧ Q v H
def tC (v : V) : TE := fun _ H Q => Q v H
theorem pe_var {i : Nat} {x : Str} {pos : Pos} (hN : X.N[i]? = some x) (hv : Vis X.env.scope x) (hd : (x == ("__debug__" : Str)) = false := by decide) (hcd : (x == ("__classdict__" : Str)) = false := by decide) : PE X (.Name x pos) (tVar i) := by
  intro pins s σ H Q I h
  obtain ⟨v, e, h⟩ := h
  obtain ⟨m, hn, hl⟩ := I.loc
  obtain ⟨u, r, l⟩ := hl i x v hN e hv
  have fin : EP X pins σ Q u s := ⟨v, H, I, r, h⟩
  rcases l with ⟨hk, hm⟩ | ⟨hk, c, hc, hcell⟩
  · exact wpAny_Name (wpAny_loadName_local I.ok.kind hk hn hm fin) hd
  · rcases hk with hk | hk
    · exact wpAny_Name (wpAny_loadName_cell I.ok.kind hk hc hcell fin) hd
    · exact wpAny_Name (wpAny_loadName_free I.ok.kind hk hc hcell fin hcd) hd
theorem pe_int {i j pos} : PE X (.Constant (.int i) j pos) (tC (.int i)) := fun _ _ _ H _ I h => wpAny_Constant_int ⟨.int i, H, I.tok _, ⟨_, rfl⟩, h⟩
theorem pe_bl {b j pos} : PE X (.Constant (.bool b) j pos) (tC (.bl b)) := fun _ _ _ H _ I h => Constant_bool ⟨.bl b, H, I, rfl, h⟩
theorem pe_non {j pos} : PE X (.Constant .none j pos) (tC .non) := fun _ _ _ H _ I h => Constant_none ⟨.non, H, I, rfl, h⟩
theorem pe_str {x j pos} : PE X (.Constant (.str x) j pos) (tC (.str x)) := fun _ _ _ H _ I h => Calls.Constant_str ⟨.str x, H, I.tok _, ⟨_, rfl⟩, h⟩

/-- a global name of the def -/
def Gl (X : Cx) (x : Str) : Prop := X.env.kindOf x = some .globalImplicit
theorem ld_glob {E : Value → Shared → Prop} {pins : List (Addr × Obj)} {s : Shared} {σ : St} {H : Hp} {x : Str} {u : Value} {pos : Pos} {Q : Value → Shared → Prop} (I : Inv X pins σ H s) (hg : Gl X x) (hm : X.mg x = some u) (h : Q u s)
    (hd : (x == ("__debug__" : Str)) = false := by decide) : wpAny (model X.prog X.w) X.A (eval (.Name x pos) X.env) Q E s :=
  Calls.Name_function_global I.ok.kind hg (Calls.loadGlobal_global (by rw [I.ok.glob]; exact I.mod.glob.keeps I.bk) hm h) hd
theorem ld_blt {E : Value → Shared → Prop} {pins : List (Addr × Obj)} {s : Shared} {σ : St} {H : Hp} {x : Str} {u : Value} {pos : Pos} {Q : Value → Shared → Prop} (I : Inv X pins σ H s) (hg : Gl X x) (hm : X.mg x = none) (hv : bootBuiltins x = some u) (h : Q u s)
    (hn : x ≠ "__name__" := by decide) (hd : (x == ("__debug__" : Str)) = false := by decide) : wpAny (model X.prog X.w) X.A (eval (.Name x pos) X.env) Q E s := by
  obtain ⟨mb, h1, h2⟩ := I.mod.blt
  exact Calls.Name_function_global I.ok.kind hg (Calls.loadGlobal_builtin (by rw [I.ok.glob]; exact I.mod.glob.keeps I.bk) hm (by rw [I.ok.blt]; exact h1.keeps I.bk) ((h2 x hn).trans hv) h) hd
/-- a module's constant, a class, a function, as a value -/
theorem pe_glob {x : Str} {v : V} {u : Value} {pos : Pos} (hg : Gl X x) (hm : X.mg x = some u) (r : RelV v u) (hd : (x == ("__debug__" : Str)) = false := by decide) : PE X (.Name x pos) (tC v) :=
  fun _ _ _ H _ I h => ld_glob I hg hm ⟨v, H, I, r, h⟩ hd
theorem pe_bltn {x : Str} {v : V} {u : Value} {pos : Pos} (hg : Gl X x) (hm : X.mg x = none) (hv : bootBuiltins x = some u) (r : RelV v u) (hn : x ≠ "__name__" := by decide) (hd : (x == ("__debug__" : Str)) = false := by decide) : PE X (.Name x pos) (tC v) :=
  fun _ _ _ H _ I h => ld_blt I hg hm hv ⟨v, H, I, r, h⟩ hn hd

/-! ### arithmetic -/
variable {a b : Expr} {ta tb : TE} {pos : Pos}
/-! ### comparisons -/
def PC (X : Cx) (op : CmpOp) (a b : Expr) (t : TE) : Prop :=
  ∀ (pins : List (Addr × Obj)) (s : Shared) (σ : St) (H : Hp) (Q : VK), Inv X pins σ H s → t σ H Q →
    wpAny (model X.prog X.w) X.A (eval a X.env) (fun v s₁ => wpAny (model X.prog X.w) X.A (eval b X.env) (fun u s₂ => wpAny (model X.prog X.w) X.A (compareOp op v u) (EP X pins σ Q) X.xe s₂) X.xe s₁) X.xe s
/-- a comparison as a value, as a test -/
def tB (t : TE) : TT := fun σ H Q => t σ H fun x H1 => ∃ c, x = .bl c ∧ Q c H1
theorem pe_cmp {op : CmpOp} {t : TE} (h : PC X op a b t) (h1 : behindInMarks op b = false := by first | exact nobehind _ (by decide) (by decide) | rfl) : PE X (.Compare a [op] [b] pos) t := fun pins s σ H Q I hw => wpAny_Compare1 (h pins s σ H Q I hw) h1
/-- an expression whose value is a bool, as a test -/
theorem pt_val {e : Expr} {t : TE} (h : PE X e t) (he : ∀ whole, isTrue e X.env whole = (do let v ← whole; standAt e.pos; holding [v] (truthy v)) := by intro _; rfl) : PT X e (tB t) := by
  intro pins s σ H Q I hw
  refine isTrue_plain (thn (h pins s σ H _ I hw) fun v s1 ⟨x, H1, I1, r1, q1⟩ => ?_) (he _)
  obtain ⟨d, rfl, q⟩ := q1
  cases r1
  exact wpAny_truthy_bool ⟨H1, I1, q⟩

/-! ### and, or, not -/
variable {tA tB' : TT} {rest : List Expr}
def tAnd (t u : TT) : TT := fun σ H Q => t σ H fun c H1 => if c = true then u σ H1 Q else Q false H1
def tOr (t u : TT) : TT := fun σ H Q => t σ H fun c H1 => if c = true then Q true H1 else u σ H1 Q
def tNot (t : TT) : TT := fun σ H Q => t σ H fun c H1 => Q (!c) H1
theorem pw_and1 (ha : PT X a tA) : PW X (.BoolOp .And [a] pos) tA := by
  intro wh pins s σ H Q I h
  refine isTrue_and (thn (ha pins s σ H Q I h) fun c s1 e => ?_)
  cases c with
  | true => exact isTrue_and_nil e
  | false => exact e
theorem pw_or1 (ha : PT X a tA) : PW X (.BoolOp .Or [a] pos) tA := by
  intro wh pins s σ H Q I h
  refine isTrue_or (thn (ha pins s σ H Q I h) fun c s1 e => ?_)
  cases c with
  | false => exact isTrue_or_nil e
  | true => exact e
theorem pw_and (ha : PT X a tA) (hb : PW X (.BoolOp .And (b :: rest) pos) tB') : PW X (.BoolOp .And (a :: b :: rest) pos) (tAnd tA tB') := by
  intro wh pins s σ H Q I h
  refine isTrue_and (thn (ha pins s σ H _ I h) fun c s1 ⟨H1, I1, q1⟩ => ?_)
  cases c with
  | true => exact hb wh pins s1 σ H1 Q I1 q1
  | false => exact ⟨H1, I1, q1⟩
theorem pw_or (ha : PT X a tA) (hb : PW X (.BoolOp .Or (b :: rest) pos) tB') : PW X (.BoolOp .Or (a :: b :: rest) pos) (tOr tA tB') := by
  intro wh pins s σ H Q I h
  refine isTrue_or (thn (ha pins s σ H _ I h) fun c s1 ⟨H1, I1, q1⟩ => ?_)
  cases c with
  | true => exact ⟨H1, I1, q1⟩
  | false => exact hb wh pins s1 σ H1 Q I1 q1
theorem pt_not (ha : PT X a tA) : PT X (.UnaryOp .Not a pos) (tNot tA) := by
  intro pins s σ H Q I h
  exact isTrue_not (ha pins s σ H (fun c H1 => Q (!c) H1) I h)
/-- .. as values (bools) -/
def tAndV (ta tb : TE) : TE := fun σ H Q => ta σ H fun x H1 => ∃ c, x = .bl c ∧ if c = true then tb σ H1 Q else Q (.bl false) H1
def tNotV (ta : TE) : TE := fun σ H Q => ta σ H fun x H1 => ∃ c, x = .bl c ∧ Q (.bl (!c)) H1
theorem pe_one {op} {t : TE} (h : PE X a t) : PE X (.BoolOp op [a] pos) t := fun pins s σ H Q I hw => BoolOp_one (h pins s σ H Q I hw)
theorem pe_and (ha : PE X a ta) (hb : PE X (.BoolOp .And (b :: rest) pos) tb) : PE X (.BoolOp .And (a :: b :: rest) pos) (tAndV ta tb) := by
  intro pins s σ H Q I h
  refine BoolOp_and (thn (ha pins s σ H _ I h) fun v s1 ⟨x, H1, I1, r1, q1⟩ => ?_)
  obtain ⟨c, rfl, q1⟩ := q1
  cases r1
  refine wpAny_truthy_bool ?_
  cases c with
  | true => exact hb pins s1 σ H1 Q I1 q1
  | false => exact ⟨.bl false, H1, I1, rfl, q1⟩
theorem pe_not (ha : PE X a ta) : PE X (.UnaryOp .Not a pos) (tNotV ta) := by
  intro pins s σ H Q I h
  refine UnaryOp_ (thn (ha pins s σ H _ I h) fun v s1 ⟨x, H1, I1, r1, q1⟩ => ?_)
  obtain ⟨c, rfl, q1⟩ := q1
  cases r1
  exact not_of (wpAny_truthy_bool ⟨.bl (!c), H1, I1, rfl, q1⟩)
end
end L2

namespace L2
open PySem PySem.Spec PyProof.Rows

/-! ### a list, a tuple that is read: tracked, frozen, or an object of the module -/
def SqL (K : PySem.W.Frag) (H : Hp) (a : Addr) (xs : List V) : Prop :=
  Rd H a (.lst xs) ∨
    ∃ (o : Obj) (its : Array Value) (n : Nat), K.lookup a = some o ∧ o.cls = .type "list" ∧ o.dict = none ∧ o.data = .seq its n ∧ its.size ≤ sizeLine ∧ Vals xs its.toList
def SqT (K : PySem.W.Frag) (H : Hp) (a : Addr) (xs : List V) : Prop :=
  Rd H a (.tup xs) ∨
    ∃ (o : Obj) (its : Array Value) (n : Nat), K.lookup a = some o ∧ o.cls = .type "tuple" ∧ o.data = .seq its n ∧ its.size ≤ sizeLine ∧ Vals xs its.toList
def absV : Value → Option V
  | .none => some .non
  | .bool b => some (.bl b)
  | .int i _ => some (.int i)
  | .str x _ => some (.str x)
  | .bytes b _ => some (.byt b)
  | .float b _ => some (.flt b)
  | .ref a => some (.ref a)
  | .type n => some (.ty n)
  | _ => none
theorem RelV.abs {x : V} {u : Value} (r : RelV x u) : absV u = some x := by
  cases x with
  | non => cases r; rfl
  | bl _ => cases r; rfl
  | int _ => obtain ⟨t, rfl⟩ := r; rfl
  | str _ => obtain ⟨t, rfl⟩ := r; rfl
  | byt _ => obtain ⟨t, rfl⟩ := r; rfl
  | flt _ => obtain ⟨t, rfl⟩ := r; rfl
  | ref _ => cases r; rfl
  | ty _ => cases r; rfl
theorem RelV.inj {x y : V} {u : Value} (r : RelV x u) (q : RelV y u) : x = y := Option.some.inj (r.abs.symm.trans q.abs)
theorem Vals.inj : ∀ {xs ys : List V} {us : List Value}, Vals xs us → Vals ys us → xs = ys
  | _, _, _, .nil, .nil => rfl
  | _, _, _, .cons r t, .cons r' t' => by rw [r.inj r', Vals.inj t t']
section
variable {X : Cx} {pins : List (Addr × Obj)} {σ : St} {H : Hp} {s : Shared} {a : Addr} {xs ys : List V}
theorem SqL.of {K : PySem.W.Frag} (h : H a = some (.lst xs)) : SqL K H a xs := .inl (.inl h)
theorem SqT.of {K : PySem.W.Frag} (h : H a = some (.tup xs)) : SqT K H a xs := .inl (.inl h)
theorem Inv.list (I : Inv X pins σ H s) (h : SqL X.K H a xs) : ∃ its : List Value, Vals xs its ∧ PlainL s.heap a its.toArray ∧ xs.length ≤ sizeLine := by
  rcases h with h | ⟨o, its, n, hk, hc, hd, hs, hz, r⟩
  · obtain ⟨z, its, n, r, e⟩ := h.ok I.hok
    exact ⟨its, r, ⟨_, n, e, rfl, rfl, rfl⟩, z⟩
  · refine ⟨its.toList, r, ⟨o, n, I.kIn a o hk, hc, hd, by simpa using hs⟩, ?_⟩
    have e := r.length
    simp only [Array.length_toList] at e
    omega
theorem Inv.tuple (I : Inv X pins σ H s) (h : SqT X.K H a xs) : ∃ its : List Value, Vals xs its ∧ IsTup s.heap a its.toArray ∧ xs.length ≤ sizeLine := by
  rcases h with h | ⟨o, its, n, hk, hc, hs, hz, r⟩
  · obtain ⟨z, its, r, p⟩ := h.ok I.hok
    exact ⟨its, r, p, z⟩
  · refine ⟨its.toList, r, ⟨o, I.kIn a o hk, hc, n, by simpa using hs⟩, ?_⟩
    have e := r.length
    simp only [Array.length_toList] at e
    omega
theorem Inv.list_inj (I : Inv X pins σ H s) (h : SqL X.K H a xs) (h' : SqL X.K H a ys) : xs = ys := by
  obtain ⟨its, r, ⟨o, n, e, _, _, d⟩, _⟩ := I.list h
  obtain ⟨its', r', ⟨o', n', e', _, _, d'⟩, _⟩ := I.list h'
  rw [e] at e'; cases e'
  rw [d] at d'
  injection d' with d1 _
  have : its = its' := by simpa using congrArg Array.toList d1
  subst this
  exact r.inj r'
theorem Inv.tuple_inj (I : Inv X pins σ H s) (h : SqT X.K H a xs) (h' : SqT X.K H a ys) : xs = ys := by
  obtain ⟨its, r, ⟨o, e, _, n, d⟩, _⟩ := I.tuple h
  obtain ⟨its', r', ⟨o', e', _, n', d'⟩, _⟩ := I.tuple h'
  rw [e] at e'; cases e'
  rw [d] at d'
  injection d' with d1 _
  have : its = its' := by simpa using congrArg Array.toList d1
  subst this
  exact r.inj r'
end

/-! ### another wish about exceptions -/
abbrev Cx.wish (X : Cx) (E : Value → Shared → Prop) : Cx := { X with xe := E }
/-- no exception leaves -/
abbrev Cx.nox (X : Cx) : Cx := X.wish fun _ _ => False
theorem Cx.Ok.wish {X : Cx} (ok : X.Ok) (E : Value → Shared → Prop) : (X.wish E).Ok :=
  ⟨ok.mod, ok.kind, ok.glob, ok.blt, ok.above, ok.inj, ok.has, ok.cab, ok.hd, ok.frames, ok.stk, ok.exf, ok.bs, ok.bsz, ok.noex, ok.exfs, ok.funs, ok.frf⟩
theorem Cx.Ok.unwish {X : Cx} {E : Value → Shared → Prop} (ok : (X.wish E).Ok) : X.Ok :=
  ⟨ok.mod, ok.kind, ok.glob, ok.blt, ok.above, ok.inj, ok.has, ok.cab, ok.hd, ok.frames, ok.stk, ok.exf, ok.bs, ok.bsz, ok.noex, ok.exfs, ok.funs, ok.frf⟩
section
variable {X : Cx} {pins : List (Addr × Obj)} {σ : St} {H : Hp} {s : Shared} {E : Value → Shared → Prop}
theorem Inv.wish (I : Inv X pins σ H s) (E : Value → Shared → Prop) : Inv (X.wish E) pins σ H s := ⟨I.ok.wish E, I.os, I.bare, I.base, I.loc, I.cell, I.free, I.freeC, I.pin, I.hok, I.len⟩
theorem Inv.unwish (I : Inv (X.wish E) pins σ H s) : Inv X pins σ H s := ⟨I.ok.unwish, I.os, I.bare, I.base, I.loc, I.cell, I.free, I.freeC, I.pin, I.hok, I.len⟩
theorem SP.unwish {D : Ends} {f : Flow} {s' : Shared} (h : SP (X.wish E) pins D f s') : SP X pins D f s' := by
  cases f with
  | next => obtain ⟨σ', H', I, q⟩ := h; exact ⟨σ', H', I.unwish, q⟩
  | brk => obtain ⟨σ', H', I, q⟩ := h; exact ⟨σ', H', I.unwish, q⟩
  | cont => obtain ⟨σ', H', I, q⟩ := h; exact ⟨σ', H', I.unwish, q⟩
  | ret u => obtain ⟨v, σ', H', I, r, q⟩ := h; exact ⟨v, σ', H', I.unwish, r, q⟩
theorem PSs.nox {st : List Stmt} {t : TS} (h : PSs X.nox st t) : PSs X st t := fun pins s σ H D I hw =>
  wpAny_mono (h pins s σ H D (I.wish _) hw) (fun _ _ q => q.unwish) fun _ _ z => False.elim z
end

/-! ### blocks and small statements -/
section
variable {X : Cx} {st : Stmt} {rest : List Stmt} {t u : TS} {e : Expr} {te : TE} {pos : Pos}
def tNext : TS := fun D σ H => D.nx σ H
def tSeq (t u : TS) : TS := fun D σ H => t { D with nx := u D } σ H
theorem pss_nil : PSs X [] tNext := fun _ _ σ H _ I h => wpAny_execs_nil ⟨σ, H, I, h⟩
theorem pss_cons (h1 : PS X st t) (h2 : PSs X rest u) : PSs X (st :: rest) (tSeq t u) := by
  intro pins s σ H D I h
  refine wpAny_execs_cons (thn (h1 pins s σ H { D with nx := u D } I h) fun f s1 q => ?_)
  cases f with
  | next =>
    obtain ⟨σ', H', I', q⟩ := q
    exact h2 pins s1 σ' H' D I' q
  | ret v => exact q
  | brk => exact q
  | cont => exact q
theorem pss_one (h1 : PS X st t) : PSs X [st] t := by
  intro pins s σ H D I h
  refine wpAny_execs_cons (thn (h1 pins s σ H D I h) fun f s1 q => ?_)
  cases f with
  | next => exact wpAny_execs_nil q
  | ret v => exact q
  | brk => exact q
  | cont => exact q
/-- in a def's body nothing is shown -/
theorem Inv.quiet {pins : List (Addr × Obj)} {σ : St} {H : Hp} {s : Shared} (I : Inv X pins σ H s) : interactive X.env = false := by simp [interactive, I.ok.kind]
/-- an expression whose value is dropped -/
def tDrop (te : TE) : TS := fun D σ H => te σ H fun _ H1 => D.nx σ H1
theorem ps_expr (he : PE X e te) (hs : swapsWith e none pos.line X.env = pure false := by rfl) : PS X (.Expr e pos) (tDrop te) := by
  intro pins s σ H D I h
  exact wpAny_Expr_any (thn (he pins s σ H _ I h) fun v s1 ⟨x, H1, I1, r1, q1⟩ => ⟨σ, H1, I1, q1⟩) I.quiet hs
def tRet (te : TE) : TS := fun D σ H => te σ H D.rt
theorem ps_ret (he : PE X e te) : PS X (.Return (some e) pos) (tRet te) := by
  intro pins s σ H D I h
  exact wpAny_Return_some (thn (he pins s σ H _ I h) fun v s1 ⟨x, H1, I1, r1, q1⟩ => ⟨x, σ, H1, I1, r1, q1⟩)
def tIfS (c : TT) (t u : TS) : TS := fun D σ H => c σ H fun b H1 => if b = true then t D σ H1 else u D σ H1
theorem ps_if {c : Expr} {a b : List Stmt} {tc : TT} (hc : PT X c tc) (ha : PSs X a t) (hb : PSs X b u) : PS X (.If c a b pos) (tIfS tc t u) := by
  intro pins s σ H D I h
  refine wpAny_If (thn (hc pins s σ H _ I h) fun d s1 ⟨H1, I1, q1⟩ => ?_)
  cases d with
  | true => exact ha pins s1 σ H1 D I1 q1
  | false => exact hb pins s1 σ H1 D I1 q1
end

/-! ### targets -/
abbrev TG := V → St → Hp → (St → Hp → Prop) → Prop
abbrev TGs := List V → St → Hp → (St → Hp → Prop) → Prop
def PG (X : Cx) (target : Expr) (t : TG) : Prop :=
  ∀ (pins : List (Addr × Obj)) (s : Shared) (σ : St) (H : Hp) (v : V) (u : Value) (Q : St → Hp → Prop), Inv X pins σ H s → RelV v u → t v σ H Q →
    wpAny (model X.prog X.w) X.A (assign target X.env u) (fun _ s' => ∃ σ' H', Inv X pins σ' H' s' ∧ Q σ' H') X.xe s
/-- several targets, one after another -/
def PGs (X : Cx) (ts : List Expr) (t : TGs) : Prop :=
  ∀ (pins : List (Addr × Obj)) (s : Shared) (σ : St) (H : Hp) (vs : List V) (us : List Value) (Q : St → Hp → Prop), Inv X pins σ H s → Vals vs us → t vs σ H Q →
    wpAny (model X.prog X.w) X.A (assignInOrder ((assignEach ts X.env).map (·.2)) us) (fun _ s' => ∃ σ' H', Inv X pins σ' H' s' ∧ Q σ' H') X.xe s
/-- o[i] = v, by values -/
abbrev TSet := V → V → V → Hp → (Hp → Prop) → Prop
def PSet (X : Cx) (t : TSet) : Prop :=
  ∀ (pins : List (Addr × Obj)) (s : Shared) (σ : St) (H : Hp) (o i v : V) (ov iv u : Value) (Q : Hp → Prop), Inv X pins σ H s → RelV o ov → RelV i iv → RelV v u → t o i v H Q →
    wpAny (model X.prog X.w) X.A (setItem ov iv u) (fun _ s' => ∃ H', Inv X pins σ H' s' ∧ Q H') X.xe s
section
variable {X : Cx} {pos : Pos}
def gName (i : Nat) : TG := fun v σ H Q => Q (σ.set i (some v)) H
theorem pg_name {i : Nat} {x : Str} (hN : X.N.Nodup) (hi : X.N[i]? = some x) (hx : Loc X.env.scope x) (hf : X.fn x = true ∨ X.env.scope.names.lookup x = some .local := by first | exact .inl rfl | exact .inr rfl | assumption) : PG X (.Name x pos) (gName i) := by
  intro pins s σ H v u Q I r h
  exact wpAny_assign_Name (store_ok I hN hi hx r (fun s' I' => ⟨_, H, I', h⟩) hf)
def gNil : TGs := fun vs σ H Q => vs = [] ∧ Q σ H
def gCons (t : TG) (u : TGs) : TGs := fun vs σ H Q => ∃ v r, vs = v :: r ∧ t v σ H fun σ' H' => u r σ' H' Q
theorem pgs_nil : PGs X [] gNil := by
  intro pins s σ H vs us Q I r h
  obtain ⟨e, h⟩ := h
  subst e
  cases r
  exact assignInOrder_nil ⟨σ, H, I, h⟩
theorem pgs_cons {e : Expr} {es : List Expr} {t : TG} {u : TGs} (h1 : PG X e t) (h2 : PGs X es u)
    (hs : (assignEach (e :: es) X.env).map (·.2) = assign e X.env :: (assignEach es X.env).map (·.2) := by rfl) : PGs X (e :: es) (gCons t u) := by
  intro pins s σ H vs us Q I r h
  obtain ⟨v, vr, e1, h⟩ := h
  subst e1
  cases r with
  | cons r rr =>
    rw [hs]
    refine assignInOrder_cons (thn (h1 pins s σ H _ _ _ I r h) fun _ s1 ⟨σ1, H1, I1, q1⟩ => ?_)
    exact h2 pins s1 σ1 H1 _ _ Q I1 rr q1
/-- (a, b, ..) = a tuple of that length -/
def gTup (K : PySem.W.Frag) (n : Nat) (t : TGs) : TG := fun v σ H Q => ∃ a xs, v = .ref a ∧ SqT K H a xs ∧ xs.length = n ∧ t xs σ H Q
theorem pg_tup {es : List Expr} {k : Nat} {t : TGs} {n : Nat} (hc : X.calm = true) (h : PGs X es t)
    (hn : (assignEach es X.env).length = n := by rfl) (hst : (assignEach es X.env).findIdx? (·.1) = none := by rfl) : PG X (.Tuple es k pos) (gTup X.K n t) := by
  intro pins s σ H v u Q I r hw
  obtain ⟨a, xs, e1, hq, hl, hw⟩ := hw
  subst e1
  cases r
  obtain ⟨its, rv, ht, hz⟩ := I.tuple hq
  refine assign_Tuple_tuple (I.ok.hd hc) ht (by simp [hn, ← hl, rv.length]) hst fun h' hx => ?_
  have I1 : Inv X pins σ H { s with heap := h' } := I.kept (t' := s.toks) fun b o e => hx b o (Nat.ne_of_lt (Heap.lt_size e)) e
  exact h pins _ σ H xs _ Q I1 (by simpa using rv) hw
/-- o[i] = .. -/
def gSub (to ti : TE) (t : TSet) : TG := fun v σ H Q => to σ H fun o H1 => ti σ H1 fun i H2 => t o i v H2 fun H3 => Q σ H3
theorem pg_sub {o i : Expr} {to ti : TE} {t : TSet} (ho : PE X o to) (hi : PE X i ti) (hs : PSet X t)
    (ha : ∀ v, assign (.Subscript o i pos) X.env v = (do
      let ov ← holding [v] (eval o X.env)
      let iv ← holding [v, ov] (eval i X.env)
      standAt pos
      holding [v, ov, iv] (setItem ov iv v)
      release [v, ov, iv] []) := by intro _; rfl) : PG X (.Subscript o i pos) (gSub to ti t) := by
  intro pins s σ H v u Q I r h
  rw [ha]
  refine wpAny_bind (wpAny_holding (thn (ho pins s σ H _ I h) fun ov s1 ⟨x, H1, I1, r1, q1⟩ => ?_))
  refine wpAny_bind (wpAny_holding (thn (hi pins s1 σ H1 _ I1 q1) fun iv s2 ⟨y, H2, I2, r2, q2⟩ => ?_))
  refine wpAny_bind (wpAny_standAt (wpAny_bind (wpAny_holding (thn (hs pins s2 σ H2 x y v ov iv u _ I2 r1 r2 r q2) fun _ s3 ⟨H3, I3, q3⟩ => ?_))))
  exact wpAny_release ⟨σ, H3, I3, q3⟩
/-- target = value -/
def tAsg (te : TE) (g : TG) : TS := fun D σ H => te σ H fun x H1 => g x σ H1 D.nx
theorem ps_asg {tg e : Expr} {te : TE} {g : TG} (he : PE X e te) (hg : PG X tg g) (hs : swapsWithSole [tg] e pos.line X.env = pure false := by rfl) (hw : swappedStores [tg] e X.env = pure none := by rfl)
    (h1 : (assignEach [tg] X.env).map (·.2) = [assign tg X.env] := by rfl) : PS X (.Assign [tg] e pos) (tAsg te g) := by
  intro pins s σ H D I h
  refine wpAny_Assign_stores (thn (he pins s σ H _ I h) fun v s1 ⟨x, H1, I1, r1, q1⟩ => ?_) hs hw
  rw [h1]
  exact thn (hg pins s1 σ H1 x v _ I1 r1 q1) fun _ s2 q => q
/-- name = value -/
theorem ps_set {i : Nat} {x : Str} {e : Expr} {te : TE} {pos' : Pos} (hN : X.N.Nodup) (hi : X.N[i]? = some x) (hx : Loc X.env.scope x) (he : PE X e te) (hs : swapsWith e (some (.Name x pos')) pos.line X.env = pure false := by rfl) (hf : X.fn x = true ∨ X.env.scope.names.lookup x = some .local := by first | exact .inl rfl | exact .inr rfl | assumption) :
    PS X (.Assign [.Name x pos'] e pos) (tAsg te (gName i)) := by
  intro pins s σ H D I h
  refine wpAny_Assign_Name (thn (he pins s σ H _ I h) fun v s1 ⟨y, H1, I1, r1, q1⟩ => ?_) hs
  exact store_ok I1 hN hi hx r1 (fun s2 I2 => ⟨_, H1, I2, q1⟩) hf
end

/-! ### while -/
section
variable {X : Cx} {pos : Pos}
/-- the invariant W with its measure -/
def tWhile (c : TT) (tb : TS) : TS := fun D σ H => ∃ W : Nat → St → Hp → Prop, (∃ m, W m σ H) ∧ ∀ m σ H, W m σ H →
  c σ H fun b H1 => if b = true then ∃ N : St → Hp → Prop, (∀ σ' H', N σ' H' → ∃ m', m' < m ∧ W m' σ' H') ∧ tb { D with nx := N, ct := N, bk := D.nx } σ H1 else D.nx σ H1
theorem ps_while {c : Expr} {body : List Stmt} {tc : TT} {tb : TS} (hp : PassesOwn (model X.prog X.w) X.A X.env X.xe) (hc : PT X c tc) (hb : PSs X body tb) : PS X (.While c body [] pos) (tWhile tc tb) := by
  intro pins s σ H D I h
  obtain ⟨W, ⟨m0, w0⟩, turn⟩ := h
  refine wpAny_While (codeAny_whileLoop (fun n s' => ∃ σ' H', Inv X pins σ' H' s' ∧ W n σ' H') ?_ m0 ⟨σ, H, I, w0⟩)
  rintro n s1 ⟨σ1, H1, I1, w1⟩
  refine wpAny_passesOwn hp (thn (hc pins s1 σ1 H1 _ I1 (turn n σ1 H1 w1)) fun b s2 ⟨H2, I2, q2⟩ => ?_)
  cases b with
  | true =>
    obtain ⟨N, hN, q2⟩ := q2
    rw [if_pos rfl]
    refine wpAny_passesOwn hp (thn (hb pins s2 σ1 H2 _ I2 q2) fun f s3 q3 => ?_)
    cases f with
    | next =>
      obtain ⟨σ3, H3, I3, n3⟩ := q3
      obtain ⟨m', hm, w3⟩ := hN σ3 H3 n3
      exact ⟨m', hm, σ3, H3, I3, w3⟩
    | cont =>
      obtain ⟨σ3, H3, I3, n3⟩ := q3
      obtain ⟨m', hm, w3⟩ := hN σ3 H3 n3
      exact ⟨m', hm, σ3, H3, I3, w3⟩
    | brk => exact q3
    | ret v => exact q3
  | false =>
    rw [if_neg Bool.false_ne_true]
    exact wpAny_execs_nil ⟨σ1, H2, I2, q2⟩
end

/-! ### what a loop or a comprehension walks -/
/-- at turn i: it yields x (the heap may grow), or it stops -/
structure It where
  go : Nat → Hp → Prop
  yld : Nat → Hp → V → Hp → Prop
  stop : Nat → Hp → Prop
/-- the iterator's own objects may turn: they are not the frame's, not pinned, younger than the entry (or a comprehension's own) -/
def FpOk (X : Cx) (pins : List (Addr × Obj)) (H : Hp) (b : Addr) : Prop :=
  H b = none ∧ b ≠ X.env.locals ∧ b ∉ X.fs ∧ (b ∈ X.ex ∨ X.s₀.heap.objs.size ≤ b) ∧ (∀ x c, X.env.cells.lookup x = some c → c ≠ b) ∧ ∀ p ∈ X.pn ++ pins, p.1 ≠ b
theorem Inv.fpOk {X : Cx} {pins : List (Addr × Obj)} {σ : St} {H H' : Hp} {s : Shared} {b : Addr} (I : Inv X pins σ H s) (hb : s.heap.objs.size ≤ b) (hn : H' b = none) : FpOk X pins H' b := by
  refine ⟨hn, Nat.ne_of_gt (Nat.lt_of_lt_of_le I.lt hb), I.nofs hb, .inr (Nat.le_trans I.sz hb), fun x c e z => ?_, fun p hp z => ?_⟩
  · obtain ⟨v, q⟩ := I.cell x c e
    exact absurd (Nat.lt_of_lt_of_le q.lt (by rw [z]; exact hb)) (Nat.lt_irrefl _)
  · exact absurd (Nat.lt_of_lt_of_le (Heap.lt_size (I.pin p hp).1) (by rw [z]; exact hb)) (Nat.lt_irrefl _)
structure Turn (P : Program) (w : World) (K : PySem.W.Frag) (tg : Expr) (J : It) (fp : List Addr) (it : Addr) (tn : Nat → Heap → Prop) : Prop where
  mem : it ∈ fp
  obj : ∀ i h, tn i h → ∀ b ∈ fp, ∃ o, h.get? b = some o ∧ ∀ v, o.data ≠ .cell v
  keep : ∀ i h h', tn i h → (∀ b ∈ fp, ∀ o, h.get? b = some o → h'.get? b = some o) → tn i h'
  item : ∀ (X : Cx), X.prog = P → X.w = w → X.K = K → X.calm = true → ∀ (i : Nat) (pins : List (Addr × Obj)) (s : Shared) (σ : St) (H : Hp) (E : Value → Shared → Prop), Inv X pins σ H s → (∀ b ∈ fp, FpOk X pins H b) → tn i s.heap → J.go i H →
    wpAny (model P w) X.A (pyNext (.ref it)) (fun r s1 => ∃ u, r = some u ∧
      wpAny (model P w) X.A (letOwnedTupleGo tg (.ref it) u) (fun _ s2 => ∃ x H', Inv X pins σ H' s2 ∧ RelV x u ∧ J.yld i H x H' ∧ tn (i + 1) s2.heap ∧ ∀ b ∈ fp, H' b = none) E s1) E s
  done : ∀ (X : Cx), X.prog = P → X.w = w → X.K = K → X.calm = true → ∀ (i : Nat) (pins : List (Addr × Obj)) (s : Shared) (σ : St) (H : Hp) (E : Value → Shared → Prop), Inv X pins σ H s → (∀ b ∈ fp, FpOk X pins H b) → tn i s.heap → J.stop i H →
    wpAny (model P w) X.A (pyNext (.ref it)) (fun r s1 => r = none ∧ Inv X pins σ H s1) E s
  self : ∀ (A : Around) (i : Nat) (s : Shared) (Q : Value → Shared → Prop) (E : Value → Shared → Prop), tn i s.heap → Q (.ref it) s → wpAny (model P w) A (pyIter (.ref it)) Q E s
abbrev TI := St → Hp → (It → Hp → Prop) → Prop
/-- an iterator has come -/
def PIE (X : Cx) (pins : List (Addr × Obj)) (σ : St) (tg : Expr) (R : It → Hp → Prop) (itv : Value) (s2 : Shared) : Prop :=
  ∃ (it : Addr) (fp : List Addr) (tn : Nat → Heap → Prop) (J : It) (H' : Hp), itv = .ref it ∧ Inv X pins σ H' s2 ∧ Turn X.prog X.w X.K tg J fp it tn ∧ tn 0 s2.heap ∧ (∀ b ∈ fp, FpOk X pins H' b) ∧ R J H'
def PI (X : Cx) (tg iter : Expr) (wi : TI) : Prop :=
  ∀ (pins : List (Addr × Obj)) (s : Shared) (σ : St) (H : Hp) (R : It → Hp → Prop), Inv X pins σ H s → wi σ H R →
    wpAny (model X.prog X.w) X.A (eval iter X.env) (fun v s1 => wpAny (model X.prog X.w) X.A (pyIter v) (PIE X pins σ tg R) X.xe s1) X.xe s

/-- the step ahead of the store is nothing for an iterator that keeps no tuple -/
theorem go_of {M : Model} {A : Around} {E : Value → Shared → Prop} {s : Shared} {tg : Expr} {it : Addr} {u : Value} {o : Obj} {n : String} {vs : Array Value} {Q : Unit → Shared → Prop} (ho : s.heap.get? it = some o) (hc : o.cls = .type n) (hd : o.data = .fields vs)
    (hn : ["enumerate", "zip", "dict_itemiterator", "dict_reverseitemiterator", "odict_iterator", "itertools.zip_longest", "itertools.pairwise"].contains n = false) (hQ : Q () s) : wpAny M A (letOwnedTupleGo tg (.ref it) u) Q E s := by
  unfold letOwnedTupleGo
  cases tg <;> first
    | exact wpAny_pure hQ
    | (cases u <;> first
        | exact wpAny_pure hQ
        | (refine wpAny_bind (wpAny_load ho ?_)
           rw [hc, hd]
           show wpAny M A (if (["enumerate", "zip", "dict_itemiterator", "dict_reverseitemiterator", "odict_iterator", "itertools.zip_longest", "itertools.pairwise"].contains n && vs[0]? == some (rawInt _)) = true then _ else _) Q E s
           rw [if_neg (by intro h; rw [hn, Bool.false_and] at h; cases h)]
           exact wpAny_pure hQ))

/-- the list at a, as it stands at each turn (a loop may append to it) -/
def Itl (K : PySem.W.Frag) (a : Addr) : It :=
  ⟨fun i H => ∃ xs x, SqL K H a xs ∧ xs[i]? = some x, fun i H x H' => H' = H ∧ ∀ xs, SqL K H a xs → xs[i]? = some x, fun i H => ∃ xs, SqL K H a xs ∧ xs.length ≤ i⟩
def Itt (K : PySem.W.Frag) (a : Addr) : It :=
  ⟨fun i H => ∃ xs x, SqT K H a xs ∧ xs[i]? = some x, fun i H x H' => H' = H ∧ ∀ xs, SqT K H a xs → xs[i]? = some x, fun i H => ∃ xs, SqT K H a xs ∧ xs.length ≤ i⟩
/-- lo, lo + 1, .. (n of them) -/
def Itr (lo : Int) (n : Nat) : It := ⟨fun i _ => i < n, fun i H x H' => H' = H ∧ x = .int (lo + i), fun i _ => n ≤ i⟩
theorem turn_list {P : Program} {w : World} {K : PySem.W.Frag} {tg : Expr} (a it : Addr) : Turn P w K tg (Itl K a) [it] it (fun i h => h.IsListIter it a i) where
  mem := by simp
  obj := fun i h st b hb => by
    have e : b = it := by simpa using hb
    subst e
    obtain ⟨o, e, c, d⟩ := st
    exact ⟨o, e, fun v z => by rw [d] at z; cases z⟩
  keep := fun i h h' st k => st.at fun o e => k it (by simp) o e
  item := by
    intro X hP hw hK hc i pins s σ H E I hf st hg
    subst hP hw hK
    obtain ⟨xs, x, hq, hx⟩ := hg
    obtain ⟨its, rv, p, hz⟩ := I.list hq
    obtain ⟨u, hu, ru⟩ := rv.get hx
    obtain ⟨f0, f1, f2, f3, f4, f5⟩ := hf it (by simp)
    refine wpAny_pyNext_list_item st p.isList (x := u) (by simpa using hu) fun h' st' sb => ?_
    have I1 : Inv X pins σ H { s with heap := h' } := I.turned (t' := s.toks) (fun b o hb e => (sb.2 b hb).trans e) f0 f1 f3 f4 f5
    obtain ⟨o, e, c, d⟩ := id st'
    exact ⟨u, rfl, go_of (s := { s with heap := h' }) e c d (by decide) ⟨x, H, I1, ru, ⟨rfl, fun ys hy => by rw [I.list_inj hy hq]; exact hx⟩, st', fun b hb => (hf b hb).1⟩⟩
  done := by
    intro X hP hw hK hc i pins s σ H E I hf st hg
    subst hP hw hK
    obtain ⟨xs, hq, hx⟩ := hg
    obtain ⟨its, rv, p, hz⟩ := I.list hq
    obtain ⟨f0, f1, f2, f3, f4, f5⟩ := hf it (by simp)
    have hl := rv.length
    exact wpAny_pyNext_list_end (I.ok.hd hc) st p.isList (by simp; omega) fun h' eb => ⟨rfl, I.turned (t' := s.toks) (fun b o hb e => eb b o hb e) f0 f1 f3 f4 f5⟩
  self := fun _ _ _ _ _ st h => wpAny_pyIter_listiter st h
theorem turn_tuple {P : Program} {w : World} {K : PySem.W.Frag} {tg : Expr} (a it : Addr) : Turn P w K tg (Itt K a) [it] it (fun i h => h.IsTupleIter it a i) where
  mem := by simp
  obj := fun i h st b hb => by
    have e : b = it := by simpa using hb
    subst e
    obtain ⟨o, e, c, d⟩ := st
    exact ⟨o, e, fun v z => by rw [d] at z; cases z⟩
  keep := fun i h h' st k => st.at fun o e => k it (by simp) o e
  item := by
    intro X hP hw hK hc i pins s σ H E I hf st hg
    subst hP hw hK
    obtain ⟨xs, x, hq, hx⟩ := hg
    obtain ⟨its, rv, p, hz⟩ := I.tuple hq
    obtain ⟨u, hu, ru⟩ := rv.get hx
    obtain ⟨f0, f1, f2, f3, f4, f5⟩ := hf it (by simp)
    refine wpAny_pyNext_tuple_item st (show s.heap.IsTuple a its.toArray from p) (x := u) (by simpa using hu) fun h' st' sb => ?_
    have I1 : Inv X pins σ H { s with heap := h' } := I.turned (t' := s.toks) (fun b o hb e => (sb.2 b hb).trans e) f0 f1 f3 f4 f5
    obtain ⟨o, e, c, d⟩ := id st'
    exact ⟨u, rfl, go_of (s := { s with heap := h' }) e c d (by decide) ⟨x, H, I1, ru, ⟨rfl, fun ys hy => by rw [I.tuple_inj hy hq]; exact hx⟩, st', fun b hb => (hf b hb).1⟩⟩
  done := by
    intro X hP hw hK hc i pins s σ H E I hf st hg
    subst hP hw hK
    obtain ⟨xs, hq, hx⟩ := hg
    obtain ⟨its, rv, p, hz⟩ := I.tuple hq
    obtain ⟨f0, f1, f2, f3, f4, f5⟩ := hf it (by simp)
    have hl := rv.length
    exact wpAny_pyNext_tuple_end (I.ok.hd hc) st (show s.heap.IsTuple a its.toArray from p) (by simp; omega) fun h' eb => ⟨rfl, I.turned (t' := s.toks) (fun b o hb e => eb b o hb e) f0 f1 f3 f4 f5⟩
  self := fun _ _ _ _ _ st h => wpAny_pyIter_tupleiter st h
theorem turn_range {P : Program} {w : World} {K : PySem.W.Frag} {tg : Expr} (it : Addr) (lo : Int) (n : Nat) : Turn P w K tg (Itr lo n) [it] it (fun i h => IsRangeIter h it (lo + (i : Nat) * 1) ((n : Int) - (i : Nat)) 1) where
  mem := by simp
  obj := fun i h st b hb => by
    have e : b = it := by simpa using hb
    subst e
    exact ⟨_, st, fun v z => by
      have z' : Data.fields _ = Data.cell v := z
      cases z'⟩
  keep := fun i h h' st k => k it (by simp) _ st
  item := by
    intro X hP hw hK hc i pins s σ H E I hf st hg
    subst hP hw hK
    obtain ⟨f0, f1, f2, f3, f4, f5⟩ := hf it (by simp)
    have W := Walks.range (prog := X.prog) (w := X.w) (I.ok.hd hc) it lo 1 n
    refine W.item i s _ _ hg st fun v h' tk hv st' kk => ?_
    obtain ⟨t, rfl⟩ := hv
    have I1 : Inv X pins σ H { s with heap := h', toks := tk } := I.turned (fun b o hb e => kk b o (by simpa using hb) e) f0 f1 f3 f4 f5
    refine ⟨_, rfl, go_of (s := { s with heap := h', toks := tk }) (n := "range_iterator") st' rfl rfl (by decide) ⟨.int (lo + i), H, I1, ⟨t, ?_⟩, ⟨rfl, rfl⟩, st', fun b hb => (hf b hb).1⟩⟩
    rw [Int.mul_one]
  done := by
    intro X hP hw hK hc i pins s σ H E I hf st hg
    subst hP hw hK
    obtain ⟨f0, f1, f2, f3, f4, f5⟩ := hf it (by simp)
    exact wpAny_pyNext_range_end (I.ok.hd hc) st (by have : n ≤ i := hg; omega) fun h' eb => ⟨rfl, I.turned (t' := s.toks) (fun b o hb e => eb b o hb e) f0 f1 f3 f4 f5⟩
  self := fun _ _ _ _ _ st h => wpAny_pyIter_rangeiter st h
end L2

namespace L2
open PySem PySem.Spec PyProof.Rows
section
variable {X : Cx} {tg : Expr}
def iList (K : PySem.W.Frag) (tl : TE) : TI := fun σ H R => tl σ H fun x H1 => ∃ a, x = .ref a ∧ (∃ xs, SqL K H1 a xs) ∧ R (Itl K a) H1
def iTup (K : PySem.W.Frag) (tl : TE) : TI := fun σ H R => tl σ H fun x H1 => ∃ a, x = .ref a ∧ (∃ xs, SqT K H1 a xs) ∧ R (Itt K a) H1
theorem pi_list {l : Expr} {tl : TE} (hl : PE X l tl) : PI X tg l (iList X.K tl) := by
  intro pins s σ H R I h
  refine thn (hl pins s σ H _ I h) fun v s1 ⟨x, H1, I1, r1, q1⟩ => ?_
  obtain ⟨a, e, ⟨xs, hq⟩, q⟩ := q1
  subst e
  cases r1
  obtain ⟨its, rv, p, hz⟩ := I1.list hq
  refine wpAny_pyIter_list p.isList ?_
  refine ⟨s1.heap.objs.size, [s1.heap.objs.size], _, _, H1, rfl, I1.kept (t' := s1.toks) fun b o e => Heap.get?_push_of_some _ e, turn_list a _, ⟨_, Heap.get?_push_size _ rfl, rfl, rfl⟩, fun b hb => ?_, q⟩
  have e : b = s1.heap.objs.size := by simpa using hb
  subst e
  exact I1.fpOk (Nat.le_refl _) (I1.hok.fresh (Nat.le_refl _))
theorem pi_tup {l : Expr} {tl : TE} (hl : PE X l tl) : PI X tg l (iTup X.K tl) := by
  intro pins s σ H R I h
  refine thn (hl pins s σ H _ I h) fun v s1 ⟨x, H1, I1, r1, q1⟩ => ?_
  obtain ⟨a, e, ⟨xs, hq⟩, q⟩ := q1
  subst e
  cases r1
  obtain ⟨its, rv, p, hz⟩ := I1.tuple hq
  refine wpAny_pyIter_tuple (show s1.heap.IsTuple a its.toArray from p) ?_
  refine ⟨s1.heap.objs.size, [s1.heap.objs.size], _, _, H1, rfl, I1.kept (t' := s1.toks) fun b o e => Heap.get?_push_of_some _ e, turn_tuple a _, ⟨_, Heap.get?_push_size _ rfl, rfl, rfl⟩, fun b hb => ?_, q⟩
  have e : b = s1.heap.objs.size := by simpa using hb
  subst e
  exact I1.fpOk (Nat.le_refl _) (I1.hok.fresh (Nat.le_refl _))
/-- a range object just made, walked -/
theorem range_it {pins : List (Addr × Obj)} {σ : St} {H : Hp} {s : Shared} {R : It → Hp → Prop} {E : Value → Shared → Prop} {lo hi : Int} {t u v : Tok} {tk : Nat} (I : Inv X pins σ H s) (h1 : -(2 ^ 62) ≤ lo) (h2 : lo < 2 ^ 62) (h3 : -(2 ^ 62) ≤ hi) (h4 : hi < 2 ^ 62)
    (q : R (Itr lo (hi - lo).toNat) H) : wpAny (model X.prog X.w) X.A (pyIter (.ref s.heap.objs.size)) (PIE X pins σ tg R) E { s with heap := s.heap.push { cls := .type "range", data := .fields #[.int lo t, .int hi u, .int 1 v] }, toks := tk } := by
  refine wpAny_pyIter_range (IsRange.new ..) (small_one h1 h2 h3 h4) ?_
  have I1 : Inv X pins σ H { s with heap := s.heap.push { cls := .type "range", data := .fields #[.int lo t, .int hi u, .int 1 v] }, toks := tk } := I.kept fun b o e => Heap.get?_push_of_some _ e
  refine ⟨(s.heap.push { cls := .type "range", data := .fields #[.int lo t, .int hi u, .int 1 v] }).objs.size, [(s.heap.push { cls := .type "range", data := .fields #[.int lo t, .int hi u, .int 1 v] }).objs.size], _, _, H, rfl,
    I1.kept (t' := tk) fun b o e => Heap.get?_push_of_some _ e, turn_range _ lo (hi - lo).toNat, ?_, fun b hb => ?_, q⟩
  · have e1 : lo + ((0 : Nat) : Int) * 1 = lo := by simp
    have e2 : (((hi - lo).toNat : Nat) : Int) - ((0 : Nat) : Int) = Builtin.Range.rangeSize lo hi 1 := by rw [rangeSize_one]; split <;> omega
    show IsRangeIter _ _ (lo + ((0 : Nat) : Int) * 1) ((((hi - lo).toNat : Nat) : Int) - ((0 : Nat) : Int)) 1
    rw [e1, e2]
    exact Heap.get?_push_size _ rfl
  · have e : b = (s.heap.push { cls := .type "range", data := .fields #[.int lo t, .int hi u, .int 1 v] }).objs.size := by simpa using hb
    subst e
    exact I1.fpOk (Nat.le_refl _) (I1.hok.fresh (Nat.le_refl _))
def iRng1 (ta : TA) : TI := fun σ H R => ta σ H fun vs H1 => ∃ j : Int, vs = [.int j] ∧ -(2 ^ 62) ≤ j ∧ j < 2 ^ 62 ∧ R (Itr 0 j.toNat) H1
theorem pi_range1 {a : Expr} {ta : TA} {p pos : Pos} (hg : Gl X "range") (hm : X.mg "range" = none) (ha : PA X [a] ta) (hs : starEach [a] X.env = [(false, eval a X.env)] := by rfl) : PI X tg (.Call (.Name "range" p) [a] [] pos) (iRng1 ta) := by
  intro pins s σ H R I h
  refine Call_ (ld_blt I hg hm boot_range (PyProof.Rows.callWith_type1 (thn (ha pos pins s σ H _ I h) fun us s1 ⟨vs, H1, I1, r1, q1⟩ => ?_) hs rfl))
  obtain ⟨j, e, q1, q2, q⟩ := q1
  subst e
  cases r1 with
  | cons r rr =>
    cases rr
    obtain ⟨t, rfl⟩ := r
    exact call_range_1 (range_it I1 (by omega) (by omega) q1 q2 (by simpa using q))
/-! ### for -/
/-- W: the invariant by the turn and a measure; N: what the body is to reach -/
def tFor (wi : TI) (g : TG) (tb : TS) : TS := fun D σ H => wi σ H fun J H1 => ∃ W : Nat → Nat → St → Hp → Prop, (∃ m, W 0 m σ H1) ∧ ∀ i m σ H, W i m σ H →
  (J.stop i H ∧ D.nx σ H) ∨ (J.go i H ∧ ∃ N : St → Hp → Prop, (∀ σ' H', N σ' H' → ∃ m', m' < m ∧ W (i + 1) m' σ' H') ∧ ∀ x H', J.yld i H x H' → g x σ H' fun σ2 H2 => tb { D with nx := N, ct := N, bk := D.nx } σ2 H2)
/-- the records at fp as they stand -/
def pinsAt (fp : List Addr) (h : Heap) : List (Addr × Obj) := fp.filterMap fun b => (h.get? b).map fun o => (b, o)
theorem mem_pinsAt {fp : List Addr} {h : Heap} {b : Addr} {o : Obj} (hb : b ∈ fp) (e : h.get? b = some o) : (b, o) ∈ pinsAt fp h := List.mem_filterMap.mpr ⟨b, hb, by rw [e]; rfl⟩
theorem of_pinsAt {fp : List Addr} {h : Heap} {p : Addr × Obj} (hp : p ∈ pinsAt fp h) : p.1 ∈ fp ∧ h.get? p.1 = some p.2 := by
  obtain ⟨b, hb, e⟩ := List.mem_filterMap.mp hp
  cases q : h.get? b with
  | none => rw [q] at e; cases e
  | some o =>
    rw [q] at e
    have e' : (b, o) = p := Option.some.inj e
    subst e'
    exact ⟨hb, q⟩
theorem Inv.pinned {pins : List (Addr × Obj)} {σ : St} {H : Hp} {s : Shared} {fp : List Addr} (I : Inv X pins σ H s) (hf : ∀ b ∈ fp, FpOk X pins H b) (ho : ∀ b ∈ fp, ∃ o, s.heap.get? b = some o ∧ ∀ v, o.data ≠ .cell v) : Inv X (pins ++ pinsAt fp s.heap) σ H s :=
  I.pins_of fun p hp => (List.mem_append.mp hp).elim (fun z => I.pin p (List.mem_append_right _ z)) fun z => by
    obtain ⟨hb, e⟩ := of_pinsAt z
    obtain ⟨f0, f1, f2, _⟩ := hf p.1 hb
    obtain ⟨o, e', d⟩ := ho p.1 hb
    rw [e] at e'; cases e'
    exact ⟨e, f0, f1, f2, d⟩
theorem Inv.unpinned {pins pl : List (Addr × Obj)} {σ : St} {H : Hp} {s : Shared} (I : Inv X (pins ++ pl) σ H s) : Inv X pins σ H s := I.pins_of fun p hp => I.pin p (List.mem_append_right _ (List.mem_append_left _ hp))
theorem ps_for {iter : Expr} {body : List Stmt} {wi : TI} {g : TG} {tb : TS} {pos : Pos} (hp : PassesOwn (model X.prog X.w) X.A X.env X.xe) (hc : X.calm = true) (hi : PI X tg iter wi) (hg : PG X tg g) (hb : PSs X body tb)
    (hs : ∀ x, foldedSetIterable iter X.env x = pure x := by intro _; rfl) : PS X (.For tg iter body [] pos) (tFor wi g tb) := by
  intro pins s σ H D I h
  refine wpAny_For (thn (hi pins s σ H _ I h) fun v s1 h1 => thn h1 fun itv s2 h2 => ?_) hs
  obtain ⟨it, fp, tn, J, H2, e, I2, T, st2, f2, W, ⟨m0, w0⟩, turn⟩ := h2
  subst e
  -- what stays true of the iterator's objects through the loop
  have stat : ∀ {H' : Hp}, (∀ b ∈ fp, H' b = none) → ∀ b ∈ fp, FpOk X pins H' b := fun hn b hb => ⟨hn b hb, (f2 b hb).2⟩
  refine codeAny_forLoop_any (fun n s' => ∃ i σ' H', Inv X pins σ' H' s' ∧ tn i s'.heap ∧ (∀ b ∈ fp, H' b = none) ∧ W i n σ' H') ?_ m0 ⟨0, σ, H2, I2, st2, fun b hb => (f2 b hb).1, w0⟩
  rintro n s3 ⟨i, σ3, H3, I3, st3, fr3, w3⟩
  rcases turn i n σ3 H3 w3 with ⟨stop, qn⟩ | ⟨go, N, hN, step⟩
  · refine wpAny_passesOwn hp (thn (T.done X rfl rfl rfl hc i pins s3 σ3 H3 X.xe I3 (stat fr3) st3 stop) fun r s4 ⟨hr, I4⟩ => ?_)
    subst hr
    exact wpAny_execs_nil ⟨σ3, H3, I4, qn⟩
  · refine wpAny_passesOwn hp (thn (T.item X rfl rfl rfl hc i pins s3 σ3 H3 X.xe I3 (stat fr3) st3 go) fun r s4 ⟨u, hr, h4⟩ => ?_)
    subst hr
    refine wpAny_passesOwn hp (thn h4 fun _ s5 ⟨x, H5, I5, r5, y5, st5, fr5⟩ => ?_)
    have I5' := I5.pinned (stat fr5) (T.obj _ _ st5)
    refine wpAny_passesOwn hp (thn (hg _ s5 σ3 H5 x u _ I5' r5 (step x H5 y5)) fun _ s6 ⟨σ6, H6, I6, q6⟩ => ?_)
    refine wpAny_passesOwn hp (thn (hb _ s6 σ6 H6 _ I6 q6) fun f s7 q7 => ?_)
    have again : ∀ {σ7 : St} {H7 : Hp}, Inv X (pins ++ pinsAt fp s5.heap) σ7 H7 s7 → N σ7 H7 → ∃ m, m < n ∧ ∃ i σ' H', Inv X pins σ' H' s7 ∧ tn i s7.heap ∧ (∀ b ∈ fp, H' b = none) ∧ W i m σ' H' := fun {σ7 H7} I7 n7 => by
      obtain ⟨m', hm, w7⟩ := hN σ7 H7 n7
      refine ⟨m', hm, i + 1, σ7, H7, I7.unpinned, T.keep _ _ _ st5 fun b hb o e => (I7.pin (b, o) (List.mem_append_right _ (List.mem_append_right _ (mem_pinsAt hb e)))).1, fun b hb => ?_, w7⟩
      obtain ⟨o, e, d⟩ := T.obj _ _ st5 b hb
      exact (I7.pin (b, o) (List.mem_append_right _ (List.mem_append_right _ (mem_pinsAt hb e)))).2.1
    cases f with
    | next => obtain ⟨σ7, H7, I7, n7⟩ := q7; exact again I7 n7
    | cont => obtain ⟨σ7, H7, I7, n7⟩ := q7; exact again I7 n7
    | brk => obtain ⟨σ7, H7, I7, q7⟩ := q7; exact ⟨σ7, H7, I7.unpinned, q7⟩
    | ret v => obtain ⟨x7, σ7, H7, I7, r7, q7⟩ := q7; exact ⟨x7, σ7, H7, I7.unpinned, r7, q7⟩
end

/-! ### the forms one uses -/
/-- over a list that the body leaves as it is -/
theorem for_list {K : PySem.W.Frag} {a : Addr} {xs : List V} {g : TG} {tb : TS} {D : Ends} {σ : St} {H : Hp} (Pv : Nat → St → Hp → Prop) (h0 : Pv 0 σ H) (hl : ∀ i σ H, i ≤ xs.length → Pv i σ H → SqL K H a xs)
    (hs : ∀ i x σ H, xs[i]? = some x → Pv i σ H → g x σ H fun σ2 H2 => tb { D with nx := Pv (i + 1), ct := Pv (i + 1), bk := D.nx } σ2 H2) (hd : ∀ σ H, Pv xs.length σ H → D.nx σ H) :
    ∃ W : Nat → Nat → St → Hp → Prop, (∃ m, W 0 m σ H) ∧ ∀ i m σ H, W i m σ H →
      ((Itl K a).stop i H ∧ D.nx σ H) ∨ ((Itl K a).go i H ∧ ∃ N : St → Hp → Prop, (∀ σ' H', N σ' H' → ∃ m', m' < m ∧ W (i + 1) m' σ' H') ∧ ∀ x H', (Itl K a).yld i H x H' → g x σ H' fun σ2 H2 => tb { D with nx := N, ct := N, bk := D.nx } σ2 H2) := by
  refine ⟨fun i m σ H => m = xs.length - i ∧ i ≤ xs.length ∧ Pv i σ H, ⟨xs.length, by simp, Nat.zero_le _, h0⟩, ?_⟩
  rintro i m σ H ⟨rfl, hi, p⟩
  have q := hl i σ H hi p
  by_cases hlt : i < xs.length
  · refine .inr ⟨⟨xs, xs[i], q, by simp [hlt]⟩, Pv (i + 1), fun σ' H' p' => ⟨xs.length - (i + 1), by omega, rfl, hlt, p'⟩, fun x H' y => ?_⟩
    obtain ⟨e, y⟩ := y
    subst e
    exact hs i x σ _ (y xs q) p
  · have e : i = xs.length := by omega
    subst e
    exact .inl ⟨⟨xs, q, Nat.le_refl _⟩, hd σ H p⟩
theorem for_tup {K : PySem.W.Frag} {a : Addr} {xs : List V} {g : TG} {tb : TS} {D : Ends} {σ : St} {H : Hp} (Pv : Nat → St → Hp → Prop) (h0 : Pv 0 σ H) (hl : ∀ i σ H, i ≤ xs.length → Pv i σ H → SqT K H a xs)
    (hs : ∀ i x σ H, xs[i]? = some x → Pv i σ H → g x σ H fun σ2 H2 => tb { D with nx := Pv (i + 1), ct := Pv (i + 1), bk := D.nx } σ2 H2) (hd : ∀ σ H, Pv xs.length σ H → D.nx σ H) :
    ∃ W : Nat → Nat → St → Hp → Prop, (∃ m, W 0 m σ H) ∧ ∀ i m σ H, W i m σ H →
      ((Itt K a).stop i H ∧ D.nx σ H) ∨ ((Itt K a).go i H ∧ ∃ N : St → Hp → Prop, (∀ σ' H', N σ' H' → ∃ m', m' < m ∧ W (i + 1) m' σ' H') ∧ ∀ x H', (Itt K a).yld i H x H' → g x σ H' fun σ2 H2 => tb { D with nx := N, ct := N, bk := D.nx } σ2 H2) := by
  refine ⟨fun i m σ H => m = xs.length - i ∧ i ≤ xs.length ∧ Pv i σ H, ⟨xs.length, by simp, Nat.zero_le _, h0⟩, ?_⟩
  rintro i m σ H ⟨rfl, hi, p⟩
  have q := hl i σ H hi p
  by_cases hlt : i < xs.length
  · refine .inr ⟨⟨xs, xs[i], q, by simp [hlt]⟩, Pv (i + 1), fun σ' H' p' => ⟨xs.length - (i + 1), by omega, rfl, hlt, p'⟩, fun x H' y => ?_⟩
    obtain ⟨e, y⟩ := y
    subst e
    exact hs i x σ _ (y xs q) p
  · have e : i = xs.length := by omega
    subst e
    exact .inl ⟨⟨xs, q, Nat.le_refl _⟩, hd σ H p⟩
theorem for_range {lo : Int} {n : Nat} {g : TG} {tb : TS} {D : Ends} {σ : St} {H : Hp} (Pv : Nat → St → Hp → Prop) (h0 : Pv 0 σ H)
    (hs : ∀ i σ H, i < n → Pv i σ H → g (.int (lo + i)) σ H fun σ2 H2 => tb { D with nx := Pv (i + 1), ct := Pv (i + 1), bk := D.nx } σ2 H2) (hd : ∀ σ H, Pv n σ H → D.nx σ H) :
    ∃ W : Nat → Nat → St → Hp → Prop, (∃ m, W 0 m σ H) ∧ ∀ i m σ H, W i m σ H →
      ((Itr lo n).stop i H ∧ D.nx σ H) ∨ ((Itr lo n).go i H ∧ ∃ N : St → Hp → Prop, (∀ σ' H', N σ' H' → ∃ m', m' < m ∧ W (i + 1) m' σ' H') ∧ ∀ x H', (Itr lo n).yld i H x H' → g x σ H' fun σ2 H2 => tb { D with nx := N, ct := N, bk := D.nx } σ2 H2) := by
  refine ⟨fun i m σ H => m = n - i ∧ i ≤ n ∧ Pv i σ H, ⟨n, by simp, Nat.zero_le _, h0⟩, ?_⟩
  rintro i m σ H ⟨rfl, hi, p⟩
  by_cases hlt : i < n
  · refine .inr ⟨hlt, Pv (i + 1), fun σ' H' p' => ⟨n - (i + 1), by omega, rfl, hlt, p'⟩, fun x H' y => ?_⟩
    obtain ⟨e, y⟩ := y
    subst e y
    exact hs i σ _ hlt p
  · have e : i = n := by omega
    subst e
    exact .inl ⟨Nat.le_refl _, hd σ H p⟩
end L2

namespace L2
open PySem PySem.Spec PyProof.Rows

abbrev R2 := V → V → Hp → VK → Prop
/-- a two-place operation on values: f is binaryOp op, inplaceOp op or compareOp op -/
def OpR (X : Cx) (f : Value → Value → Sem Value) (r : R2) : Prop :=
  ∀ (pins : List (Addr × Obj)) (s : Shared) (σ : St) (H : Hp) (x y : V) (v u : Value) (Q : VK), Inv X pins σ H s → RelV x v → RelV y u → r x y H Q →
    wpAny (model X.prog X.w) X.A (f v u) (EP X pins σ Q) X.xe s
/-- a one-place operation -/
def UnR (X : Cx) (f : Value → Sem Value) (r : V → Hp → VK → Prop) : Prop :=
  ∀ (pins : List (Addr × Obj)) (s : Shared) (σ : St) (H : Hp) (x : V) (v : Value) (Q : VK), Inv X pins σ H s → RelV x v → r x H Q →
    wpAny (model X.prog X.w) X.A (f v) (EP X pins σ Q) X.xe s
/-- a call of a value that is known (a builtin, a type) with values -/
def CallR (X : Cx) (f : Value) (r : List V → Hp → VK → Prop) : Prop :=
  ∀ (pins : List (Addr × Obj)) (s : Shared) (σ : St) (H : Hp) (xs : List V) (us : List Value) (Q : VK), Inv X pins σ H s → Vals xs us → r xs H Q →
    wpAny (model X.prog X.w) X.A (call f us) (EP X pins σ Q) X.xe s
def tOp (r : R2) (ta tb : TE) : TE := fun σ H Q => ta σ H fun x H1 => tb σ H1 fun y H2 => r x y H2 Q
def tUn (r : V → Hp → VK → Prop) (ta : TE) : TE := fun σ H Q => ta σ H fun x H1 => r x H1 Q
/-- ints in, under C, and a value out -/
def rI (C : Int → Int → Prop) (g : Int → Int → V) : R2 := fun x y H Q => ∃ i j, x = .int i ∧ y = .int j ∧ C i j ∧ Q (g i j) H
def rI0 (g : Int → Int → V) : R2 := fun x y H Q => ∃ i j, x = .int i ∧ y = .int j ∧ Q (g i j) H
def rU (g : Int → V) : V → Hp → VK → Prop := fun x H Q => ∃ i, x = .int i ∧ Q (g i) H

section
variable {X : Cx} {a b c : Expr} {ta tb tc : TE} {pos : Pos}

theorem binT (ha : PE X a ta) (hb : PE X b tb) {pins : List (Addr × Obj)} {s : Shared} {σ : St} {H : Hp} {R : V → V → Hp → Prop} (I : Inv X pins σ H s)
    (h : ta σ H fun x H1 => tb σ H1 fun y H2 => R x y H2) {Q : Value → Shared → Prop} {f : Value → Value → Sem Value}
    (hf : ∀ v u s2 x y H2, Inv X pins σ H2 s2 → RelV x v → RelV y u → R x y H2 → wpAny (model X.prog X.w) X.A (f v u) Q X.xe s2) :
    wpAny (model X.prog X.w) X.A (eval a X.env) (fun v s₁ => wpAny (model X.prog X.w) X.A (eval b X.env) (fun u s₂ => wpAny (model X.prog X.w) X.A (f v u) Q X.xe s₂) X.xe s₁) X.xe s := by
  refine thn (ha pins s σ H _ I h) fun v s1 ⟨x, H1, I1, r1, q1⟩ => ?_
  refine thn (hb pins s1 σ H1 _ I1 q1) fun u s2 ⟨y, H2, I2, r2, q2⟩ => ?_
  exact hf v u s2 x y H2 I2 r1 r2 q2

theorem pe_op {op : Operator} {r : R2} (ho : OpR X (binaryOp op) r) (ha : PE X a ta) (hb : PE X b tb) : PE X (.BinOp a op b pos) (tOp r ta tb) := by
  intro pins s σ H Q I h
  exact wpAny_BinOp (binT ha hb I h fun v u s2 x y H2 I2 rx ry q => ho pins s2 σ H2 x y v u Q I2 rx ry q)
theorem pe_un {op : UnaryOp} {r : V → Hp → VK → Prop} (ho : UnR X (unaryOp op) r) (ha : PE X a ta) : PE X (.UnaryOp op a pos) (tUn r ta) := by
  intro pins s σ H Q I h
  exact UnaryOp_ (thn (ha pins s σ H _ I h) fun v s1 ⟨x, H1, I1, r1, q1⟩ => ho pins s1 σ H1 x v Q I1 r1 q1)
/-! ### ints -/
theorem opI {f : Value → Value → Sem Value} {C : Int → Int → Prop} {g : Int → Int → Int}
    (rule : ∀ (i j : Int) (t u : Tok) (s : Shared) (Q : Value → Shared → Prop) (E : Value → Shared → Prop), C i j → Q (.int (g i j) s.toks) { s with toks := s.toks + 1 } → wpAny (model X.prog X.w) X.A (f (.int i t) (.int j u)) Q E s) :
    OpR X f (rI C fun i j => .int (g i j)) := by
  intro pins s σ H x y v u Q I rx ry h
  obtain ⟨i, j, rfl, rfl, hc, q⟩ := h
  obtain ⟨t, rfl⟩ := rx
  obtain ⟨t', rfl⟩ := ry
  exact rule i j t t' s _ _ hc ⟨.int (g i j), H, I.tok _, ⟨_, rfl⟩, q⟩
theorem opI0 {f : Value → Value → Sem Value} {g : Int → Int → Int}
    (rule : ∀ (i j : Int) (t u : Tok) (s : Shared) (Q : Value → Shared → Prop) (E : Value → Shared → Prop), Q (.int (g i j) s.toks) { s with toks := s.toks + 1 } → wpAny (model X.prog X.w) X.A (f (.int i t) (.int j u)) Q E s) :
    OpR X f (rI0 fun i j => .int (g i j)) := by
  intro pins s σ H x y v u Q I rx ry h
  obtain ⟨i, j, rfl, rfl, q⟩ := h
  obtain ⟨t, rfl⟩ := rx
  obtain ⟨t', rfl⟩ := ry
  exact rule i j t t' s _ _ ⟨.int (g i j), H, I.tok _, ⟨_, rfl⟩, q⟩
theorem opB0 {f : Value → Value → Sem Value} {g : Int → Int → Bool}
    (rule : ∀ (i j : Int) (t u : Tok) (s : Shared) (Q : Value → Shared → Prop) (E : Value → Shared → Prop), Q (.bool (g i j)) s → wpAny (model X.prog X.w) X.A (f (.int i t) (.int j u)) Q E s) :
    OpR X f (rI0 fun i j => .bl (g i j)) := by
  intro pins s σ H x y v u Q I rx ry h
  obtain ⟨i, j, rfl, rfl, q⟩ := h
  obtain ⟨t, rfl⟩ := rx
  obtain ⟨t', rfl⟩ := ry
  exact rule i j t t' s _ _ ⟨.bl (g i j), H, I, rfl, q⟩

def CPow (i j : Int) : Prop := 0 ≤ j ∧ j ≤ 1000000 ∧ i.natAbs < 2 ^ 64
def CMul (i j : Int) : Prop := (-(2 ^ 64) < i ∧ i < 2 ^ 64) ∨ (-(2 ^ 64) < j ∧ j < 2 ^ 64)
theorem CMul.ok {i j : Int} (h : CMul i j) : IntMulOk i j := by
  rcases h with ⟨h1, h2⟩ | ⟨h1, h2⟩
  · exact .of_left (intBits_le_64 h1 h2)
  · exact .of_right (intBits_le_64 h1 h2)
theorem op_add : OpR X (binaryOp .Add) (rI0 fun i j => .int (i + j)) := opI0 fun _ _ _ _ _ _ _ q => add_int q
theorem op_sub : OpR X (binaryOp .Sub) (rI0 fun i j => .int (i - j)) := opI0 fun _ _ _ _ _ _ _ q => sub_int q
theorem op_mul : OpR X (binaryOp .Mult) (rI CMul fun i j => .int (i * j)) := opI fun _ _ _ _ _ _ _ hc q => mul_int q hc.ok
/-- % by a positive divisor of any size -/
theorem op_mod : OpR X (binaryOp .Mod) (rI (fun _ j => 0 < j) fun i j => .int (i % j)) := opI fun i j _ _ _ _ _ hc q => by
  have h1 : (0 : Int) < j := hc
  exact mod_int' (by omega) (by rw [Int.fmod_eq_emod_of_nonneg i (by omega)]; exact q)
theorem op_pow : OpR X (binaryOp .Pow) (rI CPow fun i j => .int (i ^ j.toNat)) := opI fun _ _ _ _ _ _ _ hc q => pow_int_small hc.1 hc.2.1 hc.2.2 q
theorem unI {f : Value → Sem Value} {g : Int → Int}
    (rule : ∀ (i : Int) (t : Tok) (s : Shared) (Q : Value → Shared → Prop) (E : Value → Shared → Prop), Q (.int (g i) s.toks) { s with toks := s.toks + 1 } → wpAny (model X.prog X.w) X.A (f (.int i t)) Q E s) :
    UnR X f (rU fun i => .int (g i)) := by
  intro pins s σ H x v Q I rx h
  obtain ⟨i, rfl, q⟩ := h
  obtain ⟨t, rfl⟩ := rx
  exact rule i t s _ _ ⟨.int (g i), H, I.tok _, ⟨_, rfl⟩, q⟩
theorem un_neg : UnR X (unaryOp .USub) (rU fun i => .int (-i)) := unI fun _ _ _ _ _ q => neg_int q
/-! ### bools among ints: n += (a < b) -/
end

/-! ### comparisons -/
/-- the scalars that == tells apart as data does -/
def scal : V → V → Bool
  | .non, .non => true | .non, .int _ => true | .int _, .non => true | .non, .bl _ => true | .bl _, .non => true | .non, .str _ => true | .str _, .non => true
  | .int _, .int _ => true | .bl _, .bl _ => true | .str _, .str _ => true | .byt _, .byt _ => true
  | .int _, .str _ => true | .str _, .int _ => true | .bl _, .str _ => true | .str _, .bl _ => true
  | _, _ => false
def rEq : R2 := fun x y H Q => scal x y = true ∧ Q (.bl (decide (x = y))) H
def rNe : R2 := fun x y H Q => scal x y = true ∧ Q (.bl (!decide (x = y))) H

theorem dec_int {i j : Int} : decide (V.int i = V.int j) = (i == j) := by
  rw [Bool.eq_iff_iff]
  simp
theorem dec_bl {i j : Bool} : decide (V.bl i = V.bl j) = (i == j) := by
  rw [Bool.eq_iff_iff]
  simp
theorem dec_str {i j : Str} : decide (V.str i = V.str j) = (i == j) := by
  rw [Bool.eq_iff_iff]
  simp
theorem dec_byt {i j : Array UInt8} : decide (V.byt i = V.byt j) = (i.toList == j.toList) := by
  rw [Bool.eq_iff_iff]
  cases i
  cases j
  simp

section
variable {X : Cx} {a b c : Expr} {ta tb tc : TE} {pos : Pos}
theorem fin_bl {pins : List (Addr × Obj)} {σ : St} {H : Hp} {s : Shared} {Q : VK} {k k' : Bool} (I : Inv X pins σ H s) (q : Q (.bl k) H) (e : k = k') : EP X pins σ Q (.bool k') s := by
  subst e
  exact ⟨.bl k, H, I, rfl, q⟩
theorem op_eq : OpR X (compareOp .Eq) rEq := by
  intro pins s σ H x y v u Q I rx ry h
  obtain ⟨hs, q⟩ := h
  cases x with
  | non =>
    cases rx
    cases y with
    | non => cases ry; exact PySem.EqNone.eq_none_none (fin_bl I q (by simp))
    | bl j => cases ry; exact PySem.EqNone.eq_none_bool (fin_bl I q (by simp))
    | int j => obtain ⟨t', rfl⟩ := ry; exact PySem.EqNone.eq_none_int (fin_bl I q (by simp))
    | str j => obtain ⟨t', rfl⟩ := ry; exact PySem.EqNone.eq_none_str (fin_bl I q (by simp))
    | _ => exact absurd (show false = true from hs) Bool.false_ne_true
  | bl i =>
    cases rx
    cases y with
    | non => cases ry; exact PySem.EqNone.eq_bool_none (fin_bl I q (by simp))
    | bl j => cases ry; exact eq_bool (fin_bl I q dec_bl)
    | str j => obtain ⟨t', rfl⟩ := ry; exact PySem.EqMixed.eq_bool_str (fin_bl I q (by simp))
    | _ => exact absurd (show false = true from hs) Bool.false_ne_true
  | int i =>
    obtain ⟨t, rfl⟩ := rx
    cases y with
    | non => cases ry; exact PySem.EqNone.eq_int_none (fin_bl I q (by simp))
    | int j => obtain ⟨t', rfl⟩ := ry; exact eq_int (fin_bl I q dec_int)
    | str j => obtain ⟨t', rfl⟩ := ry; exact PySem.EqMixed.eq_int_str (fin_bl I q (by simp))
    | _ => exact absurd (show false = true from hs) Bool.false_ne_true
  | str i =>
    obtain ⟨t, rfl⟩ := rx
    cases y with
    | non => cases ry; exact PySem.EqNone.eq_str_none (fin_bl I q (by simp))
    | bl j => cases ry; exact PySem.EqMixed.eq_str_bool (fin_bl I q (by simp))
    | int j => obtain ⟨t', rfl⟩ := ry; exact PySem.EqMixed.eq_str_int (fin_bl I q (by simp))
    | str j => obtain ⟨t', rfl⟩ := ry; exact eq_str (fin_bl I q dec_str)
    | _ => exact absurd (show false = true from hs) Bool.false_ne_true
  | byt i =>
    obtain ⟨t, rfl⟩ := rx
    cases y with
    | byt j => obtain ⟨t', rfl⟩ := ry; exact PySem.W.eq_bytes (fin_bl I q dec_byt)
    | _ => exact absurd (show false = true from hs) Bool.false_ne_true
  | _ => cases y <;> exact absurd (show false = true from hs) Bool.false_ne_true
theorem op_ne : OpR X (compareOp .NotEq) rNe := by
  intro pins s σ H x y v u Q I rx ry h
  obtain ⟨hs, q⟩ := h
  cases x with
  | non =>
    cases rx
    cases y with
    | non => cases ry; exact PySem.EqNone.ne_none_none (fin_bl I q (by simp))
    | bl j => cases ry; exact PySem.EqNone.ne_none_bool (fin_bl I q (by simp))
    | int j => obtain ⟨t', rfl⟩ := ry; exact PySem.EqNone.ne_none_int (fin_bl I q (by simp))
    | str j => obtain ⟨t', rfl⟩ := ry; exact PySem.EqNone.ne_none_str (fin_bl I q (by simp))
    | _ => exact absurd (show false = true from hs) Bool.false_ne_true
  | bl i =>
    cases rx
    cases y with
    | non => cases ry; exact PySem.EqNone.ne_bool_none (fin_bl I q (by simp))
    | bl j => cases ry; exact ne_bool (fin_bl I q (congrArg not dec_bl))
    | str j => obtain ⟨t', rfl⟩ := ry; exact PySem.EqMixed.ne_bool_str (fin_bl I q (by simp))
    | _ => exact absurd (show false = true from hs) Bool.false_ne_true
  | int i =>
    obtain ⟨t, rfl⟩ := rx
    cases y with
    | non => cases ry; exact PySem.EqNone.ne_int_none (fin_bl I q (by simp))
    | int j => obtain ⟨t', rfl⟩ := ry; exact ne_int (fin_bl I q (congrArg not dec_int))
    | str j => obtain ⟨t', rfl⟩ := ry; exact PySem.EqMixed.ne_int_str (fin_bl I q (by simp))
    | _ => exact absurd (show false = true from hs) Bool.false_ne_true
  | str i =>
    obtain ⟨t, rfl⟩ := rx
    cases y with
    | non => cases ry; exact PySem.EqNone.ne_str_none (fin_bl I q (by simp))
    | bl j => cases ry; exact PySem.EqMixed.ne_str_bool (fin_bl I q (by simp))
    | int j => obtain ⟨t', rfl⟩ := ry; exact PySem.EqMixed.ne_str_int (fin_bl I q (by simp))
    | str j => obtain ⟨t', rfl⟩ := ry; exact ne_str (fin_bl I q (congrArg not dec_str))
    | _ => exact absurd (show false = true from hs) Bool.false_ne_true
  | byt i =>
    obtain ⟨t, rfl⟩ := rx
    cases y with
    | byt j => obtain ⟨t', rfl⟩ := ry; exact PySem.W.ne_bytes (fin_bl I q (congrArg not dec_byt))
    | _ => exact absurd (show false = true from hs) Bool.false_ne_true
  | _ => cases y <;> exact absurd (show false = true from hs) Bool.false_ne_true

theorem op_lt : OpR X (compareOp .Lt) (rI0 fun i j => .bl (decide (i < j))) := opB0 fun _ _ _ _ _ _ _ q => lt_int q
theorem op_gt : OpR X (compareOp .Gt) (rI0 fun i j => .bl (decide (j < i))) := opB0 fun _ _ _ _ _ _ _ q => gt_int q
theorem op_ge : OpR X (compareOp .GtE) (rI0 fun i j => .bl (decide (j ≤ i))) := opB0 fun _ _ _ _ _ _ _ q => ge_int q
/-- is None, is not None: the right side a value none -/
theorem op_isN : OpR X (compareOp .Is) (fun x y H Q => y = .non ∧ Q (.bl (decide (x = .non))) H) := by
  intro pins s σ H x y v u Q I rx ry h
  obtain ⟨rfl, q⟩ := h
  cases ry
  refine is_none_gen (fin_bl I q ?_)
  cases x <;> first
    | (cases rx; rfl)
    | (obtain ⟨t, rfl⟩ := rx; rfl)
theorem nomark (b : Expr) {op : CmpOp} (h : op ≠ .In := by decide) (h2 : op ≠ .NotIn := by decide) : behindInMarks op b = false := by
  have e1 : (op == CmpOp.In) = false := by cases op <;> first | rfl | exact absurd rfl h
  have e2 : (op == CmpOp.NotIn) = false := by cases op <;> first | rfl | exact absurd rfl h2
  cases b <;> simp [behindInMarks, e1, e2]
/-- a comparison as a value; hm: nomark b, or (for in, not in) by with_unfolding_all rfl -/
theorem pe_cmpR {op : CmpOp} {r : R2} (ho : OpR X (compareOp op) r) (ha : PE X a ta) (hb : PE X b tb) (hm : behindInMarks op b = false) : PE X (.Compare a [op] [b] pos) (tOp r ta tb) := by
  intro pins s σ H Q I h
  exact wpAny_Compare1 (binT ha hb I h fun v u s2 x y H2 I2 rx ry q => ho pins s2 σ H2 x y v u Q I2 rx ry q) hm
/-- a reading of a value as a test -/
def tTest (t : TE) : TT := fun σ H Q => t σ H fun x H' => ∃ k, x = .bl k ∧ Q k H'
theorem pt_cmpR {op : CmpOp} {r : R2} (ho : OpR X (compareOp op) r) (ha : PE X a ta) (hb : PE X b tb) (hm : behindInMarks op b = false) : PT X (.Compare a [op] [b] pos) (tTest (tOp r ta tb)) := by
  intro pins s σ H Q I h
  refine wpAny_isTrue_Compare1 (thn (ha pins s σ H _ I h) fun v s1 ⟨x, H1, I1, r1, q1⟩ => thn (hb pins s1 σ H1 _ I1 q1) fun u s2 ⟨y, H2, I2, r2, q2⟩ =>
    thn (ho pins s2 σ H2 x y v u _ I2 r1 r2 q2) fun c s3 ⟨z, H3, I3, r3, k, e, q3⟩ => ?_) hm
  subst e
  cases r3
  exact wpAny_truthy_bool ⟨H3, I3, q3⟩
/-! ### truth -/
theorem line63 : (sizeLine : Nat) < 2 ^ 63 := by rw [sizeLine_eq]; decide
/-! ### strs and bytes -/
/-! ### scalar builtins, by CallR -/
theorem vals1 {x : V} {us : List Value} (r : Vals [x] us) : ∃ u, us = [u] ∧ RelV x u := by
  cases r with
  | cons r1 r2 => cases r2; exact ⟨_, rfl, r1⟩
theorem vals2 {x y : V} {us : List Value} (r : Vals [x, y] us) : ∃ u w', us = [u, w'] ∧ RelV x u ∧ RelV y w' := by
  cases r with
  | cons r1 r2 =>
    cases r2 with
    | cons r3 r4 => cases r4; exact ⟨_, _, rfl, r1, r3⟩
theorem call_abs : CallR X (.builtin "abs") (fun xs H Q => ∃ i, xs = [.int i] ∧ Q (.int (if i < 0 then -i else i)) H) := by
  intro pins s σ H xs us Q I r h
  obtain ⟨i, rfl, q⟩ := h
  obtain ⟨u, rfl, t, rfl⟩ := vals1 r
  exact call_abs_int fun u tk => ⟨.int (if i < 0 then -i else i), H, I.tok _, ⟨_, rfl⟩, q⟩
theorem call_min2 (hc : X.calm = true) : CallR X (.builtin "min") (fun xs H Q => ∃ i j, xs = [.int i, .int j] ∧ Q (.int (if j < i then j else i)) H) := by
  intro pins s σ H xs us Q I r h
  obtain ⟨i, j, rfl, q⟩ := h
  obtain ⟨u, w', rfl, ⟨t, rfl⟩, ⟨t', rfl⟩⟩ := vals2 r
  refine min_two_ints (I.ok.hd hc) fun h' tk k => ⟨_, H, I.kept k, ?_, q⟩
  by_cases hj : j < i
  · rw [if_pos hj, if_pos hj]; exact ⟨_, rfl⟩
  · rw [if_neg hj, if_neg hj]; exact ⟨_, rfl⟩
end
end L2

namespace L2
open PySem PySem.Spec PyProof.Rows

/-! ### an instance, its attributes a map -/
structure ObjM (h : Heap) (x dx C : Addr) (mA : Str → Option Value) : Prop where
  obj : h.get? x = some (PySem.W.instObj C dx)
  ns : h.Ns1 dx mA
  ne : dx ≠ x

theorem lookIn_ns {h : Heap} {dx : Addr} {mA : Str → Option Value} (n : h.Ns1 dx mA) : ∃ od, h.get? dx = some od ∧ ∀ name, PySem.W.lookIn name od = some (mA name) := by
  obtain ⟨o, es, ep, ho, hd, hk, _, hm⟩ := n
  refine ⟨o, ho, fun name => ?_⟩
  have e := hm name
  unfold nsFind findBy at e
  rw [← Array.find?_toList] at e
  unfold PySem.W.lookIn
  rw [hd]
  dsimp only
  split
  · rename_i y q
    rw [q] at e
    exact congrArg some e
  · rename_i q
    rw [q] at e
    have a : es.toList.any (·.refKey) = false := by
      rw [List.any_eq_false]
      intro y hy
      obtain ⟨z, t, hkey⟩ := hk y (Array.mem_toList_iff.mp hy)
      simp [DictEntry.refKey, hkey]
    have a' : ¬ es.toList.any (·.refKey) = true := by rw [a]; exact Bool.false_ne_true
    rw [if_neg a']
    exact congrArg some e

theorem ObjM.look {h : Heap} {x dx C : Addr} {mA : Str → Option Value} (I : ObjM h x dx C mA) : ∃ od, PySem.W.InstAt h x (PySem.W.instObj C dx) C (some od) ∧ ∀ name, PySem.W.lookIn name od = some (mA name) :=
  let ⟨od, ho, hl⟩ := lookIn_ns I.ns
  ⟨od, ⟨I.obj, rfl, rfl, ho⟩, hl⟩


/-! ### the attributes as a list of pairs -/
section
variable {P : Program} {w : World} {H H' : Hp} {h h' : Heap} {a C dx : Addr} {fs fs' : List (Str × V)}
theorem ins_get (hok : HOk P w H h) (e : H a = some (.ins C dx fs)) : ∃ mA, ObjM h a dx C mA ∧ (∀ f, RelO (fs.lookup f) (mA f)) ∧ PySem.Within mA (fs.map (·.1)) ∧ fs.length ≤ 1000 ∧ H dx = some (.own a) := by
  obtain ⟨d, z, ne, ob, mA, n, r, q⟩ := (show ObjOk P w H h a (.ins C dx fs) from hok a _ e)
  exact ⟨mA, ⟨ob, n, ne⟩, r, q, z, d⟩
end

/-! ### what of the text a class must have -/
structure Cls (K : PySem.W.Frag) (C : Addr) : Prop where
  pg : PySem.W.plainGet K C Str.empty = true
  hd : PySem.W.hasDictIn K C = true
  po : PySem.W.plainOver K C = true
  sa : PySem.W.findIn K (.ref C) "__setattr__" = some (some (.builtin "object.__setattr__"))
theorem Cls.get {K : PySem.W.Frag} {C : Addr} (c : Cls K C) (f : Str) : PySem.W.plainGet K C f = true := c.pg

/-! ### readings and rules -/

/-! ### isinstance -/
section
variable {X : Cx} {pins : List (Addr × Obj)} {σ : St} {H : Hp} {s : Shared} {A : Around} {E : Value → Shared → Prop} {Q : Value → Shared → Prop} {c : Value} {b : Bool}
/-- the type of a value, as the fragment's deciders take it; for an instance its class -/
inductive TyOf (K : PySem.W.Frag) (H : Hp) : V → Value → Prop where
  | non : TyOf K H .non (.type "NoneType")
  | bl (x : Bool) : TyOf K H (.bl x) (.type "bool")
  | int (i : Int) : TyOf K H (.int i) (.type "int")
  | str (x : Str) : TyOf K H (.str x) (.type "str")
  | flt (x : UInt64) : TyOf K H (.flt x) (.type "float")
  | lst {a : Addr} {xs : List V} (e : H a = some (.lst xs)) : TyOf K H (.ref a) (.type "list")
  | frz {a : Addr} {o : Obj} {xs : List V} (e : H a = some (.frz o (.lst xs))) : TyOf K H (.ref a) (.type "list")
  | tup {a : Addr} {xs : List V} (e : H a = some (.tup xs)) : TyOf K H (.ref a) (.type "tuple")
  | dK {a : Addr} {kvs : List (Key × V)} (e : H a = some (.dK kvs)) : TyOf K H (.ref a) (.type "dict")
  | dT {a : Addr} {kvs : List (List Key × V)} (e : H a = some (.dT kvs)) : TyOf K H (.ref a) (.type "dict")
  | ins {a C dx : Addr} {fs : List (Str × V)} (e : H a = some (.ins C dx fs)) (cl : Cls K C) (ha : PySem.W.findIn K (.ref C) "__class__" = some (some (.builtin "object.__class__")))
      (hn : PySem.W.specialIn K (.builtin "object.__class__") "__get__" = some (some (.builtin "getset_descriptor.__get__"))) (htk : PySem.W.takesIn K (.builtin "object.__class__") = some true)
      (hm : PySem.W.mroIn K C (.type "object") = some true) : TyOf K H (.ref a) (.ref C)
/-- isinstance(x, c) for one class c, a built-in or an own one: kitOne's answer -/
theorem isinst_ok {x : V} {u t : Value} (I : Inv X pins σ H s) (rx : RelV x u) (ty : TyOf X.K H x t) (e : PySem.W.kitOne X.K t c = some b) (h : ∀ tk, Q (.bool b) { s with toks := tk }) :
    wpAny (model X.prog X.w) A (call (.builtin "isinstance") [u, c]) Q E s := by
  cases ty with
  | non => cases (show u = Value.none from rx); exact PySem.W.kia_one PySem.W.kitx_none I.kIn True.intro e (fun z => nomatch z) h
  | bl y => cases (show u = Value.bool y from rx); exact PySem.W.kia_one PySem.W.kitx_bool I.kIn True.intro e (fun z => nomatch z) h
  | int i => obtain ⟨t, q⟩ := (show ∃ t, u = Value.int i t from rx); cases q; exact PySem.W.kia_one PySem.W.kitx_int I.kIn True.intro e (fun z => nomatch z) h
  | str y => obtain ⟨t, q⟩ := (show ∃ t, u = Value.str y t from rx); cases q; exact PySem.W.kia_one PySem.W.kitx_str I.kIn True.intro e (fun z => nomatch z) h
  | flt y => obtain ⟨t, q⟩ := (show ∃ t, u = Value.float y t from rx); cases q; exact PySem.W.kia_one PySem.W.kitx_float I.kIn True.intro e (fun z => nomatch z) h
  | @lst a xs ea =>
    cases (show u = Value.ref a from rx)
    obtain ⟨_, _, n, _, h1⟩ := (show ObjOk X.prog X.w H s.heap a (.lst xs) from I.hok a _ ea)
    exact PySem.W.kia_one PySem.W.kitx_list I.kIn ⟨_, h1, rfl⟩ e (fun z => nomatch z) h
  | @frz a ob xs ea =>
    cases (show u = Value.ref a from rx)
    obtain ⟨_, _, _, n, _, h1⟩ := (show ObjOk X.prog X.w H s.heap a (.frz ob (.lst xs)) from I.hok a _ ea)
    exact PySem.W.kia_one PySem.W.kitx_list I.kIn ⟨_, h1, rfl⟩ e (fun z => nomatch z) h
  | @tup a xs ea =>
    cases (show u = Value.ref a from rx)
    obtain ⟨_, _, _, p⟩ := (show ObjOk X.prog X.w H s.heap a (.tup xs) from I.hok a _ ea)
    obtain ⟨o, h1, h2, _⟩ := p
    exact PySem.W.kia_one PySem.W.kitx_tuple I.kIn ⟨o, h1, h2⟩ e (fun z => nomatch z) h
  | @dK a kvs ea =>
    cases (show u = Value.ref a from rx)
    obtain ⟨_, _, vs, _, p⟩ := (show ObjOk X.prog X.w H s.heap a (.dK kvs) from I.hok a _ ea)
    obtain ⟨o, es, ep, h1, h2, _⟩ := p
    exact PySem.W.kia_one PySem.W.kitx_dict I.kIn ⟨o, h1, h2.1⟩ e (fun z => nomatch z) h
  | @dT a kvs ea =>
    cases (show u = Value.ref a from rx)
    obtain ⟨_, _, xs, _, o, es, ep, h1, h2, _⟩ := (show ObjOk X.prog X.w H s.heap a (.dT kvs) from I.hok a _ ea)
    exact PySem.W.kia_one PySem.W.kitx_dict I.kIn ⟨o, h1, h2.1⟩ e (fun z => nomatch z) h
  | @ins a C dx fs ea cl ha hn htk hm =>
    cases (show u = Value.ref a from rx)
    obtain ⟨mA, O, _⟩ := ins_get I.hok ea
    obtain ⟨od, J, _⟩ := O.look
    exact PySem.W.kia_one (PySem.W.kitx_own (cl.get _) cl.hd ha hn htk hm) I.kIn J e (fun z => nomatch z) h
end
end L2

namespace L2
open PySem PySem.Spec PyProof.Rows

/-! ### room -/
structure Room (k : Nat) (A : Around) : Prop where
  hd : A.handled = none
  dp : A.depth + 3 * k + 5 < recursionLimit
  un : A.units + 16 * k + 200 < cLine
theorem Room.mono {j k : Nat} {A : Around} (r : Room k A) (h : j ≤ k) : Room j A := ⟨r.hd, by have := r.dp; omega, by have := r.un; omega⟩
theorem Room.deeper {k : Nat} {A : Around} (r : Room (k + 1) A) (env : Env) : Room k (A.deeper env) :=
  ⟨r.hd, by have := r.dp; show A.depth + 1 + 3 * k + 5 < _; omega, by have := r.un; show A.units + 3 + 16 * k + 200 < _; omega⟩
theorem Room.depth {k : Nat} {A : Around} (r : Room k A) : A.depth < recursionLimit := by have := r.dp; omega
theorem Room.units {k : Nat} {A : Around} (r : Room k A) : A.units + 64 < cLine := by have := r.un; omega
/-! ### argument lists and displays -/
def tNil : TA := fun _ H Q => Q [] H
def tCons (ta : TE) (tr : TA) : TA := fun σ H Q => ta σ H fun x H1 => tr σ H1 fun xs H2 => Q (x :: xs) H2
section
variable {X : Cx} {e : Expr} {es : List Expr} {te : TE} {t : TA} {pos : Pos}
theorem pa_nil : PA X [] tNil := fun _ _ _ _ H Q I h => Calls.spliced_nil ⟨[], H, I, .nil, h⟩
theorem pa_cons (ha : PE X e te) (hr : PA X es t) (hs : starEach (e :: es) X.env = (false, eval e X.env) :: starEach es X.env := by rfl) : PA X (e :: es) (tCons te t) := by
  intro pos pins s σ H Q I h
  rw [hs]
  show wpAny _ _ (spliced ((false, eval e X.env) :: backTo pos (starEach es X.env))) _ _ s
  refine Calls.spliced_cons (thn (ha pins s σ H _ I h) fun u s1 ⟨x, H1, I1, r1, q1⟩ => ?_)
  exact thn (hr pos pins s1 σ H1 _ I1 q1) fun us s2 ⟨xs, H2, I2, r2, q2⟩ => ⟨x :: xs, H2, I2, .cons r1 r2, q2⟩

/-- a tuple, a list of written items -/
def tTup (t : TA) : TE := fun σ H Q => t σ H fun xs H1 => xs.length ≤ sizeLine ∧ ∀ p, H1 p = none → Q (.ref p) (upd H1 p (.tup xs))
def tLst (t : TA) : TE := fun σ H Q => t σ H fun xs H1 => xs.length ≤ sizeLine ∧ ∀ p, H1 p = none → Q (.ref p) (upd H1 p (.lst xs))
theorem pe_tup {x1} (h : PA X es t) : PE X (.Tuple es x1 pos) (tTup t) := by
  intro pins s σ H Q I hq
  refine wpAny_Tuple_spliced (thn (h pos pins s σ H _ I hq) fun us s1 ⟨xs, H1, I1, r, z, q⟩ => ⟨by rw [← r.length]; exact z, ?_⟩)
  have hf : H1 s1.heap.objs.size = none := I1.hok.fresh (Nat.le_refl _)
  refine ⟨.ref s1.heap.objs.size, upd H1 s1.heap.objs.size (.tup xs), I1.laid (t' := s1.toks) (fun b u e => Heap.get?_push_of_some _ e) (Nat.le_refl _) ?_, rfl, q _ hf⟩
  exact ⟨z, us, r, ⟨_, Heap.get?_push_size _ rfl, rfl, _, rfl⟩⟩
theorem pe_lst (h : PA X es t) : PE X (.List es pos) (tLst t) := by
  intro pins s σ H Q I hq
  refine wpAny_List_spliced (thn (h pos pins s σ H _ I hq) fun us s1 ⟨xs, H1, I1, r, z, q⟩ => ⟨by rw [← r.length]; exact z, ?_⟩)
  have hf : H1 s1.heap.objs.size = none := I1.hok.fresh (Nat.le_refl _)
  refine ⟨.ref s1.heap.objs.size, upd H1 s1.heap.objs.size (.lst xs), I1.laid (t' := s1.toks) (fun b u e => Heap.get?_push_of_some _ e) (Nat.le_refl _) ?_, rfl, q _ hf⟩
  exact ⟨z, us, 0, r, Heap.get?_push_size _ rfl⟩
end

/-! ### what a def promises -/
/-- a def's promise: the bound arguments in the parameters' order, the heap, the wanted end, the wanted exception -/
abbrev Sp := List V → Hp → VK → XK → Prop
/-- how an exception lies behind a call (file 08 gives it): the callers' frames, abstract heap and state ahead of the call, the wish, the exception, the state -/
abbrev CXT := List Env → Hp → Shared → XK → Value → Shared → Prop

/-- the state at a call -/
structure Env0 (P : Program) (w : World) (K : PySem.W.Frag) (mg : Str → Option Value) (base : Heap) (A : Around) (outer : List Env) (s : Shared) (H : Hp) : Prop where
  frames : A.frames = some outer
  mod : Mod K mg base
  bs : ∀ b o, base.get? b = some o → s.heap.get? b = some o ∧ H b = none
  bsz : base.objs.size ≤ s.heap.objs.size
  funs : s.heap.FunFrames base outer
  frf : ∀ b ∈ frs outer, H b = none
  hok : HOk P w H s.heap
  bare : AllBare s.gens
/-- a call's end -/
def CE (outer : List Env) (P : Program) (w : World) (H : Hp) (s : Shared) (Q : VK) (u : Value) (s' : Shared) : Prop :=
  ∃ v H', s'.os = s.os ∧ AllBare s'.gens ∧ Un (frs outer) [] H H' s.heap s'.heap ∧ HOk P w H' s'.heap ∧ RelV v u ∧ Q v H'
def CR (CX : CXT) (outer : List Env) (P : Program) (w : World) (H : Hp) (s : Shared) (Q : VK) (E : XK) (r : Result) (s' : Shared) : Prop :=
  match r with
  | .ok (.ret u) => CE outer P w H s Q u s'
  | .ok _ => False
  | .error e => CX outer H s E e s'
structure FnOk (P : Program) (w : World) (K : PySem.W.Frag) (mg : Str → Option Value) (base : Heap) (CX : CXT) (k : Nat) (f : Addr) (fd : FuncData) (ps : List Str) (sp : Sp) : Prop where
  len : ∀ vs H Q E, sp vs H Q E → vs.length = ps.length
  run : ∀ (A : Around) (outer : List Env) (s : Shared) (H : Hp) (args : Args) (us : List Value) (vs : List V) (Q : VK) (E : XK), Room k A → Env0 P w K mg base A outer s H → BindsTo s fd args (ps.zip us) → Vals vs us → sp vs H Q E →
    codeAny (model P w) A (.call (.ref f) args) (CR CX outer P w H s Q E) s
theorem FnOk.mono {P : Program} {w : World} {K : PySem.W.Frag} {mg : Str → Option Value} {base : Heap} {CX : CXT} {j k : Nat} {f : Addr} {fd : FuncData} {ps : List Str} {sp : Sp} (F : FnOk P w K mg base CX j f fd ps sp) (h : j ≤ k) :
    FnOk P w K mg base CX k f fd ps sp := ⟨F.len, fun A outer s H args us vs Q E hr => F.run A outer s H args us vs Q E (hr.mono h)⟩
section
variable {X : Cx} {pins : List (Addr × Obj)} {σ : St} {H : Hp} {s s' : Shared}
/-- from a body: what a callee wants -/
theorem Inv.env0 (I : Inv X pins σ H s) : Env0 X.prog X.w X.K X.mg X.base X.A X.stack s H :=
  ⟨I.ok.frames, I.ok.mod, I.bs, Nat.le_trans I.ok.bsz I.sz, I.stack, I.stkFree, I.hok, I.bare⟩
/-- behind a call -/
theorem Inv.after {Q : VK} {u : Value} (I : Inv X pins σ H s) (h : CE X.stack X.prog X.w H s Q u s') : EP X pins σ Q u s' := by
  obtain ⟨v, H', os, bare, un, hok, r, q⟩ := h
  obtain ⟨hh, g, d, t, os'⟩ := s'
  obtain rfl : os' = s.os := os
  exact ⟨v, H', I.call (h' := hh) (g' := g) (d' := d) (t' := t) (ch := []) un hok bare (fun b z => absurd z (by simp)), r, q⟩
end

/-! ### calls -/
/-- f(..): the written arguments, then the defaults dvs; E: what is wanted of an exception -/
def tCall (sp : Sp) (dvs : List V) (E : XK) (t : TA) : TE := fun σ H Q => t σ H fun vs H1 => sp (vs ++ dvs) H1 Q E
/-- how the parameters are bound: us the positional arguments, kw the keywords' values by name, ds the defaults that fill up -/
def Binds (K : PySem.W.Frag) (fd : FuncData) (ps : List Str) (ds : List Value) : Prop :=
  ∀ (s : Shared) (us : List Value), K.In s.heap → (us ++ ds).length = ps.length → BindsTo s fd ⟨us, []⟩ (ps.zip (us ++ ds))
/-- every parameter is given -/
theorem Binds.all {K : PySem.W.Frag} {fd : FuncData} {ps : List Str} (h : ∀ us : List Value, us.length = ps.length → bindArgs fd ⟨us, []⟩ = pure (ps.zip us)) : Binds K fd ps [] := fun s us _ hl => by
  rw [List.append_nil] at hl ⊢
  exact .of_eq (h us hl)

/-- an exception of a callee reaches what this body wants of exceptions -/
def Passes (CX : CXT) (X : Cx) (E : XK) : Prop := ∀ (pins : List (Addr × Obj)) (σ : St) (H : Hp) (s : Shared) (e : Value) (s' : Shared), Inv X pins σ H s → CX X.stack H s E e s' → X.xe e s'

section
variable {X : Cx} {CX : CXT} {k : Nat} {f C : Addr} {fd : FuncData} {ps : List Str} {sp : Sp} {dvs : List V} {ds : List Value} {E : XK} {x m : Str} {p pos apos : Pos} {e o : Expr} {es : List Expr} {ta : TE} {t : TA}

/-- the callee runs -/
theorem run_fn {pins : List (Addr × Obj)} {σ : St} {H : Hp} {s : Shared} {Q : VK} {us : List Value} {vs : List V} (F : FnOk X.prog X.w X.K X.mg X.base CX k f fd ps sp) (hr : Room k X.A) (hb : Binds X.K fd ps ds) (hd : Vals dvs ds) (hx : Passes CX X E)
    (I : Inv X pins σ H s) (r : Vals vs us) (h : sp (vs ++ dvs) H Q E) : wpAny (model X.prog X.w) X.A (call (.ref f) us) (EP X pins σ Q) X.xe s := by
  have r2 : Vals (vs ++ dvs) (us ++ ds) := r.append hd
  have hl : (us ++ ds).length = ps.length := by rw [← r2.length]; exact F.len _ _ _ _ h
  refine wpAny_call (codeAny_mono (F.run X.A X.stack s H ⟨us, []⟩ (us ++ ds) (vs ++ dvs) Q E hr I.env0 (hb s us I.kIn hl) r2 h) fun r s' hq => ?_)
  cases r with
  | error e => exact hx pins σ H s e s' I hq
  | ok fl =>
    cases fl with
    | ret u => exact I.after hq
    | next => exact False.elim hq
    | brk => exact False.elim hq
    | cont => exact False.elim hq

theorem pe_call (F : FnOk X.prog X.w X.K X.mg X.base CX k f fd ps sp) (hr : Room k X.A) (hg : Gl X x) (hm : X.mg x = some (.ref f)) (hk : PySem.W.keepIn X.K (.ref f) = true) (hb : Binds X.K fd ps ds) (hd : Vals dvs ds) (hx : Passes CX X E)
    (ha : PA X (e :: es) t) (hdb : (x == ("__debug__" : Str)) = false := by decide) (he : starEach (e :: es) X.env = (false, eval e X.env) :: starEach es X.env := by rfl) (hpl : (backTo pos (starEach es X.env)).any (·.1) = false := by rfl) :
    PE X (.Call (.Name x p) (e :: es) [] pos) (tCall sp dvs E t) := by
  intro pins s σ H Q I h
  refine wpAny_Call_Name_kw (ld_glob I hg hm ?_ hdb)
  refine PySem.W.callWith_K (h₀ := X.base) I.ok.mod.kin hk (thn (ha pos pins s σ H _ I h) fun us s1 ⟨vs, H1, I1, r, q⟩ => ⟨I1.kIn, ?_⟩) he hpl
  exact run_fn F hr hb hd hx I1 r q
end

/-! ### keywords -/

/-! ### a def's body keeps its promise -/
/-- names: the parameters first -/
structure FnScope (N P : List Str) (sc : Scope) : Prop where
  kind : sc.kind = .function
  co : sc.isCoroutine = false
  gen : sc.isGenerator = false
  nd : N.Nodup
  pre : N.take P.length = P
  par : ∀ x ∈ P, sc.names.lookup x = some .local ∨ sc.names.lookup x = some .cell
  nofree : ∀ y ∈ sc.names, y.2 ≠ .free

theorem bindL_out {kindOf : Str → Option NameKind} {x : Str} : ∀ {binds : List (Str × Value)} {m : Str → Option Value}, (∀ v, (x, v) ∉ binds) → bindL kindOf binds m x = m x
  | [], _, _ => rfl
  | (n, v) :: r, m, h => by
    unfold bindL
    rw [bindL_out fun w hw => h w (List.mem_cons_of_mem _ hw)]
    split
    · have : x ≠ n := by rintro rfl; exact h v List.mem_cons_self
      simp [this]
    · rfl
theorem bindC_out {kindOf : Str → Option NameKind} {x : Str} : ∀ {binds : List (Str × Value)} {m : Str → Option Value}, (∀ v, (x, v) ∉ binds) → bindC kindOf binds m x = m x
  | [], _, _ => rfl
  | (n, v) :: r, m, h => by
    unfold bindC
    rw [bindC_out fun w hw => h w (List.mem_cons_of_mem _ hw)]
    split
    · rfl
    · have : x ≠ n := by rintro rfl; exact h v List.mem_cons_self
      simp [this]
theorem bindL_get {kindOf : Str → Option NameKind} {x : Str} {v : Value} : ∀ {P : List Str} {vs : List Value} {i : Nat} {m : Str → Option Value}, P.Nodup → P[i]? = some x → vs[i]? = some v → kindOf x = some .local →
    bindL kindOf (P.zip vs) m x = some v
  | [], _, _, _, _, h, _, _ => by simp at h
  | _ :: _, [], _, _, _, _, h, _ => by simp at h
  | p :: P, w :: vs, 0, m, nd, h1, h2, hk => by
    simp at h1 h2; subst h1; subst h2
    show bindL kindOf ((p, w) :: P.zip vs) m p = _
    unfold bindL
    rw [bindL_out fun v hv => (List.nodup_cons.mp nd).1 (List.of_mem_zip hv).1, if_pos hk]
    simp
  | p :: P, w :: vs, i + 1, m, nd, h1, h2, hk => by
    show bindL kindOf ((p, w) :: P.zip vs) m x = _
    unfold bindL
    exact bindL_get (i := i) (List.nodup_cons.mp nd).2 (by simpa using h1) (by simpa using h2) hk
theorem bindC_get {kindOf : Str → Option NameKind} {x : Str} {v : Value} : ∀ {P : List Str} {vs : List Value} {i : Nat} {m : Str → Option Value}, P.Nodup → P[i]? = some x → vs[i]? = some v → kindOf x ≠ some .local →
    bindC kindOf (P.zip vs) m x = some v
  | [], _, _, _, _, h, _, _ => by simp at h
  | _ :: _, [], _, _, _, _, h, _ => by simp at h
  | p :: P, w :: vs, 0, m, nd, h1, h2, hk => by
    simp at h1 h2; subst h1; subst h2
    show bindC kindOf ((p, w) :: P.zip vs) m p = _
    unfold bindC
    rw [bindC_out fun v hv => (List.nodup_cons.mp nd).1 (List.of_mem_zip hv).1, if_neg hk]
    simp
  | p :: P, w :: vs, i + 1, m, nd, h1, h2, hk => by
    show bindC kindOf ((p, w) :: P.zip vs) m x = _
    unfold bindC
    exact bindC_get (i := i) (List.nodup_cons.mp nd).2 (by simpa using h1) (by simpa using h2) hk

/-- the names' values at the entry -/
def start (N : List Str) (vs : List V) : St := vs.map some ++ List.replicate (N.length - vs.length) none

/-- the context of a def's body, at its entry; an exception leaves the frame, then lies as CX says -/
def cxOf (CX : CXT) (P : Program) (w : World) (K : PySem.W.Frag) (mg : Str → Option Value) (base : Heap) (N : List Str) (qual : Str) (scope : Scope) (f : Addr) (cd : Value) (A : Around) (outer : List Env) (s : Shared) (H : Hp) (E : XK) : Cx where
  prog := P
  w := w
  K := K
  mg := mg
  base := base
  A := A.deeper (envOfC qual scope s.heap.objs.size f cd)
  N := N
  s₀ := s
  H₀ := H
  env := envOfC qual scope s.heap.objs.size f cd
  outer := outer
  stack := envOfC qual scope s.heap.objs.size f cd :: outer
  ex := []
  calm := true
  fn := fun _ => true
  pn := []
  xe := fun e s' => wpAny (model P w) (A.deeper (envOfC qual scope s.heap.objs.size f cd)) (leaving (envOfC qual scope s.heap.objs.size f cd) e) (fun _ s'' => CX outer H s E e s'') (fun e' s'' => CX outer H s E e' s'') s'

theorem cell_has {sc : Scope} {n : Nat} {x : Str} (h : sc.names.lookup x = some .cell) : ∃ c, (cellsFrom n sc.names []).lookup x = some c := by
  have q := PySem.W.cellsFrom_some sc.names n [] (.inl h)
  exact Option.isSome_iff_exists.mp q

theorem inv_start {CX : CXT} {P : Program} {w : World} {K : PySem.W.Frag} {mg : Str → Option Value} {base : Heap} {N ps : List Str} {qual : Str} {scope : Scope} {f : Addr} {cd : Value} {A : Around} {outer : List Env} {s s1 : Shared} {H : Hp} {E : XK} {us : List Value} {vs : List V}
    (S : FnScope N ps scope) (hd : A.handled = none) (e0 : Env0 P w K mg base A outer s H) (hl : vs.length = ps.length) (r : Vals vs us)
    (x : InCallC s s.heap.objs.size (bindL (envOfC qual scope s.heap.objs.size f cd).kindOf (ps.zip us) fun _ => none) (cellsFrom (s.heap.objs.size + 1) scope.names []) (bindC (envOfC qual scope s.heap.objs.size f cd).kindOf (ps.zip us) fun _ => none) s1) :
    Inv (cxOf CX P w K mg base N qual scope f cd A outer s H E) [] (start N vs) H s1 := by
  have hpl : ps.length ≤ N.length := by have := congrArg List.length S.pre; rw [List.length_take] at this; omega
  obtain ⟨h1, tk, rfl, hk⟩ := x.done
  have noA : ∀ b : Addr, b ∉ (cxOf CX P w K mg base N qual scope f cd A outer s H E).ex := fun b z => absurd (show b ∈ ([] : List Addr) from z) (by simp)
  refine ⟨⟨e0.mod, S.kind, rfl, rfl, Nat.le_refl _, fun y z c h1 h2 => ?_, fun y hy => ?_, fun y c _ h => ?_, fun _ => hd, Around.frames_deeper e0.frames, .inr ⟨rfl, rfl⟩, fun b z => absurd z (noA b), e0.bs, e0.bsz, fun b _ _ => noA b, fun b z => absurd z (noA b), e0.funs, e0.frf⟩,
    rfl, e0.bare, Un.kept hk, ⟨_, x.toInCall.ns, fun i y v h1 h2 h3 => ?_⟩, fun y c h => ⟨_, x.cell y c h⟩, e0.hok.fresh (Nat.le_refl _), fun y c h => ?_, fun p hp => absurd (show p ∈ ([] : List (Addr × Obj)) from hp) (by simp), e0.hok.kept hk, ?_⟩
  · exact name_of_addr x.apart (PySem.mem_of_lookup h1) (PySem.mem_of_lookup h2)
  · have hy : scope.names.lookup y = some .cell ∨ scope.names.lookup y = some .free := hy
    rcases hy with hy | hy
    · exact cell_has hy
    · exact absurd rfl (S.nofree _ (PySem.mem_of_lookup hy))
  · exact Nat.le_of_lt (x.above y c (PySem.mem_of_lookup h))
  · have hi : i < vs.length := by
      unfold start at h2
      by_cases hi : i < vs.length
      · exact hi
      · rw [List.getElem?_append_right (by simpa using hi)] at h2
        rw [List.getElem?_replicate] at h2
        split at h2 <;> cases h2
    have ha : vs[i]? = some v := by
      unfold start at h2
      rw [List.getElem?_append_left (by simpa using hi), List.getElem?_map] at h2
      cases e : vs[i]? with
      | none => rw [e] at h2; cases h2
      | some a => rw [e] at h2; cases h2; rfl
    obtain ⟨u, hu, rv⟩ := r.get ha
    have hp : ps[i]? = some y := by
      rw [← S.pre, List.getElem?_take_of_lt (by omega)]; exact h1
    have ndP : ps.Nodup := by rw [← S.pre]; exact S.nd.sublist (List.take_sublist _ _)
    refine ⟨u, rv, ?_⟩
    rcases S.par y (List.mem_of_getElem? hp) with k | k
    · exact .inl ⟨k, bindL_get ndP hp hu k⟩
    · obtain ⟨c, e⟩ := cell_has (n := s.heap.objs.size + 1) k
      refine .inr ⟨.inl k, c, e, ?_⟩
      have q := x.cell y c e
      rw [bindC_get ndP hp hu (by show scope.names.lookup y ≠ _; rw [k]; decide)] at q
      exact q
  · exact e0.hok.fresh (Nat.le_of_lt (x.above y c (PySem.mem_of_lookup h)))
  · unfold start
    show _ = N.length
    rw [List.length_append, List.length_map, List.length_replicate]
    omega

/-- THE RULE: a def (or a method) of the text, by its body. The body's reading t is chosen for each entry; it is run at the parameters' values -/
theorem fn_of {CX : CXT} {P : Program} {w : World} {K : PySem.W.Frag} {mg : Str → Option Value} {base : Heap} {k : Nat} {f : Addr} {name qual : Str} {params : Arguments} {body : List Stmt} {scope : Scope} {dV kV doc pm cdv ct oc : Value} {an od : Option Addr}
    {osl : Array (Option Value)} {N ps : List Str} {sp : Sp} (lk : K.lookup f = some ⟨oc, od, .func (PySem.W.fnOf name qual params body scope dV kV doc pm an cdv ct), osl⟩) (hcd : PySem.W.codeIn K cdv qual = true) (S : FnScope N ps scope)
    (len : ∀ vs H Q E, sp vs H Q E → vs.length = ps.length)
    (hbody : ∀ (A : Around) (outer : List Env) (s : Shared) (H : Hp) (vs : List V) (Q : VK) (E : XK), Room k (A.deeper (envOfC qual scope s.heap.objs.size f cdv)) → sp vs H Q E →
      ∃ t, PSs (cxOf CX P w K mg base N qual scope f cdv A outer s H E) body t ∧ t { nx := fun _ H' => Q .non H', rt := Q } (start N vs) H) :
    FnOk P w K mg base CX (k + 1) f (PySem.W.fnOf name qual params body scope dV kV doc pm an cdv ct) ps sp := by
  refine ⟨len, fun A outer s H args us vs Q E hr e0 hb r hsp => ?_⟩
  have hl := len _ _ _ _ hsp
  have KX : K.In s.heap := e0.mod.kin.keeps fun b o e => (e0.bs b o e).1
  have lim : s.heap.NoLimit := e0.mod.nolimit.keeps fun b o e => (e0.bs b o e).1
  have hkind : ∀ y ∈ ps.zip us, scope.names.lookup y.1 = some .local ∨ (scope.names.lookup y.1 = some .cell ∧ ((cellsFrom (s.heap.objs.size + 1) scope.names []).lookup y.1).isSome = true) := fun ⟨n, v⟩ hy => by
    rcases S.par n (List.of_mem_zip hy).1 with q | q
    · exact .inl q
    · exact .inr ⟨q, PySem.W.cellsFrom_some _ _ _ (.inl q)⟩
  refine codeAny_call_function hr.depth (KX _ _ lk) rfl S.co S.gen rfl (PySem.W.codeRec_of KX hcd) (hb _ _ _ _ ?_)
  refine wpAny_newFunctionEnv_cells S.kind hkind fun env he s1 x => ?_
  subst he
  refine ⟨lim.keeps x.toInCall.keep, codeAny_func ?_⟩
  obtain ⟨t, ht, hq⟩ := hbody A outer s H vs Q E (hr.deeper _) hsp
  have I : Inv (cxOf CX P w K mg base N qual scope f cdv A outer s H E) [] (start N vs) H s1 := inv_start S hr.hd e0 hl r x
  refine wpAny_mono (ht [] s1 (start N vs) H _ I hq) (fun fl s' hs => ?_) fun e s' hs => hs
  have fin : ∀ {σ' : St} {H' : Hp} {v : V} {u : Value}, Inv (cxOf CX P w K mg base N qual scope f cdv A outer s H E) [] σ' H' s' → RelV v u → Q v H' → CE outer P w H s Q u s' :=
    fun {σ' H' v u} J rv q => ⟨v, H', J.os, J.bare, J.base, J.hok, rv, q⟩
  cases fl with
  | ret u =>
    obtain ⟨v, σ', H', J, rv, q⟩ := hs
    exact fin J rv q
  | next =>
    obtain ⟨σ', H', J, q⟩ := hs
    exact fin (v := V.non) (u := Value.none) J rfl q
  | brk =>
    obtain ⟨_, _, _, q⟩ := hs
    exact False.elim q
  | cont =>
    obtain ⟨_, _, _, q⟩ := hs
    exact False.elim q
end L2

namespace L2
open PySem PySem.Spec PyProof.Rows
section
variable {X : Cx} {x : Str} {p pos : Pos} {e : Expr} {es : List Expr} {t : TA} {id T : String} {r : List V → Hp → VK → Prop}

def tCB (r : List V → Hp → VK → Prop) (t : TA) : TE := fun σ H Q => t σ H fun vs H1 => r vs H1 Q
/-- f(e, ..), f a built-in function -/
theorem pe_callB (hc : CallR X (.builtin id) r) (hg : Gl X x) (hm : X.mg x = none) (hv : bootBuiltins x = some (.builtin id)) (ha : PA X (e :: es) t) (hn : x ≠ "__name__" := by decide) (hdb : (x == ("__debug__" : Str)) = false := by decide)
    (he : starEach (e :: es) X.env = (false, eval e X.env) :: starEach es X.env := by rfl) (hpl : (backTo pos (starEach es X.env)).any (·.1) = false := by rfl) : PE X (.Call (.Name x p) (e :: es) [] pos) (tCB r t) := by
  intro pins s σ H Q I h
  refine wpAny_Call_Name_kw (ld_blt I hg hm hv ?_ hn hdb)
  exact PyProof.Rows.callWith_builtin1 (thn (ha pos pins s σ H _ I h) fun us s1 ⟨vs, H1, I1, r1, q1⟩ => hc pins s1 σ H1 vs us Q I1 r1 q1) he hpl
/-- T(e, ..), T a built-in type -/
theorem pe_callTy (hc : CallR X (.type T) r) (hg : Gl X x) (hm : X.mg x = none) (hv : bootBuiltins x = some (.type T)) (ha : PA X (e :: es) t) (hn : x ≠ "__name__" := by decide) (hdb : (x == ("__debug__" : Str)) = false := by decide)
    (he : starEach (e :: es) X.env = (false, eval e X.env) :: starEach es X.env := by rfl) (hpl : (backTo pos (starEach es X.env)).any (·.1) = false := by rfl) : PE X (.Call (.Name x p) (e :: es) [] pos) (tCB r t) := by
  intro pins s σ H Q I h
  refine wpAny_Call_Name_kw (ld_blt I hg hm hv ?_ hn hdb)
  exact PyProof.Rows.callWith_type1 (thn (ha pos pins s σ H _ I h) fun us s1 ⟨vs, H1, I1, r1, q1⟩ => hc pins s1 σ H1 vs us Q I1 r1 q1) he hpl
end
end L2

namespace HT
open PySem PyProof.Rows


section
variable {prog : Program} {w : World} {A : Around} {E : Value → Shared → Prop} {s : Shared}

/-! ### t[a:b], not the whole -/
/-- a slice's bound as a place among n (d where it is left out) -/
def sIx (n d : Nat) : Option Int → Nat
  | none => d
  | some v => if v < 0 then (v + (n : Int)).toNat else min v.toNat n
theorem sIx_nat (n d k : Nat) : sIx n d (some (k : Int)) = min k n := by
  show (if (k : Int) < 0 then ((k : Int) + (n : Int)).toNat else min (k : Int).toNat n) = min k n
  rw [if_neg (by omega), Int.toNat_natCast]
theorem sIx_le (n d : Nat) (hd : d ≤ n) (o : Option Int) : sIx n d o ≤ n := by
  cases o with
  | none => exact hd
  | some v =>
    show (if v < 0 then (v + (n : Int)).toNat else min v.toNat n) ≤ n
    by_cases hv : v < 0
    · rw [if_pos hv]; omega
    · rw [if_neg hv]; exact Nat.min_le_right _ _
theorem clip_eq (v : Int) (n d : Nat) : (if v < 0 then max (v + (n : Int)) 0 else min v (n : Int)) = ((sIx n d (some v) : Nat) : Int) := by
  show (if v < 0 then max (v + (n : Int)) 0 else min v (n : Int)) = (((if v < 0 then (v + (n : Int)).toNat else min v.toNat n) : Nat) : Int)
  by_cases hv : v < 0
  · simp only [if_pos hv]; omega
  · simp only [if_neg hv]; omega
theorem adjust_gen (lo hi : Option Int) (n : Nat) : Builtin.Slice.sliceAdjust lo hi 1 (n : Int) = (((sIx n 0 lo : Nat) : Int), ((sIx n n hi : Nat) : Int)) := by
  have h1 : ¬ ((1 : Int) < 0) := by omega
  unfold Builtin.Slice.sliceAdjust
  simp only [h1, if_false]
  refine Prod.ext ?_ ?_
  · cases lo with
    | none => rfl
    | some v => exact clip_eq v n 0
  · cases hi with
    | none => rfl
    | some v => exact clip_eq v n n
theorem places_gen (i j : Nat) : Builtin.Slice.slicePlaces (i : Int) (j : Int) 1 = j - i := by
  unfold Builtin.Slice.slicePlaces
  have h1 : (1 : Int) > 0 := by omega
  simp only [h1, if_true, Int.ediv_one]
  split <;> omega
theorem slicePart_ {v : Value} {o : Option Int} {Q : Option Int → Shared → Prop} (p : IsPart v o) (h : Q o s) : wpAny (model prog w) A (Builtin.Slice.slicePartIndex v) Q E s := by
  cases p with
  | none => exact slicePart_none h
  | int i t => exact slicePart_int h
theorem sliceApplied_gen {sl : Addr} {vl vu : Value} {lo hi : Option Int} {n : Nat} {Q : Int × Int × Nat → Shared → Prop} (hs : s.heap.IsSliceOf sl vl vu .none) (pl : IsPart vl lo) (pu : IsPart vu hi)
    (h : Q (((sIx n 0 lo : Nat) : Int), 1, sIx n n hi - sIx n 0 lo) s) : wpAny (model prog w) A (Builtin.Slice.sliceApplied (.ref sl) (pure (n : Int))) Q E s := by
  obtain ⟨os, hos, hcs, hds⟩ := id hs
  unfold Builtin.Slice.sliceApplied Builtin.Slice.sliceFields
  refine wpAny_bind (wpAny_bind (wpAny_field hos hds (x := vl) rfl (wpAny_bind (wpAny_field hos hds (x := vu) rfl (wpAny_bind (wpAny_field hos hds (x := .none) rfl (wpAny_pure ?_)))))))
  refine wpAny_bind (slicePart_none ?_)
  show wpAny _ _ (if ((1 : Int) == 0) = true then _ else _) _ _ s
  rw [if_neg (by decide)]
  refine wpAny_bind (slicePart_ pl (wpAny_bind (slicePart_ pu (wpAny_bind (wpAny_pure ?_)))))
  show wpAny _ _ (match Builtin.Slice.sliceAdjust lo hi 1 (n : Int) with | (lo, hi) => pure (lo, (1 : Int), Builtin.Slice.slicePlaces lo hi 1)) _ _ s
  rw [adjust_gen lo hi n]
  show wpAny _ _ (pure (((sIx n 0 lo : Nat) : Int), (1 : Int), Builtin.Slice.slicePlaces ((sIx n 0 lo : Nat) : Int) ((sIx n n hi : Nat) : Int) 1)) _ _ s
  rw [places_gen]
  exact wpAny_pure h
theorem pick_gen (xs : Array Value) (i k : Nat) : ((List.range k).filterMap fun (m : Nat) => xs[((i : Int) + (m : Int) * 1).toNat]?).toArray = ((xs.toList.drop i).take k).toArray := by
  have e : (fun (m : Nat) => xs[((i : Int) + (m : Int) * 1).toNat]?) = fun m => xs[i + m]? := by
    funext m
    have : ((i : Int) + (m : Int) * 1).toNat = i + m := by omega
    rw [this]
  rw [e]
  have := pick_run xs i k
  rw [List.filterMap_map] at this
  have e2 : ((fun x => xs[x]?) ∘ fun x => i + x) = fun m => xs[i + m]? := rfl
  rw [e2] at this
  rw [this]

theorem getItem_tuple_cut {t sl : Addr} {items : Array Value} {vl vu : Value} {lo hi : Option Int} {Q : Value → Shared → Prop} (ht : IsTup s.heap t items) (hs : s.heap.IsSliceOf sl vl vu .none) (pl : IsPart vl lo) (pu : IsPart vu hi)
    (hw : ¬ (sIx items.size 0 lo = 0 ∧ sIx items.size items.size hi = items.size))
    (h : Q (.ref s.heap.objs.size) { s with heap := s.heap.push { cls := .type "tuple", data := .seq ((items.toList.drop (sIx items.size 0 lo)).take (sIx items.size items.size hi - sIx items.size 0 lo)).toArray } })
    (hsz : items.size ≤ sizeLine) : wpAny (model prog w) A (getItem (.ref t) (.ref sl)) Q E s := by
  have htake : sizeOk (.seq ((items.toList.drop (sIx items.size 0 lo)).take (sIx items.size items.size hi - sIx items.size 0 lo)).toArray) := by
    show ((items.toList.drop (sIx items.size 0 lo)).take (sIx items.size items.size hi - sIx items.size 0 lo)).toArray.size ≤ sizeLine
    rw [List.size_toArray, List.length_take, List.length_drop, Array.length_toList]
    omega
  have hj : sIx items.size items.size hi ≤ items.size := sIx_le _ _ (Nat.le_refl _) hi
  obtain ⟨os, hos, hcs, hds⟩ := id hs
  have hTs : s.TypeIs (.ref sl) "slice" := ⟨os, hos, hcs⟩
  unfold getItem
  try with_reducible refine wpAny_holding ?_
  first | refine wpAny_bind (wpAny_pure ?_) | skip
  refine wpAny_bind (wpAny_sequenceKey ht.typeIs (by decide) ?_)
  refine wpAny_bind (wpAny_callSpecial?_slot (name := Str.ofString "__getitem__") ht.typeIs PyProof.Rows.slot_tuple_getitem
    (wpAny_call_entry PyProof.Rows.slot_tuple_getitem ht.typeIs entry_tuple_getitem ?_ (args_tuple_getitem _ _)))
  show wpAny _ _ (Builtin.Tuple.tupleItemsOf (.ref t) >>= _) _ _ s
  refine wpAny_bind (tupleItemsOf_ ht ?_)
  refine wpAny_bind (wpAny_typeOf hTs ?_)
  rw [if_pos (by decide)]
  refine wpAny_bind (sliceApplied_gen hs pl pu ?_)
  have hno : ¬ ((((sIx items.size 0 lo : Nat) : Int) == 0 && (1 : Int) == 1 && (sIx items.size items.size hi - sIx items.size 0 lo) == items.size) = true) := by
    intro q
    rw [Bool.and_eq_true, Bool.and_eq_true] at q
    have q1 : ((sIx items.size 0 lo : Nat) : Int) = 0 := eq_of_beq q.1.1
    have q2 : sIx items.size items.size hi - sIx items.size 0 lo = items.size := eq_of_beq q.2
    exact hw ⟨by omega, by omega⟩
  show wpAny _ _ (if (((sIx items.size 0 lo : Nat) : Int) == 0 && (1 : Int) == 1 && (sIx items.size items.size hi - sIx items.size 0 lo) == items.size) = true then _ else _) _ _ s
  rw [if_neg hno, pick_gen]
  first
    | exact wpAny_bind (m := Builtin.Tuple.tupleExact _) (wpAny_newObj_type (wpAny_pure ⟨_, rfl, wpAny_pure h⟩) htake)
    | exact wpAny_bind (m := Builtin.Tuple.tupleExact _) (wpAny_newObj_type (wpAny_bind (wpAny_pure (wpAny_pure ⟨_, rfl, wpAny_pure h⟩))) htake)
    | exact wpAny_bind (wpAny_bind (m := Builtin.Tuple.tupleExact _) (wpAny_newObj_type (wpAny_pure (wpAny_pure ⟨_, rfl, wpAny_pure h⟩)) htake))
    | exact wpAny_bind (wpAny_bind (m := Builtin.Tuple.tupleExact _) (wpAny_newObj_type (wpAny_pure ⟨_, rfl, wpAny_pure h⟩) htake))
end
end HT

namespace L2
open PySem PySem.Spec PyProof.Rows

/-! ### the parts of a slice -/
abbrev TO := St → Hp → (Option Int → Hp → Prop) → Prop
/-- a slice's part (left out, or an int) -/
def PO (X : Cx) (e : Option Expr) (t : TO) : Prop :=
  ∀ (pins : List (Addr × Obj)) (s : Shared) (σ : St) (H : Hp) (Q : Option Int → Hp → Prop), Inv X pins σ H s → t σ H Q →
    wpAny (model X.prog X.w) X.A (evalPart e X.env) (fun u s' => ∃ o H', Inv X pins σ H' s' ∧ IsPart u o ∧ Q o H') X.xe s
def tNoPart : TO := fun _ H Q => Q none H
def tPart (t : TE) : TO := fun σ H Q => t σ H fun x H1 => ∃ i, x = .int i ∧ Q (some i) H1

section
variable {X : Cx} {e : Expr} {te : TE} {lo hi : Option Expr} {tl th : TO} {pos p2 : Pos}

theorem po_none : PO X none tNoPart := by
  intro pins s σ H Q I h
  rw [evalPart_none]
  exact wpAny_pure ⟨none, H, I, .none, h⟩
theorem po_some (h : PE X e te) : PO X (some e) (tPart te) := by
  intro pins s σ H Q I hw
  rw [evalPart_some]
  refine thn (h pins s σ H _ I hw) fun u s1 ⟨x, H1, I1, r1, q1⟩ => ?_
  obtain ⟨i, rfl, q⟩ := q1
  obtain ⟨t, rfl⟩ := r1
  exact ⟨some i, H1, I1, .int i t, q⟩

/-- what a slice of a value is, by values: the slice object stands at sl -/
def SlR (X : Cx) (r : V → Option Int → Option Int → Hp → VK → Prop) : Prop :=
  ∀ (pins : List (Addr × Obj)) (s : Shared) (σ : St) (H : Hp) (x : V) (v vl vu : Value) (lo hi : Option Int) (sl : Addr) (Q : VK), Inv X pins σ H s → RelV x v → s.heap.IsSliceOf sl vl vu .none → IsPart vl lo → IsPart vu hi → r x lo hi H Q →
    ∃ T id, typeLookup (.type T) "__getitem__" = pure (some (.builtin id)) ∧ s.TypeIs v T ∧ wpAny (model X.prog X.w) X.A (getItem v (.ref sl)) (EP X pins σ Q) X.xe s
def tSl (r : V → Option Int → Option Int → Hp → VK → Prop) (te : TE) (tl th : TO) : TE := fun σ H Q => te σ H fun x H1 => tl σ H1 fun l H2 => th σ H2 fun u H3 => r x l u H3 Q
/-- a[lo:hi], any a -/
theorem pe_slice {r : V → Option Int → Option Int → Hp → VK → Prop} (hr : SlR X r) (he : PE X e te) (hl : PO X lo tl) (hu : PO X hi th) : PE X (.Subscript e (.Slice lo hi none p2) pos) (tSl r te tl th) := by
  intro pins s σ H Q I h
  refine Subscript_ (thn (he pins s σ H _ I h) fun v s1 ⟨x, H1, I1, r1, q1⟩ => ?_)
  refine wpAny_Slice (thn (hl pins s1 σ H1 _ I1 q1) fun vl s2 ⟨l, H2, I2, pl, q2⟩ => thn (hu pins s2 σ H2 _ I2 q2) fun vu s3 ⟨u, H3, I3, pu, q3⟩ => ?_)
  rw [evalPart_none]
  refine wpAny_pure ?_
  have I4 : Inv X pins σ H3 { s3 with heap := s3.heap.push { cls := .type "slice", data := .fields #[vl, vu, .none] } } := I3.kept (t' := s3.toks) fun b ob q => Heap.get?_push_of_some _ q
  obtain ⟨T, id, hT, ht, hg⟩ := hr pins { s3 with heap := s3.heap.push { cls := .type "slice", data := .fields #[vl, vu, .none] } } σ H3 x v vl vu l u s3.heap.objs.size Q I4 r1 (Heap.IsSliceOf.new ..) pl pu q3
  show wpAny (model X.prog X.w) X.A (subscriptTail e (.Slice lo hi none p2) v (.ref s3.heap.objs.size)) (EP X pins σ Q) X.xe { s3 with heap := s3.heap.push { cls := .type "slice", data := .fields #[vl, vu, .none] } }
  exact tail_any (ops := [.ref s3.heap.objs.size, v]) ht hT hg (by with_unfolding_all rfl)

/-- the items of xs[lo:hi] -/
def cutV (xs : List V) (lo hi : Option Int) : List V := (xs.drop (HT.sIx xs.length 0 lo)).take (HT.sIx xs.length xs.length hi - HT.sIx xs.length 0 lo)
theorem cutV_length (xs : List V) (lo hi : Option Int) : (cutV xs lo hi).length ≤ xs.length := by
  unfold cutV
  rw [List.length_take, List.length_drop]
  omega
/-- t[lo:hi], not the whole of it (the whole would be t itself) -/
def rSlT (K : PySem.W.Frag) : V → Option Int → Option Int → Hp → VK → Prop := fun x lo hi H Q => ∃ a xs, x = .ref a ∧ SqT K H a xs ∧
  ¬ (HT.sIx xs.length 0 lo = 0 ∧ HT.sIx xs.length xs.length hi = xs.length) ∧ ∀ p, H p = none → Q (.ref p) (upd H p (.tup (cutV xs lo hi)))
theorem sl_tup : SlR X (rSlT X.K) := by
  intro pins s σ H x v vl vu lo hi sl Q I rx hs pl pu h
  obtain ⟨a, xs, rfl, hx, hw, q⟩ := h
  cases rx
  obtain ⟨its, r, ht, hz⟩ := I.tuple hx
  have hlen : its.toArray.size = xs.length := by rw [List.size_toArray]; exact r.length.symm
  refine ⟨"tuple", _, PyProof.Rows.slot_tuple_getitem.lookup, ht.typeIs, ?_⟩
  refine HT.getItem_tuple_cut ht hs pl pu (by rw [hlen]; exact hw) ?_ (by rw [hlen]; exact hz)
  rw [hlen]
  refine ⟨.ref s.heap.objs.size, _, I.laid (t' := s.toks) (o := .tup (cutV xs lo hi)) (fun b ob q => Heap.get?_push_of_some _ q) (Nat.le_refl _) ?_, rfl, q _ (I.hok.fresh (Nat.le_refl _))⟩
  exact ⟨Nat.le_trans (cutV_length xs lo hi) hz, _, (r.drop (HT.sIx xs.length 0 lo)).take (HT.sIx xs.length xs.length hi - HT.sIx xs.length 0 lo), IsTup.new _ _⟩

/-! ### t < u, t + u -/
end
end L2

namespace L2
open PySem PySem.Spec PyProof.Rows

/-! ### places -/
/-- the place that an index of any sign means -/
def ixN (n : Nat) (i : Int) : Option Nat := if 0 ≤ i then (if i < n then some i.toNat else none) else if -(n : Int) ≤ i then some (i + n).toNat else none
def atI {α : Type} (xs : List α) (i : Int) : Option α := (ixN xs.length i).bind fun j => xs[j]?
theorem ixN_seq {n : Nat} {i : Int} {j : Nat} (h : ixN n i = some j) : seqIndex? i n = some j ∧ j < n ∧ -(n : Int) ≤ i ∧ i < n := by
  unfold ixN at h
  by_cases h0 : 0 ≤ i
  · rw [if_pos h0] at h
    by_cases h1 : i < n
    · rw [if_pos h1] at h
      have e : i.toNat = j := Option.some.inj h
      exact ⟨by rw [seqIndex_of h0 h1, e], by omega, by omega, h1⟩
    · rw [if_neg h1] at h; cases h
  · rw [if_neg h0] at h
    by_cases h1 : -(n : Int) ≤ i
    · rw [if_pos h1] at h
      have e : (i + n).toNat = j := Option.some.inj h
      exact ⟨by rw [seqIndex_neg (by omega) h1, e], by omega, h1, by omega⟩
    · rw [if_neg h1] at h; cases h
theorem atI_get {α : Type} {xs : List α} {i : Int} {v : α} (h : atI xs i = some v) : ∃ j, seqIndex? i xs.length = some j ∧ xs[j]? = some v ∧ j < xs.length ∧ -(xs.length : Int) ≤ i ∧ i < xs.length := by
  unfold atI at h
  cases e : ixN xs.length i with
  | none => rw [e] at h; cases h
  | some j =>
    rw [e] at h
    obtain ⟨h1, h2, h3, h4⟩ := ixN_seq e
    exact ⟨j, h1, h, h2, h3, h4⟩
theorem atI_nat {α : Type} {xs : List α} {j : Nat} {v : α} (h : xs[j]? = some v) : atI xs (j : Int) = some v := by
  have hj : j < xs.length := (List.getElem?_eq_some_iff.mp h).1
  have e : ixN xs.length (j : Int) = some j := by
    unfold ixN
    rw [if_pos (by omega), if_pos (by omega)]; simp
  unfold atI; rw [e]; exact h
theorem atI_last {α : Type} (xs : List α) (v : α) : atI (xs ++ [v]) (-1) = some v := by
  have hl : (xs ++ [v]).length = xs.length + 1 := by simp
  have e : ixN (xs ++ [v]).length (-1) = some xs.length := by
    unfold ixN
    rw [hl, if_neg (by decide), if_pos (by omega)]
    congr 1
    omega
  unfold atI
  rw [e]
  show (xs ++ [v])[xs.length]? = some v
  simp

/-! ### what may be subscripted -/
/-- what stands as an index of a plain subscript -/
def PlainIx (b : Expr) : Prop := ∀ o i, subscripted b false o i = operate [o, i] (getItem o i)
/-- a subscript by values -/
def IxR (X : Cx) (r : R2) : Prop :=
  ∀ (value slice : Expr) (pins : List (Addr × Obj)) (s : Shared) (σ : St) (H : Hp) (x y : V) (v u : Value) (Q : VK), Inv X pins σ H s → RelV x v → RelV y u → r x y H Q →
    subscripted slice false v u = operate [v, u] (getItem v u) → wpAny (model X.prog X.w) X.A (subscriptTail value slice v u) (EP X pins σ Q) X.xe s
/-- a call of a builtin's method by values: the receiver, the arguments -/
def MtR (X : Cx) (id : String) (r : V → List V → Hp → VK → Prop) : Prop :=
  ∀ (pins : List (Addr × Obj)) (s : Shared) (σ : St) (H : Hp) (x : V) (xs : List V) (v : Value) (us : List Value) (Q : VK), Inv X pins σ H s → RelV x v → Vals xs us → r x xs H Q →
    wpAny (model X.prog X.w) X.A (call (.builtin id) (v :: us)) (EP X pins σ Q) X.xe s
section
variable {X : Cx} {a b : Expr} {ta tb : TE} {pos : Pos}
theorem IxR.or {r r' : R2} (h : IxR X r) (h' : IxR X r') : IxR X (fun x y H Q => r x y H Q ∨ r' x y H Q) := by
  intro value slice pins s σ H x y v u Q I rx ry q hs
  rcases q with q | q
  · exact h value slice pins s σ H x y v u Q I rx ry q hs
  · exact h' value slice pins s σ H x y v u Q I rx ry q hs
/-- a[b] -/
theorem pe_ix {r : R2} (hr : IxR X r) (ha : PE X a ta) (hb : PE X b tb) (hs : PlainIx b) : PE X (.Subscript a b pos) (tOp r ta tb) := by
  intro pins s σ H Q I h
  exact Subscript_ (binT ha hb I h fun v u s2 x y H2 I2 rx ry q => hr a b pins s2 σ H2 x y v u Q I2 rx ry q (hs _ _))

def rIxL (K : PySem.W.Frag) : R2 := fun x y H Q => ∃ p xs i v, x = .ref p ∧ y = .int i ∧ SqL K H p xs ∧ atI xs i = some v ∧ Q v H
def rIxT (K : PySem.W.Frag) : R2 := fun x y H Q => ∃ p xs i v, x = .ref p ∧ y = .int i ∧ SqT K H p xs ∧ atI xs i = some v ∧ Q v H
def rIxS : R2 := fun x y H Q => ∃ z i c, x = .str z ∧ y = .int i ∧ z.length ≤ sizeLine ∧ atI z.cps.toList i = some c ∧ Q (.str ⟨#[c]⟩) H
theorem ix_list : IxR X (rIxL X.K) := by
  intro value slice pins s σ H x y v u Q I rx ry h hs
  obtain ⟨p, xs, i, z, rfl, rfl, hq, he, q⟩ := h
  cases rx
  obtain ⟨t, rfl⟩ := ry
  obtain ⟨its, r, pl, hz⟩ := I.list hq
  obtain ⟨j, h1, h2, h3, h4, h5⟩ := atI_get he
  obtain ⟨w, ew, rw'⟩ := r.get h2
  have hl := r.length
  have hn := line63
  have fin : EP X pins σ Q w s := ⟨z, H, I, rw', q⟩
  by_cases h0 : 0 ≤ i
  · have hj : i.toNat = j := by
      rw [seqIndex_of h0 h5] at h1
      exact Option.some.inj h1
    exact item_listR pl.isList h0 (by omega) (by rw [hj]; simpa using ew) fin hs
  · have hj : (i + (its.toArray.size : Int)).toNat = j := by
      rw [seqIndex_neg (by omega) h4] at h1
      rw [List.size_toArray, ← hl]
      exact Option.some.inj h1
    exact subscriptTail_builtinR (x := w) pl.isList.typeIs slot_list_getitem.lookup
      (wpAny_getItem_list_neg (Q := fun r s' => r = w ∧ EP X pins σ Q r s') pl.isList (by omega) (by rw [List.size_toArray] <;> omega) (by omega) (by rw [hj]; simpa using ew) ⟨rfl, fin⟩) hs
theorem ix_tup : IxR X (rIxT X.K) := by
  intro value slice pins s σ H x y v u Q I rx ry h hs
  obtain ⟨p, xs, i, z, rfl, rfl, hq, he, q⟩ := h
  cases rx
  obtain ⟨t, rfl⟩ := ry
  obtain ⟨its, r, pl, hz⟩ := I.tuple hq
  obtain ⟨j, h1, h2, h3, h4, h5⟩ := atI_get he
  obtain ⟨w, ew, rw'⟩ := r.get h2
  have hl := r.length
  have hn := line63
  have fin : EP X pins σ Q w s := ⟨z, H, I, rw', q⟩
  exact subscriptTail_builtinR (x := w) pl.typeIs slot_tuple_getitem.lookup
    (getItem_tuple (j := j) (Q := fun r s' => r = w ∧ EP X pins σ Q r s') pl (by omega) (by omega) (by rw [List.size_toArray, ← hl]; exact h1) (by simpa using ew) ⟨rfl, fin⟩) hs
theorem ix_str : IxR X rIxS := by
  intro value slice pins s σ H x y v u Q I rx ry h hs
  obtain ⟨z, i, c, rfl, rfl, hz, he, q⟩ := h
  obtain ⟨t, rfl⟩ := rx
  obtain ⟨t', rfl⟩ := ry
  obtain ⟨j, h1, h2, h3, h4, h5⟩ := atI_get he
  have hl : z.cps.toList.length = z.length := by simp [Str.length]
  rw [hl] at h1 h4 h5
  have hn := line63
  exact tail_any (typeIs_str s z t) slot_str_getitem.lookup (getItem_str (c := c) (by
    have e1 : decide (i < -(2 ^ 63 : Int)) = false := decide_eq_false (by omega)
    have e2 : decide (i ≥ 2 ^ 63) = false := decide_eq_false (by omega)
    rw [e1, e2, Bool.or_false]) (by rw [h1]; simpa using h2) ⟨.str ⟨#[c]⟩, H, I.tok _, ⟨_, rfl⟩, q⟩) hs
/-! ### xs[i] = v, any sign -/
/-- the list's object behind a store -/
theorem mapSeq_set (its : List Value) (n j : Nat) (u : Value) : Obj.mapSeq (·.setIfInBounds j u) { cls := .type "list", data := .seq its.toArray n } = { cls := .type "list", data := .seq (its.set j u).toArray n } := by
  simp [Obj.mapSeq]
theorem Inv.lst {pins : List (Addr × Obj)} {σ : St} {H : Hp} {s : Shared} {p : Addr} {xs : List V} (I : Inv X pins σ H s) (h : H p = some (.lst xs)) :
    ∃ (its : List Value) (n : Nat), Vals xs its ∧ s.heap.get? p = some { cls := .type "list", data := .seq its.toArray n } ∧ xs.length ≤ sizeLine := by
  obtain ⟨z, its, n, r, e⟩ := I.hok p _ h
  exact ⟨its, n, r, e, z⟩
/-- the list at p is written by an update of its object -/
theorem Inv.lstUpd {pins : List (Addr × Obj)} {σ : St} {H : Hp} {s : Shared} {p : Addr} {xs ys : List V} {its its' : List Value} {n n' : Nat} {f : Obj → Obj} (I : Inv X pins σ H s) (h : H p = some (.lst xs))
    (ho : s.heap.get? p = some { cls := .type "list", data := .seq its.toArray n }) (hf : f { cls := .type "list", data := .seq its.toArray n } = { cls := .type "list", data := .seq its'.toArray n' }) (r : Vals ys its') (hz : ys.length ≤ sizeLine) (t : Nat) :
    Inv X pins σ (upd H p (.lst ys)) { s with heap := s.heap.update p f, toks := t } := by
  have e : (s.heap.update p f).get? p = some { cls := .type "list", data := .seq its'.toArray n' } := by
    rw [Heap.get?_update_self f ho (by rw [hf] <;> rfl), hf]
  refine I.write (x := p) (e := p) (by rw [h]; trivial) (.inl rfl) (fun b u hb q => (Heap.get?_update_other _ _ (Ne.symm hb)).trans q) ⟨_, e⟩ ?_
  exact ⟨hz, its', n', r, e⟩
def rSetL : V → V → V → Hp → (Hp → Prop) → Prop := fun o i v H Q => ∃ p xs k j, o = .ref p ∧ i = .int k ∧ H p = some (.lst xs) ∧ ixN xs.length k = some j ∧ Q (upd H p (.lst (xs.set j v)))
theorem set_list : PSet X rSetL := by
  intro pins s σ H o i v ov iv u Q I ro ri rv h
  obtain ⟨p, xs, k, j, rfl, rfl, hp, hj, q⟩ := h
  cases ro
  obtain ⟨t, rfl⟩ := ri
  obtain ⟨its, n, r, ho, hz⟩ := I.lst hp
  obtain ⟨h1, h2, h3, h4⟩ := ixN_seq hj
  have hl := r.length
  have hn := line63
  have I' : Inv X pins σ (upd H p (.lst (xs.set j v))) { s with heap := s.heap.update p (Obj.mapSeq (·.setIfInBounds j u)) } :=
    I.lstUpd hp ho (mapSeq_set its n j u) (r.set rv j) (by rw [List.length_set]; exact hz) s.toks
  by_cases h0 : 0 ≤ k
  · have hk : k.toNat = j := by
      rw [seqIndex_of h0 h4] at h1
      exact Option.some.inj h1
    exact PySem.W.ki_setAt ho h0 (by omega) (by rw [List.size_toArray, ← hl]; exact h4) (by rw [hk]; exact ⟨_, I', q⟩)
  · have hk : (k + (its.toArray.size : Int)).toNat = j := by
      rw [seqIndex_neg (by omega) h3] at h1
      rw [List.size_toArray, ← hl]
      exact Option.some.inj h1
    exact PySem.W.ki_setBack ho (by omega) (by rw [List.size_toArray, ← hl]; exact h3) (by omega) (by rw [hk]; exact ⟨_, I', q⟩)

/-! ### slices -/
theorem slice_bounds (lo hi : Option Int) (n : Nat) : (sliceBounds lo hi none n).1 = ((HT.sIx n 0 lo : Nat) : Int) ∧ (sliceBounds lo hi none n).2.1 = ((HT.sIx n n hi : Nat) : Int) ∧ (sliceBounds lo hi none n).2.2 = 1 := by
  refine ⟨?_, ?_, rfl⟩
  · cases lo with
    | none => simp [sliceBounds, HT.sIx]
    | some i =>
      simp only [sliceBounds, HT.sIx, Option.getD_none, show (1 : Int) > 0 by decide, if_true]
      by_cases h : i < 0
      · simp only [h, if_true] <;> omega
      · simp only [h, if_false] <;> omega
  · cases hi with
    | none => simp [sliceBounds, HT.sIx]
    | some i =>
      simp only [sliceBounds, HT.sIx, Option.getD_none, show (1 : Int) > 0 by decide, if_true]
      by_cases h : i < 0
      · simp only [h, if_true] <;> omega
      · simp only [h, if_false] <;> omega
theorem slicePick_cut (its : List Value) (lo hi : Option Int) : slicePick its.toArray lo hi none = ((its.drop (HT.sIx its.length 0 lo)).take (HT.sIx its.length its.length hi - HT.sIx its.length 0 lo)).toArray := by
  obtain ⟨h1, h2, h3⟩ := slice_bounds lo hi its.toArray.size
  unfold slicePick
  rw [h1, h2, h3]
  simp only [sliceRange_one, pick_run, List.size_toArray] <;> rfl
/-- xs[lo:hi] of a list: a new list -/
def rSlL (K : PySem.W.Frag) : V → Option Int → Option Int → Hp → VK → Prop := fun x lo hi H Q => ∃ a xs, x = .ref a ∧ SqL K H a xs ∧ ∀ p, H p = none → Q (.ref p) (upd H p (.lst (cutV xs lo hi)))
theorem sl_list : SlR X (rSlL X.K) := by
  intro pins s σ H x v vl vu lo hi sl Q I rx hs pl pu h
  obtain ⟨a, xs, rfl, hx, q⟩ := h
  cases rx
  obtain ⟨its, r, ht, hz⟩ := I.list hx
  have hlen := r.length
  refine ⟨"list", _, slot_list_getitem.lookup, ht.isList.typeIs, ?_⟩
  refine wpAny_getItem_list_slice ht.isList hs pl pu .none (by simp) ?_ (by rw [List.size_toArray] <;> omega)
  rw [slicePick_cut, ← hlen]
  refine ⟨.ref s.heap.objs.size, _, I.laid (t' := s.toks) (o := .lst (cutV xs lo hi)) (fun b ob q => Heap.get?_push_of_some _ q) (Nat.le_refl _) ?_, rfl, q _ (I.hok.fresh (Nat.le_refl _))⟩
  exact ⟨Nat.le_trans (cutV_length xs lo hi) hz, _, 0, (r.drop (HT.sIx xs.length 0 lo)).take (HT.sIx xs.length xs.length hi - HT.sIx xs.length 0 lo), Heap.get?_push_size _ rfl⟩

/-! ### in, not in: flat items -/
def flatV : V → Bool
  | .non => true
  | .bl _ => true
  | .int _ => true
  | .str _ => true
  | _ => false
/-- == of flat values -/
def eqV : V → V → Bool
  | .non, .non => true
  | .bl a, .bl b => a == b
  | .bl a, .int b => (if a then 1 else 0) == b
  | .int a, .bl b => a == (if b then 1 else 0)
  | .int a, .int b => a == b
  | .str a, .str b => a == b
  | _, _ => false
theorem eqAt_V {A : Around} {s : Shared} {y x : V} {u v : Value} (ry : RelV y u) (rx : RelV x v) (fy : flatV y = true) (fx : flatV x = true) : SeqAt.EqAt A s u v (eqV y x) := by
  cases y with
  | non =>
    cases ry
    cases x with
    | non => cases rx; exact SeqAt.EqAt.same _
    | bl b => cases rx; exact SeqAt.EqAt.none_bool b
    | int b => obtain ⟨t, rfl⟩ := rx; exact SeqAt.EqAt.none_int b t
    | str b => obtain ⟨t, rfl⟩ := rx; exact SeqAt.EqAt.none_str b t
    | _ => exact absurd (show false = true from fx) Bool.false_ne_true
  | bl a =>
    cases ry
    cases x with
    | non => cases rx; exact SeqAt.EqAt.bool_none a
    | bl b => cases rx; exact SeqAt.EqAt.bool_bool a b
    | int b => obtain ⟨t, rfl⟩ := rx; exact SeqAt.EqAt.bool_int a b t
    | str b => obtain ⟨t, rfl⟩ := rx; exact SeqAt.EqAt.bool_str a b t
    | _ => exact absurd (show false = true from fx) Bool.false_ne_true
  | int a =>
    obtain ⟨t', rfl⟩ := ry
    cases x with
    | non => cases rx; exact SeqAt.EqAt.int_none a t'
    | bl b => cases rx; exact SeqAt.EqAt.int_bool a t' b
    | int b => obtain ⟨t, rfl⟩ := rx; exact SeqAt.EqAt.int_int a t' b t
    | str b => obtain ⟨t, rfl⟩ := rx; exact SeqAt.EqAt.int_str a t' b t
    | _ => exact absurd (show false = true from fx) Bool.false_ne_true
  | str a =>
    obtain ⟨t', rfl⟩ := ry
    cases x with
    | non => cases rx; exact SeqAt.EqAt.str_none a t'
    | bl b => cases rx; exact SeqAt.EqAt.str_bool a t' b
    | int b => obtain ⟨t, rfl⟩ := rx; exact SeqAt.EqAt.str_int a t' b t
    | str b => obtain ⟨t, rfl⟩ := rx; exact SeqAt.EqAt.str_str a t' b t
    | _ => exact absurd (show false = true from fx) Bool.false_ne_true
  | _ => exact absurd (show false = true from fy) Bool.false_ne_true
/-- the items' answers, read off the values (a value's own answer does not lean on its token) -/
def eqU (x : V) (u : Value) : Bool := match u with
  | .none => eqV .non x
  | .bool b => eqV (.bl b) x
  | .int i _ => eqV (.int i) x
  | .str z _ => eqV (.str z) x
  | _ => false
theorem eqU_of {x y : V} {u : Value} (r : RelV y u) (f : flatV y = true) : eqU x u = eqV y x := by
  cases y with
  | non => cases r; rfl
  | bl b => cases r; rfl
  | int i => obtain ⟨t, rfl⟩ := r; rfl
  | str z => obtain ⟨t, rfl⟩ := r; rfl
  | _ => exact absurd (show false = true from f) Bool.false_ne_true
theorem any_eqU {x : V} : ∀ {xs : List V} {us : List Value}, Vals xs us → xs.all flatV = true → us.any (eqU x) = xs.any fun y => eqV y x
  | _, _, .nil, _ => rfl
  | y :: xs, u :: us, .cons r t, f => by
    rw [List.all_cons, Bool.and_eq_true] at f
    rw [List.any_cons, List.any_cons, eqU_of r f.1, any_eqU t f.2]
theorem mem_eqAt {A : Around} {s : Shared} {x : V} {v : Value} (rx : RelV x v) (fx : flatV x = true) : ∀ {xs : List V} {us : List Value}, Vals xs us → xs.all flatV = true → ∀ u ∈ us, SeqAt.EqAt A s u v (eqU x u)
  | _, _, .nil, _ => fun u hu => by cases hu
  | y :: xs, u :: us, .cons r t, f => fun u' hu => by
    rw [List.all_cons, Bool.and_eq_true] at f
    rcases List.mem_cons.mp hu with rfl | hu
    · rw [eqU_of r f.1]; exact eqAt_V r rx f.1 fx
    · exact mem_eqAt rx fx t f.2 u' hu
def inV (x : V) (xs : List V) : Bool := xs.any fun y => eqV y x
/-- x in a list or tuple of flat items -/
def rIn (K : PySem.W.Frag) (neg : Bool) : R2 := fun x y H Q => ∃ p xs, y = .ref p ∧ (SqL K H p xs ∨ SqT K H p xs) ∧ flatV x = true ∧ xs.all flatV = true ∧ Q (.bl (if neg then !inV x xs else inV x xs)) H
theorem op_in_seq : OpR X (compareOp .In) (rIn X.K false) := by
  intro pins s σ H x y v u Q I rx ry h
  obtain ⟨p, xs, rfl, hq, fx, fs, q⟩ := h
  cases ry
  rcases hq with hq | hq
  · obtain ⟨its, r, pl, hz⟩ := I.list hq
    refine SeqAt.in_listAt (eqU x) pl.isList (fun w hw => mem_eqAt rx fx r fs w (by simpa using hw)) ⟨.bl _, H, I, rfl, ?_⟩
    rw [show its.toArray.any (eqU x) = its.any (eqU x) by simp, any_eqU r fs]
    exact q
  · obtain ⟨its, r, pl, hz⟩ := I.tuple hq
    refine SeqAt.in_tupleAt (eqU x) pl (fun w hw => mem_eqAt rx fx r fs w (by simpa using hw)) ⟨.bl _, H, I, rfl, ?_⟩
    rw [show its.toArray.any (eqU x) = its.any (eqU x) by simp, any_eqU r fs]
    exact q
theorem op_notIn_seq : OpR X (compareOp .NotIn) (rIn X.K true) := by
  intro pins s σ H x y v u Q I rx ry h
  obtain ⟨p, xs, rfl, hq, fx, fs, q⟩ := h
  cases ry
  rcases hq with hq | hq
  · obtain ⟨its, r, pl, hz⟩ := I.list hq
    refine SeqAt.notIn_listAt (eqU x) pl.isList (fun w hw => mem_eqAt rx fx r fs w (by simpa using hw)) ⟨.bl _, H, I, rfl, ?_⟩
    rw [show its.toArray.any (eqU x) = its.any (eqU x) by simp, any_eqU r fs]
    exact q
  · obtain ⟨its, r, pl, hz⟩ := I.tuple hq
    refine SeqAt.notIn_tupleAt (eqU x) pl (fun w hw => mem_eqAt rx fx r fs w (by simpa using hw)) ⟨.bl _, H, I, rfl, ?_⟩
    rw [show its.toArray.any (eqU x) = its.any (eqU x) by simp, any_eqU r fs]
    exact q
/-! ### len, list(x), tuple(x) of any list or tuple that is read -/
theorem call_len_seq : CallR X (.builtin "len") (fun xs H Q => ∃ p ys, xs = [.ref p] ∧ (SqL X.K H p ys ∨ SqT X.K H p ys) ∧ Q (.int ys.length) H) := by
  intro pins s σ H xs us Q I r h
  obtain ⟨p, ys, rfl, hq, q⟩ := h
  obtain ⟨u, rfl, rx⟩ := vals1 r
  cases rx
  have hn := line63
  rcases hq with hq | hq
  · obtain ⟨its, r', pl, hz⟩ := I.list hq
    have hlen := r'.length
    exact Calls.call_len_list pl.isList (by simp only [List.size_toArray] <;> omega) ⟨.int ys.length, H, I.tok _, ⟨s.toks + 1, by rw [List.size_toArray, hlen]⟩, q⟩
  · obtain ⟨its, r', pl, hz⟩ := I.tuple hq
    have hlen := r'.length
    exact len_tuple pl (by simp only [List.size_toArray] <;> omega) ⟨.int ys.length, H, I.tok _, ⟨s.toks + 1, by rw [List.size_toArray, hlen]⟩, q⟩
theorem call_list_of : CallR X (.type "list") (fun xs H Q => ∃ p ys, xs = [.ref p] ∧ (SqL X.K H p ys ∨ SqT X.K H p ys) ∧ ∀ l, H l = none → Q (.ref l) (upd H l (.lst ys))) := by
  intro pins s σ H xs us Q I r h
  obtain ⟨p, ys, rfl, hq, q⟩ := h
  obtain ⟨u, rfl, rx⟩ := vals1 r
  cases rx
  have fin : ∀ (its : List Value), Vals ys its → ys.length ≤ sizeLine → ∀ (h' : Heap) (c' : Nat), (∀ b o', s.heap.get? b = some o' → h'.get? b = some o') →
      h'.get? s.heap.objs.size = some { cls := .type "list", dict := none, data := .seq its.toArray c', slots := #[] } → EP X pins σ Q (.ref s.heap.objs.size) { s with heap := h' } := fun its r' hz h' c' kp e =>
    ⟨.ref s.heap.objs.size, _, I.laid (t' := s.toks) kp (Nat.le_refl _) (show ObjOk X.prog X.w _ h' _ (.lst ys) from ⟨hz, its, c', r', e⟩), rfl, q _ (I.hok.fresh (Nat.le_refl _))⟩
  rcases hq with hq | hq
  · obtain ⟨its, r', pl, hz⟩ := I.list hq
    have hlen := r'.length
    obtain ⟨o, ho, hc, n, hd⟩ := pl.isList
    exact call_list_seq p (.inl rfl) ho hc hd (fun h' c' kp e => fin its r' hz h' c' kp e) (by simp only [List.size_toArray] <;> omega)
  · obtain ⟨its, r', pl, hz⟩ := I.tuple hq
    have hlen := r'.length
    obtain ⟨o, ho, hc, n, hd⟩ := pl
    exact call_list_seq p (.inr rfl) ho hc hd (fun h' c' kp e => fin its r' hz h' c' kp e) (by simp only [List.size_toArray] <;> omega)
/-! ### the call of a builtin's method: o.m(..) -/
/-- the value is of that builtin type -/
def tyV (K : PySem.W.Frag) (T : String) (x : V) (H : Hp) : Prop := match x with
  | .str _ => T = "str"
  | .int _ => T = "int"
  | .ref p => (T = "list" ∧ ∃ xs, SqL K H p xs) ∨ (T = "tuple" ∧ ∃ o, K.lookup p = some o ∧ o.cls = .type "tuple" ∧ o.dict = none) ∨
      (T = "dict" ∧ ((∃ kvs, H p = some (.dK kvs)) ∨ ∃ kvs, H p = some (.dT kvs))) ∨ (T = "set" ∧ ∃ S n, H p = some (.set S n))
  | _ => False
theorem tyV_is {pins : List (Addr × Obj)} {σ : St} {H : Hp} {s : Shared} {T : String} {x : V} {v : Value} (I : Inv X pins σ H s) (r : RelV x v) (ty : tyV X.K T x H) :
    s.TypeIs v T ∧ ∀ a, v = .ref a → ∃ ob, s.heap.get? a = some ob ∧ ob.dict = none := by
  cases x with
  | str z =>
    obtain ⟨t, rfl⟩ := r
    cases (show T = "str" from ty)
    exact ⟨typeIs_str s z t, fun _ e => nomatch e⟩
  | int i =>
    obtain ⟨t, rfl⟩ := r
    cases (show T = "int" from ty)
    exact ⟨typeIs_int s i t, fun _ e => nomatch e⟩
  | ref p =>
    cases r
    rcases ty with ⟨rfl, xs, hq⟩ | ⟨rfl, o, hk, hc, hd⟩ | ⟨rfl, hk⟩ | ⟨rfl, S, n, hk⟩
    · obtain ⟨its, _, pl, _⟩ := I.list hq
      refine ⟨pl.isList.typeIs, fun a e => ?_⟩
      cases e
      obtain ⟨o, n, e, c, hd, _⟩ := pl
      exact ⟨o, e, hd⟩
    · refine ⟨⟨o, I.kIn p o hk, hc⟩, fun a e => ?_⟩
      cases e
      exact ⟨o, I.kIn _ o hk, hd⟩
    · have z : ∃ o, s.heap.get? p = some o ∧ o.ExactDict := by
        rcases hk with ⟨kvs, hk⟩ | ⟨kvs, hk⟩
        · obtain ⟨_, _, _, _, o, _, _, e, ex, _⟩ := I.hok p _ hk
          exact ⟨o, e, ex⟩
        · obtain ⟨_, _, _, _, o, _, _, e, ex, _⟩ := I.hok p _ hk
          exact ⟨o, e, ex⟩
      obtain ⟨o, e, ex⟩ := z
      refine ⟨⟨o, e, ex.1⟩, fun a e2 => ?_⟩
      cases e2
      exact ⟨o, e, ex.2.1⟩
    · obtain ⟨o, _, _, _, e, ex, _⟩ := I.hok p _ hk
      refine ⟨⟨o, e, ex.1⟩, fun a e2 => ?_⟩
      cases e2
      exact ⟨o, e, ex.2.1⟩
  | _ => exact False.elim ty
def tBM (K : PySem.W.Frag) (T : String) (r : V → List V → Hp → VK → Prop) (to : TE) (t : TA) : TE := fun σ H Q => to σ H fun x H1 => tyV K T x H1 ∧ t σ H1 fun xs H2 => r x xs H2 Q
variable {o e : Expr} {es : List Expr} {to : TE} {t : TA} {name : Str} {apos cpos : Pos} {T id : String} {r : V → List V → Hp → VK → Prop}
theorem pe_bm (pa : PlainAttrs T) (slot : Slot T name id) (hty : typeOf (.builtin id) = pure (.type "method_descriptor")) (hm : MtR X id r) (ho : PE X o to) (ha : PA X (e :: es) t)
    (hbase : attributeBase o name X.env (eval o X.env) = eval o X.env := by rfl)
    (hfew : ((backTo cpos (starEach (e :: es) X.env)).all (fun x => !x.1) && (backToKw cpos (keywordEach [] X.env)).all (fun x => x.1.isSome)
      && decide ((e :: es).length + ([] : List Keyword).length + (if ([] : List Keyword).isEmpty then 0 else 1) < 30)) = true := by rfl)
    (hline : (apos.endLine == cpos.line) = true := by rfl) (hs : starEach (e :: es) X.env = (false, eval e X.env) :: starEach es X.env := by rfl) (hplain : (backTo cpos (starEach es X.env)).any (·.1) = false := by rfl) :
    PE X (.Call (.Attribute o name apos) (e :: es) [] cpos) (tBM X.K T r to t) := by
  intro pins s σ H Q I h
  refine wpAny_Call_method_late hbase hfew hline rfl (thn (ho pins s σ H _ I h) fun v s1 ⟨x, H1, I1, r1, ty, q1⟩ => ?_)
  obtain ⟨h1, h2⟩ := tyV_is I1 r1 ty
  refine ⟨T, id, pa, slot, hty, h1, h2, ?_⟩
  have hA := ha cpos pins s1 σ H1 _ I1 q1
  rw [hs] at hA ⊢
  refine Calls.callWith_builtin (by show (false || (backTo cpos (starEach es X.env)).any (·.1)) = false; rw [hplain] <;> rfl) (Calls.evalArgs_plain ?_)
  exact thn hA fun us s2 ⟨vs, H2, I2, r2, q2⟩ => hm pins s2 σ H2 x vs v us Q I2 r1 r2 q2
/- xs.append(e), list.index on a module's tuple .. are MtR facts of 06m -/
end
end L2

namespace L2
open PySem PySem.Spec PyProof.Rows

def MtM (X : Cx) (id : String) (r : V → List V → Hp → VK → Prop) : Prop :=
  ∀ (pins : List (Addr × Obj)) (s : Shared) (σ : St) (H : Hp) (x : V) (xs : List V) (v : Value) (us : List Value) (Q : VK), Inv X pins σ H s → RelV x v → Vals xs us → r x xs H Q →
    wpAny (model X.prog X.w) X.A (call (.builtin id) (v :: us)) (EP X pins σ Q) X.xe s

/-! ### lists of values -/
theorem Vals.one : ∀ {x : V} {us : List Value}, Vals [x] us → ∃ u, us = [u] ∧ RelV x u
  | _, _, .cons r .nil => ⟨_, rfl, r⟩
theorem Vals.two : ∀ {x y : V} {us : List Value}, Vals [x, y] us → ∃ u v, us = [u, v] ∧ RelV x u ∧ RelV y v
  | _, _, _, .cons r (.cons q .nil) => ⟨_, _, rfl, r, q⟩
section
variable {X : Cx} {pins : List (Addr × Obj)} {σ : St} {H : Hp} {s : Shared} {l b : Addr} {xs ys zs : List V}

/-! ### the two steps: a tracked list is rewritten, a new list is laid -/
theorem Inv.lset {its its' : List Value} {n : Nat} {f : Array Value → Array Value} {t' : Nat} (I : Inv X pins σ H s) (hH : H l = some (.lst xs))
    (e : s.heap.get? l = some { cls := .type "list", data := .seq its.toArray n }) (hf : f its.toArray = its'.toArray) (hv : Vals ys its') (hz : ys.length ≤ sizeLine) :
    Inv X pins σ (upd H l (.lst ys)) { s with heap := s.heap.update l (Obj.mapSeq f), toks := t' } := by
  have q := PySem.IsL.update e f
  rw [hf] at q
  refine I.write (x := l) (e := l) (by rw [hH]; exact trivial) (.inl rfl) (fun b' u hb hu => (Heap.get?_update_other s.heap (Obj.mapSeq f) (Ne.symm hb)).trans hu) ⟨_, q⟩ ?_
  exact ⟨hz, its', _, hv, q⟩
theorem Inv.lnew {its : List Value} {t' : Nat} (I : Inv X pins σ H s) (hv : Vals ys its) (hz : ys.length ≤ sizeLine) :
    Inv X pins σ (upd H s.heap.objs.size (.lst ys)) { s with heap := s.heap.push { cls := .type "list", data := .seq its.toArray }, toks := t' } :=
  I.laid (fun _ _ q => Heap.get?_push_of_some _ q) (Nat.le_refl _) ⟨hz, its, 0, hv, Heap.get?_push_size _ rfl⟩
theorem Inv.fresh (I : Inv X pins σ H s) : H s.heap.objs.size = none := I.hok.fresh (Nat.le_refl _)
theorem Inv.lstM (I : Inv X pins σ H s) (hH : H l = some (.lst xs)) : xs.length ≤ sizeLine ∧ ∃ (its : List Value) (n : Nat), Vals xs its ∧ xs.length = its.length ∧ s.heap.get? l = some { cls := .type "list", data := .seq its.toArray n } := by
  obtain ⟨z, its, n, r, e⟩ := I.hok l _ hH
  exact ⟨z, its, n, r, r.length, e⟩

end

section
variable {X : Cx}

/-! ### methods -/
def rAppend : V → List V → Hp → VK → Prop := fun x vs H Q => ∃ l xs y, x = .ref l ∧ vs = [y] ∧ H l = some (.lst xs) ∧ xs.length < sizeLine ∧ Q .non (upd H l (.lst (xs ++ [y])))
theorem mt_append : MtM X "list.append" rAppend := by
  intro pins s σ H x vs v us Q I rx rv h
  obtain ⟨l, xs, y, rfl, rfl, hH, hz, q⟩ := h
  cases rx
  obtain ⟨u, rfl, ru⟩ := rv.one
  obtain ⟨z, its, n, r, hl, e⟩ := I.lstM hH
  refine call_meets F.slot_list_append ⟨_, e, rfl⟩ F.entry_list_append (F.args_list_append_2 _ _) (PySem.list_append l its.toArray n u (by rw [List.size_toArray]; omega)) ⟨e, ?_⟩
  refine ⟨.non, _, I.lset (its' := its ++ [u]) hH e (by simp) (r.append (.cons ru .nil)) ?_, rfl, q⟩
  rw [List.length_append, List.length_singleton]
  omega

/-! ### list + list, list += list, list * int -/
def rCat : R2 := fun x y H Q => ∃ l b xs zs, x = .ref l ∧ y = .ref b ∧ H l = some (.lst xs) ∧ H b = some (.lst zs) ∧ xs.length + zs.length ≤ sizeLine ∧ ∀ p, H p = none → Q (.ref p) (upd H p (.lst (xs ++ zs)))
theorem op_cat : OpR X (binaryOp .Add) rCat := by
  intro pins s σ H x y v u Q I rx ry h
  obtain ⟨l, b, xs, zs, rfl, rfl, hH, hB, hz, q⟩ := h
  cases rx
  cases ry
  obtain ⟨z, its, n, r, hl, e⟩ := I.lstM hH
  obtain ⟨z2, its2, n2, r2, hl2, e2⟩ := I.lstM hB
  refine PySem.P.add_list e e2 ?_ (by rw [List.size_toArray, List.size_toArray]; omega)
  have ea : its.toArray ++ its2.toArray = (its ++ its2).toArray := by simp
  rw [ea]
  exact ⟨.ref _, _, I.lnew (t' := s.toks) (r.append r2) (by rw [List.length_append]; omega), rfl, q _ I.fresh⟩
/-! ### del xs[i] -/
end

/-! ### xs[a:b] = ys -/

end L2

namespace Att
open PySem PySem.W PySem.Calls PyProof.Rows

/-! ### the script -/
theorem ints_of_wellAll {P : Params} {h : Heap} : ∀ (ns : List Int) (vs : List Value), WellAll P h vs (ns.map WData.int) → IntsAre vs ns := by
  intro ns
  induction ns with
  | nil =>
    intro vs w
    rw [List.map_nil] at w
    cases w
    exact .nil
  | cons n ns ih =>
    intro vs w
    rw [List.map_cons] at w
    cases w with
    | cons a b =>
      cases a
      exact .cons _ _ (ih _ b)

theorem script_of {l : OpenLaw} {n : Nat} (hn : l.most = some n) {P : Params} {h : Heap} {args : List WData} {vals : List Value}
    (hpre : l.row.toRowW.claim.pre args = true) (hwl : WellAll P h vals args) :
    ∃ a vs ns, vals = [Value.ref a] ∧ args = [WData.list (ns.map WData.int)] ∧ h.get? a = some { cls := .type "list", data := .seq vs.toArray } ∧ IntsAre vs ns ∧ ns.length ≤ n := by
  have hsh : WShape.hasAll [] args [.list .int] = true := (pre_splitW hpre).1
  have hc : l.pre.holds [] { args := args } = true := (pre_splitW hpre).2
  obtain ⟨d, r, rfl, h1, h2⟩ := hasAllW_cons hsh
  obtain rfl := hasAllW_nil h2
  obtain ⟨xs, rfl, h3⟩ := hasW_list h1
  obtain ⟨ns, rfl⟩ := items_int h3
  have hlen : ns.length ≤ n := by
    unfold OpenLaw.pre at hc
    have h4 : (WTm.not (.lt (.lit (.int (n : Int))) (.len (.arg 0)))).holds [] { args := [.list (ns.map .int)] } = true := by
      have h4 := (holds_andW hc).1
      rw [hn] at h4
      exact h4
    have h5 := condW_of h4 (w_not (w_lt w_lit (w_len_list (w_arg rfl))))
    rw [List.length_map] at h5
    refine Nat.le_of_not_lt fun q => ?_
    have q' : (n : Int) < ((ns.length : Nat) : Int) := by omega
    first
      | (rw [decide_eq_true q'] at h5; exact absurd h5 (by decide))
      | (simp at h5; omega)
  cases hwl with
  | cons w1 w2 =>
    cases w2
    cases w1 with
    | list ho hall => exact ⟨_, _, ns, rfl, rfl, ho, ints_of_wellAll ns _ hall, hlen⟩

theorem post_true (l : OpenLaw) (args : List WData) : l.row.toRowW.claim.post args (.bool true) args = true :=
  postW_of (r := l.row.toRowW) (X := (true == true))
    (show WShape.has [] (.bool true) .bool = true by first | rfl | decide | simp [WShape.has, WShape.arms, WShape.armsAll])
    (show (WTm.eq .res (.lit (.bool true))).value [] { args := args, res := some (.bool true), after := args } = some (.bool (true == true)) from w_eq_bool (w_res rfl) w_lit) rfl

/-! ### the attachment: holds_open's last premise (the goal 'hc' behind k_head) from a wpAny of the law's body -/
/-- the same from a codeAny of the CALL (for a layer whose function contracts speak of calls) -/
theorem attach_call {l : OpenLaw} {n : Nat} {q : Program} {loose : List Str} {XP : (Str → Option Value) → Heap → Prop} {YP : World → Heap → Prop} {d : DefRec}
    (hn : l.most = some n) (hdf : d.params.defaults = [])
    (call : ∀ (w : World) (s₀ s₁ : Shared) (mg mb : Str → Option Value) (fa : Addr) (o : Obj) (pm cd doc : Value) (a : Addr) (vs : List Value) (ns : List Int),
      Ground q loose [] XP w s₀ mg mb s₁.heap → YP w s₁.heap →
      s₁.heap.get? fa = some o → o.data = .func (docDef d.name d.params d.body d.scope pm cd doc) → s₁.heap.CodeRec cd d.name → mg d.name = some (.ref fa) →
      s₁.heap.get? a = some { cls := .type "list", data := .seq vs.toArray } → IntsAre vs ns → ns.length ≤ n → s₁.gens = #[] →
      codeAny (model l.prog w) callerA (.call (.ref fa) ⟨[.ref a], []⟩) (fun r s' => r = .ok (.ret (.bool true)) ∧ OldK s₁.heap s'.heap ∧ s'.os = s₁.os ∧ AllBare s'.gens) s₁) :
    WalkO q loose XP YP l.row.toRowW d [] (fun f vs => PySem.call f vs) := by
  intro w s₀ s₁ mg mb G Y fa o pm cd doc dV kV ho hd hcd hD hmg hg args vals as hpre hlay hrd hwl hlo
  obtain rfl : dV = .none := Dflts.none hD hdf
  obtain rfl : kV = .none := Dflts.noKw hD
  obtain ⟨a, vs, ns, rfl, rfl, hobj, hints, hlen⟩ := script_of hn hpre hwl
  refine enter_call (codeAny_mono (call w s₀ s₁ mg mb fa o pm cd doc a vs ns G Y ho (fd_plain hd) hcd hmg hobj hints hlen hg) fun r s' hq => ?_)
  obtain ⟨rfl, h2, h3, h4⟩ := hq
  exact ⟨.inl ⟨.bool true, .bool true, [], rfl, fun _ => rfl, .bool true, post_true l _, fun _ => ⟨List.Pairwise.nil, fun _ hm => (nomatch hm)⟩⟩, h2, h3, h4⟩

/-! ### rules over ANY heap (no ledger) from facts about the written part K: the library's own take a ledger (News) for what they write -/
end Att

namespace L2
open PySem PySem.Spec PyProof.Rows

theorem vals_ints : ∀ {vs : List Value} {ns : List Int}, IntsAre vs ns → Vals (ns.map V.int) vs
  | _, _, .nil => .nil
  | _, _, .cons n t h => .cons ⟨t, rfl⟩ (vals_ints h)

/-- nothing is tracked but the script, known to the object (or it is an object of the module) -/
def Only (H : Hp) : Prop := ∀ b, H b = none ∨ ∃ o xs, H b = some (.frz o (.lst xs))

/-- THE HEAD: the law's promise, at the heap behind the top. F, the promise of the law's def, may use that base is part of the heap (so K.In base, base.Ns mainGlobals mg stand in Mod) -/
theorem law_call {P : Program} {w : World} {K : PySem.W.Frag} {mg mb : Str → Option Value} {CX : CXT} {k : Nat} {fa a : Addr} {fd : FuncData} {x : Str} {sp : Sp} {s₁ : Shared} {vs : List Value} {ns : List Int}
    (KX : K.In s₁.heap) (hns : s₁.heap.Ns mainGlobals mg) (hb : s₁.heap.Ns builtinsNs mb) (hbb : ∀ x : Str, x ≠ "__name__" → mb x = bootBuiltins x) (hlim : s₁.heap.NoLimit) (hg : s₁.gens = #[])
    (ha : s₁.heap.get? a = some { cls := .type "list", data := .seq vs.toArray }) (hi : IntsAre vs ns) (hl : ns.length ≤ sizeLine) (hr : Room k callerA)
    (F : ∀ base : Heap, K.In base → base.Ns mainGlobals mg → FnOk P w K mg base CX k fa fd [x] sp) (hbind : ∀ (s : Shared) (u : Value), BindsTo s fd ⟨[u], []⟩ [(x, u)])
    (hsp : ∀ H : Hp, Only H → SqL K H a (ns.map V.int) → sp [.ref a] H (fun v _ => v = .bl true) fun _ _ _ => False)
    (hCX : ∀ H e s', CX [] H s₁ (fun _ _ _ => False) e s' → False) :
    codeAny (model P w) callerA (.call (.ref fa) ⟨[.ref a], []⟩) (fun r s' => r = .ok (.ret (.bool true)) ∧ OldK s₁.heap s'.heap ∧ s'.os = s₁.os ∧ AllBare s'.gens) s₁ := by
  have rv := vals_ints hi
  have lenV := hi.length
  -- from an abstract heap in which nothing but the script may be tracked
  have core : ∀ H : Hp, Only H → SqL K H a (ns.map V.int) → HOk P w H s₁.heap → (∀ b, H b ≠ none → b = a) → (H a ≠ none → K.lookup a = none) →
      codeAny (model P w) callerA (.call (.ref fa) ⟨[.ref a], []⟩) (fun r s' => r = .ok (.ret (.bool true)) ∧ OldK s₁.heap s'.heap ∧ s'.os = s₁.os ∧ AllBare s'.gens) s₁ := by
    intro H hO hS hok hA hK
    have base_of : ∀ {b : Addr} {o : Obj}, s₁.heap.get? b = some o → H b = none → (hidT s₁.heap H).get? b = some o := fun e n => hidT_get e n
    have noA : ∀ {b : Addr} {o : Obj} {es : Array DictEntry} {ep : Nat}, s₁.heap.get? b = some o → o.data = .dict es ep → H b = none := fun {b o es ep} e d => by
      cases q : H b with
      | none => rfl
      | some u =>
        have e' : b = a := hA b (by rw [q]; simp)
        subst e'
        rw [ha] at e; cases e
        have d' : Data.seq vs.toArray _ = Data.dict es ep := d
        cases d'
    have nsK : ∀ {b : Addr} {m : Str → Option Value}, s₁.heap.Ns b m → (hidT s₁.heap H).Ns b m := fun {b m} ⟨o, es, ep, e, d, r⟩ => ⟨o, es, ep, base_of e (noA e d), d, r⟩
    have hKb : K.In (hidT s₁.heap H) := fun b o e => base_of (KX b o e) (by
      cases q : H b with
      | none => rfl
      | some u =>
        have e' : b = a := hA b (by rw [q]; simp)
        subst e'
        rw [hK (by rw [q]; simp)] at e; cases e)
    have hM : Mod K mg (hidT s₁.heap H) := ⟨hKb, nsK hns, ⟨mb, nsK hb, hbb⟩, let ⟨mc, h1, h2⟩ := hlim; ⟨mc, nsK h1, h2⟩⟩
    have e0 : Env0 P w K mg (hidT s₁.heap H) callerA [] s₁ H := ⟨rfl, hM, fun b o e => of_hidT e, Nat.le_of_eq (hidT_size _ _), trivial, fun b hb => absurd (show b ∈ ([] : List Addr) from hb) (by simp), hok, .of_eq hg⟩
    refine codeAny_mono ((F _ hKb (nsK hns)).run callerA [] s₁ H ⟨[.ref a], []⟩ [.ref a] [.ref a] _ _ hr e0 (hbind s₁ (.ref a)) (.cons rfl .nil) (hsp H hO hS)) fun r s' h => ?_
    cases r with
    | error e => exact (hCX H e s' h).elim
    | ok fl =>
      cases fl with
      | next => exact False.elim h
      | brk => exact False.elim h
      | cont => exact False.elim h
      | ret u =>
        obtain ⟨v, H', os, bare, un, hok', r', q⟩ := h
        have q' : v = .bl true := q
        subst q'
        obtain rfl : u = Value.bool true := r'
        refine ⟨rfl, OldK.of_keep fun b o e => ?_, os, bare⟩
        cases q : H b with
        | none => exact un.keep b o e q (by intro z; exact absurd (show b ∈ ([] : List Addr) from z) (by simp)) (by simp)
        | some u =>
          rcases hO b with z | ⟨ob, xs, z⟩
          · rw [q] at z; cases z
          · have z2 := un.frzs b ob _ z
            obtain ⟨e1, _⟩ := hok b _ z
            obtain ⟨e2, _⟩ := hok' b _ z2
            rw [e] at e1; cases e1
            exact e2
  cases hk : K.lookup a with
  | some o =>
    -- the script is one of the module's own objects
    have e := KX a o hk
    rw [ha] at e
    cases e
    refine core (fun _ => none) (fun _ => .inl rfl) (.inr ⟨_, vs.toArray, _, hk, rfl, rfl, rfl, by rw [List.size_toArray, lenV]; exact hl, by simpa using rv⟩) (fun b u z => by have z' : (none : Option HO) = some u := z; cases z') (fun b z => absurd rfl z) fun z => absurd rfl z
  | none =>
    refine core (fun b => if b = a then some (.frz { cls := .type "list", data := .seq vs.toArray } (.lst (ns.map V.int))) else none) (fun b => ?_) (.inl (.inr ⟨{ cls := .type "list", data := .seq vs.toArray }, if_pos rfl⟩)) (fun b u z => ?_) (fun b z => ?_) fun _ => hk
    · by_cases hb : b = a
      · exact .inr ⟨_, _, if_pos hb⟩
      · exact .inl (if_neg hb)
    · by_cases hb : b = a
      · have z' := (if_pos hb).symm.trans z
        cases z'
        subst hb
        exact ⟨ha, by rw [List.length_map]; exact hl, vs, _, rv, ha⟩
      · have z' := (if_neg hb).symm.trans z
        cases z'
    · by_cases hb : b = a
      · exact hb
      · exact absurd (if_neg hb) z
end L2

namespace L2
open PySem PySem.Spec PyProof.Rows

/-- the goal that k_head leaves (case hc), from the law's promise. F gives the function object fd (K's own) once, then the promise over every base -/
theorem walk_of {l : PySem.W.OpenLaw} {n k : Nat} {q : Program} {loose : List Str} {XP : (Str → Option Value) → Heap → Prop} {YP : World → Heap → Prop} {d : DefRec} {K : Params → PySem.W.Frag} {CX : World → CXT} {sp : World → Sp} {x : Str}
    (hn : l.most = some n) (hn2 : n ≤ sizeLine) (hdf : d.params.defaults = []) (hr : Room k callerA)
    (hY : ∀ (w : World) (h : Heap), YP w h → (K w.params).In h)
    (F : ∀ (w : World) (mg : Str → Option Value) (fa : Addr) (h : Heap), (K w.params).In h → h.Ns mainGlobals mg → mg d.name = some (.ref fa) →
      ∃ fd : FuncData, (∀ (s : Shared) (u : Value), BindsTo s fd ⟨[u], []⟩ [(x, u)]) ∧
        ∀ base : Heap, (K w.params).In base → base.Ns mainGlobals mg → FnOk l.prog w (K w.params) mg base (CX w) k fa fd [x] (sp w))
    (hsp : ∀ (w : World) (H : Hp) (a : Addr) (ns : List Int), ns.length ≤ n → Only H → SqL (K w.params) H a (ns.map V.int) → sp w [.ref a] H (fun v _ => v = .bl true) fun _ _ _ => False)
    (hCX : ∀ (w : World) (H : Hp) (s : Shared) (e : Value) (s' : Shared), CX w [] H s (fun _ _ _ => False) e s' → False) :
    PySem.W.WalkO q loose XP YP l.row.toRowW d [] (fun f vs => PySem.call f vs) := by
  refine Att.attach_call hn hdf fun w s₀ s₁ mg mb fa o pm cd doc a vs ns G Y ho hd hcd hmg hobj hints hlen hg => ?_
  have KX := hY w _ Y
  obtain ⟨fd, hb, hF⟩ := F w mg fa _ KX G.T.g hmg
  exact law_call KX G.T.g G.T.b G.T.builtins G.T.nolimit hg hobj hints (Nat.le_trans hlen hn2) hr hF hb (fun H hO hS => hsp w H a ns hlen hO hS) fun H e s' => hCX w H s₁ e s'
end L2

/- THE LAST THEOREM (shape; LID, My.* are yours):
   My.Adr: a structure of the addresses that your layer names (classes, functions); My.Txt K t: a structure (Prop) of the equations over K;
   My.txt_mk : {K} {implicit addresses ..} (e1 : nsIn K mainGlobals "law" = some (some (.ref f))) (e2 : K.lookup f = some ⟨oc, od, .func (fnOf "law" "law" params body scope dV kV doc pm an cdv ct), sl⟩) (e3 : codeIn K cdv "law" = true) .. : ∃ t, My.Txt K t

set_option maxRecDepth 100000 in
set_option maxHeartbeats 0 in
theorem PySem.Challenge.cw_LID_holds : PySem.Challenge.rw_LID.Holds := by
  w_on; o_law; k_head; (case hw => w_witness2)
  k_fill
  refine L2.walk_of (l := PySem.Challenge.rw_LID) (n := 63) (k := 40) (x := "script") (CX := fun w => ..) (sp := fun _ => My.sp_law) rfl (by decide) rfl ⟨rfl, by decide, by decide⟩ (fun w h Y => PySem.W.kIn_of Y) ?F ?S ?C
  case F =>
    intro w mg fa h KX G hmg
    have T : ∃ t, My.Txt (L2.KOf KX) t := by
      dsimp only [L2.KOf]                          -- K must stand as «<heap const> w.params» for k_is
      refine' My.txt_mk ?e1 ?e2 ?e3 ..
      (case e1 => PySem.W.k_is)                    -- in the order: a name -> its address -> its object -> its parts
      (case e2 => PySem.W.k_is)
      ..
    obtain ⟨t, T⟩ := T
    have e0 := hmg.symm.trans (PySem.W.mg_of KX G T.law)
    cases e0                                       -- fa is the law's own address
    exact ⟨_, fun s u => .of_eq rfl, fun base kb nb => My.law_fn T kb nb⟩     -- if «.of_eq rfl» comes too early: refine' ⟨_, ?b, fun base kb nb => My.law_fn T kb nb⟩; exact fun s u => .of_eq rfl
  case S => exact fun w H a ns hl hO hS => ..
  case C => exact ..
(the tactic k_is has no namespace: write k_is) -/

/-! SHORT WORDS over the layer: a def of the text, its body, what a loop and a test want. -/
namespace L2
open PySem PySem.Spec PyProof.Rows

/-! ### the text by places -/
def defArgs (s : Stmt) : Arguments := match s with
  | .FunctionDef _ a _ _ _ _ _ _ _ _ => a
  | _ => { posonlyargs := [], args := [], vararg := none, kwonlyargs := [], kw_defaults := [], kwarg := none, defaults := [] }
def defBody (s : Stmt) : List Stmt := match s with
  | .FunctionDef _ _ b _ _ _ _ _ _ _ => b
  | _ => []
def defScope (s : Stmt) : Scope := match s with
  | .FunctionDef _ _ _ _ _ _ sc _ _ _ => sc
  | _ => { kind := .function, names := [], isGenerator := false, isCoroutine := false }

/-! ### no exception leaves a def -/
abbrev CX0 : CXT := fun _ _ _ _ _ _ => False
abbrev E0 : XK := fun _ _ _ => False
theorem pass0 {X : Cx} : Passes CX0 X E0 := fun _ _ _ _ _ _ _ h => h.elim

/-! ### a def (or method) of the text as it stands behind the top -/
structure Fun (K : PySem.W.Frag) (x qual : Str) (st : Stmt) (f : Addr) (fd : FuncData) : Prop where
  ex : ∃ (oc : Value) (od : Option Addr) (kV doc pm : Value) (an : Option Addr) (cdv ct : Value) (osl : Array (Option Value)),
    fd = PySem.W.fnOf x qual (defArgs st) (defBody st) (defScope st) .none kV doc pm an cdv ct ∧ K.lookup f = some ⟨oc, od, .func fd, osl⟩ ∧ PySem.W.codeIn K cdv qual = true
  kp : PySem.W.keepIn K (.ref f) = true
section
variable {P : Program} {w : World} {K : PySem.W.Frag} {mg : Str → Option Value} {base : Heap}
/-- THE RULE for a def: its body as a term of rules, and the reading of that term -/
theorem Fun.ok {x qual : Str} {st : Stmt} {f : Addr} {fd : FuncData} {N ps : List Str} {k : Nat} {sp : Sp} (F : Fun K x qual st f fd) (S : FnScope N ps (defScope st)) (len : ∀ vs H Q E, sp vs H Q E → vs.length = ps.length)
    (hbody : ∀ (cdv : Value) (A : Around) (outer : List Env) (s : Shared) (H : Hp) (vs : List V) (Q : VK) (E : XK), Room k (A.deeper (envOfC qual (defScope st) s.heap.objs.size f cdv)) → sp vs H Q E →
      ∃ t, PSs (cxOf CX0 P w K mg base N qual (defScope st) f cdv A outer s H E).nox (defBody st) t ∧ t { nx := fun _ H' => Q .non H', rt := Q } (start N vs) H) : FnOk P w K mg base CX0 (k + 1) f fd ps sp := by
  obtain ⟨oc, od, kV, doc, pm, an, cdv, ct, osl, rfl, lk, hcd⟩ := F.ex
  refine fn_of lk hcd S len fun A outer s H vs Q E hr hsp => ?_
  obtain ⟨t, h, q⟩ := hbody cdv A outer s H vs Q E hr hsp
  exact ⟨t, h.nox, q⟩
/-- how its arguments bind (no defaults): h is «fun _ _ _ _ _ _ us hl => match us, hl with | [_, _], _ => rfl», one _ a parameter -/
theorem Fun.binds {x qual : Str} {st : Stmt} {f : Addr} {fd : FuncData} {ps : List Str} (F : Fun K x qual st f fd)
    (h : ∀ (kV doc pm : Value) (an : Option Addr) (cdv ct : Value) (us : List Value), us.length = ps.length → bindArgs (PySem.W.fnOf x qual (defArgs st) (defBody st) (defScope st) .none kV doc pm an cdv ct) ⟨us, []⟩ = pure (ps.zip us)) : Binds K fd ps [] := by
  obtain ⟨oc, od, kV, doc, pm, an, cdv, ct, osl, rfl, lk, hcd⟩ := F.ex
  exact .all (h kV doc pm an cdv ct)
theorem fun_mk {x qual : Str} {st : Stmt} {f : Addr} {oc : Value} {od an : Option Addr} {osl : Array (Option Value)} {kV doc pm cdv ct : Value} (l : K.lookup f = some ⟨oc, od, .func (PySem.W.fnOf x qual (defArgs st) (defBody st) (defScope st) .none kV doc pm an cdv ct), osl⟩)
    (c : PySem.W.codeIn K cdv qual = true) (k : PySem.W.keepIn K (.ref f) = true) : Fun K x qual st f (PySem.W.fnOf x qual (defArgs st) (defBody st) (defScope st) .none kV doc pm an cdv ct) := ⟨⟨oc, od, kV, doc, pm, an, cdv, ct, osl, rfl, l, c⟩, k⟩
end
theorem small1000 {n : Nat} (h : n ≤ 1000) : n < sizeLine := Nat.lt_of_le_of_lt h (by decide)

/-! ### expressions in short: the name that stands in the i-th slot -/

/-! ### tests -/
theorem iteF {A B : Prop} (h : B) : if false = true then A else B := by
  rw [if_neg Bool.false_ne_true]
  exact h
theorem iteT {A B : Prop} (h : A) : if true = true then A else B := by
  rw [if_pos rfl]
  exact h
theorem ite2 {c A B : Prop} [Decidable c] (h1 : c → A) (h2 : ¬ c → B) : if c then A else B := by
  by_cases h : c
  · rw [if_pos h]
    exact h1 h
  · rw [if_neg h]
    exact h2 h
/-! ### heaps -/
/-- all that was tracked is as it was -/
def Same (H H' : Hp) : Prop := ∀ b o, H b = some o → H' b = some o
theorem Same.seq {K : PySem.W.Frag} {H H' : Hp} {a : Addr} {xs : List V} (e : Same H H') (h : SqL K H a xs) : SqL K H' a xs := by
  rcases h with (h | ⟨o, h⟩) | h
  · exact .inl (.inl (e _ _ h))
  · exact .inl (.inr ⟨o, e _ _ h⟩)
  · exact .inr h

end L2
set_option Elab.async false
set_option linter.all false
set_option maxRecDepth 100000
namespace L2
open PySem PySem.Spec PyProof.Rows

/-! ### lists of pairs as tables -/
section
variable {κ : Type} [DecidableEq κ]
def valV (kvs : List (κ × V)) (k : κ) : Option V := (kvs.find? fun kv => decide (kv.1 = k)).map (·.2)
/-- in its place, or at the end -/
def putK (kvs : List (κ × V)) (k : κ) (v : V) : List (κ × V) :=
  if (kvs.any fun kv => decide (kv.1 = k)) = true then kvs.map (fun kv => if kv.1 = k then (kv.1, v) else kv) else kvs ++ [(k, v)]
theorem valV_pos {p : κ × V} {r : List (κ × V)} {k : κ} (e : p.1 = k) : valV (p :: r) k = some p.2 := by simp [valV, List.find?_cons, e]
theorem valV_neg {p : κ × V} {r : List (κ × V)} {k : κ} (e : ¬ p.1 = k) : valV (p :: r) k = valV r k := by simp [valV, List.find?_cons, e]
theorem valV_any (k : κ) : ∀ kvs : List (κ × V), (kvs.any fun kv => decide (kv.1 = k)) = (valV kvs k).isSome
  | [] => rfl
  | p :: r => by
    rw [List.any_cons]
    by_cases e : p.1 = k
    · simp only [valV_pos e, decide_eq_true e, Bool.true_or, Option.isSome_some]
    · rw [valV_neg e, decide_eq_false e, Bool.false_or]; exact valV_any k r
theorem length_putK (kvs : List (κ × V)) (k : κ) (v : V) : (putK kvs k v).length ≤ kvs.length + 1 := by
  unfold putK
  split
  · rw [List.length_map]; omega
  · rw [List.length_append, List.length_cons, List.length_nil]; omega
theorem RelO.isSome_eq {o : Option V} {u : Option Value} (r : RelO o u) : o.isSome = u.isSome := by
  cases o with
  | none => cases u with
    | none => rfl
    | some _ => exact (show False from r).elim
  | some _ => cases u with
    | none => exact (show False from r).elim
    | some _ => rfl
/-- raw tables of the same keys -/
theorem KV.val {kvs : List (κ × V)} {vs : List (κ × Value)} (r : KV kvs vs) (k : κ) : RelO (valV kvs k) (valueAt vs k) := by
  unfold KV at r
  induction r with
  | nil => exact True.intro
  | @cons p q ps qs h t ih =>
    obtain ⟨h1, h2⟩ := h
    by_cases e : p.1 = k
    · have e' : q.1 = k := h1.symm.trans e
      have b : valueAt (q :: qs) k = some q.2 := by simp [valueAt, List.find?_cons, e']
      rw [valV_pos e, b]; exact h2
    · have e' : ¬ q.1 = k := fun z => e (h1.trans z)
      have b : valueAt (q :: qs) k = valueAt qs k := by simp [valueAt, List.find?_cons, e']
      rw [valV_neg e, b]; exact ih
theorem KV.any {kvs : List (κ × V)} {vs : List (κ × Value)} (r : KV kvs vs) (k : κ) : (kvs.any fun kv => decide (kv.1 = k)) = vs.any fun kv => decide (kv.1 = k) := by
  unfold KV at r
  induction r with
  | nil => rfl
  | cons h t ih => rw [List.any_cons, List.any_cons, ih, h.1]
theorem KV.repl {kvs : List (κ × V)} {vs : List (κ × Value)} (r : KV kvs vs) (k : κ) {y : V} {u : Value} (ry : RelV y u) :
    KV (kvs.map fun kv => if kv.1 = k then (kv.1, y) else kv) (vs.map fun kv => if kv.1 = k then (kv.1, u) else kv) := by
  unfold KV at r ⊢
  induction r with
  | nil => exact .nil
  | @cons p q ps qs h t ih =>
    rw [List.map_cons, List.map_cons]
    refine .cons ?_ ih
    obtain ⟨h1, h2⟩ := h
    by_cases e : p.1 = k
    · rw [if_pos e, if_pos (h1.symm.trans e)]; exact ⟨h1, ry⟩
    · rw [if_neg e, if_neg (fun z => e (h1.trans z))]; exact ⟨h1, h2⟩
theorem KV.put {kvs : List (κ × V)} {vs : List (κ × Value)} (r : KV kvs vs) (k : κ) {y : V} {u : Value} (ry : RelV y u) : KV (putK kvs k y) (stored vs k u) := by
  unfold putK stored
  rw [r.any k]
  by_cases e : (vs.any fun kv => decide (kv.1 = k)) = true
  · rw [if_pos e, if_pos e]; exact r.repl k ry
  · rw [if_neg e, if_neg e]; exact Paired.snoc r ⟨rfl, ry⟩
theorem KV.length {kvs : List (κ × V)} {vs : List (κ × Value)} (r : KV kvs vs) : kvs.length = vs.length := Paired.length r
end


/-! ### a tracked dict, its keys ints and texts or tuples of these -/
theorem kV_is {P : Program} {w : World} {k : Key} {u : Value} (r : RelV (kV k) u) : (mixKind P w).is k u = true := by
  cases k with
  | inl i => obtain ⟨t, e⟩ := (show ∃ t, u = Value.int i t from r); subst e; exact mixKind_int P w i t
  | inr x => obtain ⟨t, e⟩ := (show ∃ t, u = Value.str x t from r); subst e; exact mixKind_str P w x t
theorem items_are {P : Program} {w : World} : ∀ {ks : List Key} {us : List Value}, Vals (ks.map kV) us → ItemsAre (mixKind P w) ks us
  | [], _, r => by rw [List.map_nil] at r; cases r; exact .nil
  | k :: ks, _, r => by
    rw [List.map_cons] at r
    cases r with
    | cons h t => exact .cons (kV_is h) (items_are t)

/-- raw entries of a dict with tuple keys -/
abbrev KT (H : Hp) : List (List Key × V) → List (List Key × Addr × Value) → Prop := Paired fun p q => p.1 = q.1 ∧ H q.2.1 = some (.tup (p.1.map kV)) ∧ RelV p.2 q.2.2
theorem KT.val {H : Hp} {kvs : List (List Key × V)} {xs : List (List Key × Addr × Value)} (r : KT H kvs xs) (k : List Key) : RelO (valV kvs k) ((atKey xs k).map (·.2)) := by
  induction r with
  | nil => exact True.intro
  | @cons p q ps qs h t ih =>
    obtain ⟨h1, _, h2⟩ := h
    by_cases e : p.1 = k
    · have e' : q.1 = k := h1.symm.trans e
      have b : atKey (q :: qs) k = some q.2 := by simp [atKey, List.find?_cons, e']
      rw [valV_pos e, b]; exact h2
    · have e' : ¬ q.1 = k := fun z => e (h1.trans z)
      have b : atKey (q :: qs) k = atKey qs k := by simp [atKey, List.find?_cons, e']
      rw [valV_neg e, b]; exact ih
theorem KT.repl {H : Hp} {kvs : List (List Key × V)} {xs : List (List Key × Addr × Value)} (r : KT H kvs xs) (k : List Key) {y : V} {u : Value} (ry : RelV y u) :
    KT H (kvs.map fun kv => if kv.1 = k then (kv.1, y) else kv) (xs.map (putAt k u)) := by
  induction r with
  | nil => exact .nil
  | @cons p q ps qs h t ih =>
    rw [List.map_cons, List.map_cons]
    refine .cons ?_ ih
    obtain ⟨h1, h2, h3⟩ := h
    unfold putAt
    by_cases e : p.1 = k
    · rw [if_pos e, if_pos (h1.symm.trans e)]; exact ⟨h1, h2, ry⟩
    · rw [if_neg e, if_neg (fun z => e (h1.trans z))]; exact ⟨h1, h2, h3⟩
theorem KT.put {H : Hp} {kvs : List (List Key × V)} {xs : List (List Key × Addr × Value)} (r : KT H kvs xs) (k : List Key) {b : Addr} {y : V} {u : Value} (hb : H b = some (.tup (k.map kV))) (ry : RelV y u) :
    KT H (putK kvs k y) (storedH xs k b u) := by
  have e : (kvs.any fun kv => decide (kv.1 = k)) = (atKey xs k).isSome := by
    rw [valV_any, (r.val k).isSome_eq, Option.isSome_map]
  unfold putK storedH
  rw [e]
  by_cases q : (atKey xs k).isSome = true
  · rw [if_pos q, if_pos q]; exact r.repl k ry
  · rw [if_neg q, if_neg q]; exact Paired.snoc r ⟨rfl, hb, ry⟩
theorem KT.keeps {H H' : Hp} {kvs : List (List Key × V)} {xs : List (List Key × Addr × Value)} (r : KT H kvs xs) (ht : ∀ b ys, H b = some (.tup ys) → H' b = some (.tup ys)) : KT H' kvs xs :=
  Paired.mapP r fun _ _ z => ⟨z.1, ht _ _ z.2.1, z.2.2⟩

section
variable {P : Program} {w : World} {H : Hp} {h : Heap} {a : Addr}
theorem rd_of {u : HO} (ok : HOk P w H h) (e : Rd H a u) : ObjOk P w H h a u := e.ok ok
theorem dk_rd {kvs : List (Key × V)} (ok : HOk P w H h) (e : Rd H a (.dK kvs)) : kvs.length ≤ sizeLine ∧ (a == sysModules) = false ∧ ∃ vs, KV kvs vs ∧ h.DictOf (mixKind P w) a vs :=
  show ObjOk P w H h a (.dK kvs) from rd_of ok e
theorem dk_of {kvs : List (Key × V)} (ok : HOk P w H h) (e : H a = some (.dK kvs)) : kvs.length ≤ sizeLine ∧ (a == sysModules) = false ∧ ∃ vs, KV kvs vs ∧ h.DictOf (mixKind P w) a vs := dk_rd ok (.inl e)
/-- a tracked tuple of ints and texts is a key -/
theorem key_of {ks : List Key} (ok : HOk P w H h) (e : H a = some (.tup (ks.map kV))) : (tupleKind (mixKind P w)).is h ks a := by
  obtain ⟨_, its, r, o, h1, h2, n, h3⟩ := (show ObjOk P w H h a (.tup (ks.map kV)) from ok a _ e)
  exact ⟨o, its.toArray, n, h1, h2, h3, by simpa using items_are r⟩
theorem dt_rd {kvs : List (List Key × V)} (ok : HOk P w H h) (e : Rd H a (.dT kvs)) : kvs.length ≤ sizeLine ∧ (a == sysModules) = false ∧
    ∃ xs, KT H kvs xs ∧ h.DictOfH (tupleKind (mixKind P w)) a xs := by
  obtain ⟨z, y, xs, r, o, es, ep, h1, h2, h3, h4, h5⟩ := (show ObjOk P w H h a (.dT kvs) from rd_of ok e)
  refine ⟨z, y, xs, r, o, es, ep, h1, h2, h3, h4, fun x hx => ?_, h5⟩
  have all : ∀ {l : List (List Key × V)} {m : List (List Key × Addr × Value)}, KT H l m → ∀ x ∈ m, (tupleKind (mixKind P w)).is h x.1 x.2.1 := by
    intro l m q
    induction q with
    | nil => intro x hx; exact nomatch hx
    | @cons p q ps qs hq t ih =>
      intro x hx
      rcases List.mem_cons.mp hx with e | hx
      · subst e
        exact key_of ok (by rw [← hq.1]; exact hq.2.1)
      · exact ih x hx
  exact all r x hx
theorem dt_of {kvs : List (List Key × V)} (ok : HOk P w H h) (e : H a = some (.dT kvs)) : kvs.length ≤ sizeLine ∧ (a == sysModules) = false ∧
    ∃ xs, KT H kvs xs ∧ h.DictOfH (tupleKind (mixKind P w)) a xs := dt_rd ok (.inl e)
end

/-- what the dict at a holds at the key y -/
def DGet (H : Hp) (a : Addr) (y : V) (r : Option V) : Prop :=
  (∃ kvs k, Rd H a (.dK kvs) ∧ y = kV k ∧ r = valV kvs k) ∨ ∃ kvs k b, Rd H a (.dT kvs) ∧ y = .ref b ∧ H b = some (.tup (k.map kV)) ∧ r = valV kvs k
/-- the heap behind a[y] = v -/
def DPut (H : Hp) (a : Addr) (y v : V) (H' : Hp) : Prop :=
  (∃ kvs k, H a = some (.dK kvs) ∧ y = kV k ∧ kvs.length < sizeLine ∧ H' = upd H a (.dK (putK kvs k v))) ∨
  ∃ kvs k b, H a = some (.dT kvs) ∧ y = .ref b ∧ H b = some (.tup (k.map kV)) ∧ kvs.length < sizeLine ∧ H' = upd H a (.dT (putK kvs k v))
theorem DGet.t {H : Hp} {a b : Addr} {kvs : List (List Key × V)} {k : List Key} (e : H a = some (.dT kvs)) (eb : H b = some (.tup (k.map kV))) : DGet H a (.ref b) (valV kvs k) := .inr ⟨kvs, k, b, .inl e, rfl, eb, rfl⟩
theorem DPut.t {H : Hp} {a b : Addr} {kvs : List (List Key × V)} {k : List Key} {v : V} (e : H a = some (.dT kvs)) (eb : H b = some (.tup (k.map kV))) (hl : kvs.length < sizeLine) :
    DPut H a (.ref b) v (upd H a (.dT (putK kvs k v))) := .inr ⟨kvs, k, b, e, rfl, eb, hl, rfl⟩


section
variable {X : Cx} {pins : List (Addr × Obj)} {σ : St} {H : Hp} {s : Shared} {a : Addr} {y v : V} {u r : Value} {o : Option V} {A : Around} {E : Value → Shared → Prop}

theorem Inv.big (I : Inv X pins σ H s) : sysModules < s.heap.objs.size := by
  have h : mainGlobals < s.heap.objs.size := (I.mod.glob.keeps I.bk).lt
  exact Nat.lt_trans (by decide) h

/-- y in d -/
theorem d_in {Q : Value → Shared → Prop} (hu : A.units + 1 < cLine) (I : Inv X pins σ H s) (g : DGet H a y o) (ry : RelV y u) (h : ∀ s', Inv X pins σ H s' → Q (.bool o.isSome) s') :
    wpAny (model X.prog X.w) A (compareOp .In u (.ref a)) Q E s := by
  rcases g with ⟨kvs, k, e, ey, l⟩ | ⟨kvs, k, b, e, ey, eb, l⟩
  · subst ey
    obtain ⟨z, hd, vs, rel, dd⟩ := dk_rd I.hok e
    refine wpAny_in_of (kV_is ry) hd dd.mapOf ?_
    rw [← (rel.val k).isSome_eq, ← l]
    exact h _ (I.tok _)
  · subst ey
    cases (show u = Value.ref b from ry)
    obtain ⟨z, hd, xs, rel, dd⟩ := dt_rd I.hok e
    refine wpAny_in_heap (tupleKind_room_in1 hu) (key_of I.hok eb) hd dd ?_
    have q := (rel.val k).isSome_eq
    rw [Option.isSome_map] at q
    rw [← q, ← l]
    exact h _ (I.tok _)
/-- a dict's object is replaced -/
theorem d_write {h' : Heap} {t' : Nat} {ob : HO} (I : Inv X pins σ H s) (mu : Mut (H a)) (hs : Heap.SameBut a s.heap h') (he : ∃ q, h'.get? a = some q) (new : ObjOk X.prog X.w (upd H a ob) h' a ob) :
    Inv X pins σ (upd H a ob) { s with heap := h', toks := t' } :=
  I.write (x := a) (e := a) mu (.inl rfl) (fun b q hb z => (hs.2 b hb).trans z) he new
theorem dk_new {P : Program} {w : World} {H' : Hp} {h' : Heap} {kvs : List (Key × V)} {vs : List (Key × Value)} (z : kvs.length ≤ sizeLine) (hd : (a == sysModules) = false) (rel : KV kvs vs) (dd : h'.DictOf (mixKind P w) a vs) :
    ObjOk P w H' h' a (.dK kvs) := ⟨z, hd, vs, rel, dd⟩
end



/-! ### readings and rules -/
/-- y in d, y not in d -/
def tDIn (ty td : TE) : TE := fun σ H Q => ty σ H fun y H1 => td σ H1 fun x H2 => ∃ a o, x = .ref a ∧ DGet H2 a y o ∧ Q (.bl o.isSome) H2
section
variable {X : Cx} {o i e value : Expr} {pos pos' tpos : Pos} {td ty tv : TE}
theorem pc_din (hu : X.A.units + 1 < cLine) (hi : PE X i ty) (ho : PE X o td) : PC X .In i o (tDIn ty td) := by
  intro pins s σ H Q I h
  refine thn (hi pins s σ H _ I h) fun iv s1 ⟨y, H1, I1, ry, q1⟩ => thn (ho pins s1 σ H1 _ I1 q1) fun u s2 ⟨x, H2, I2, rx, a, ov, ex, g, q2⟩ => ?_
  subst ex
  obtain rfl : u = Value.ref a := rx
  exact d_in hu I2 g ry fun s3 I3 => ⟨.bl ov.isSome, H2, I3, rfl, q2⟩
end


/-! ### displays -/
theorem dt_empty {P : Program} {w : World} {H : Hp} (h : Heap) (hb : sysModules < h.objs.size) : ObjOk P w H (h.push { cls := .type "dict", data := .dict #[] }) h.objs.size (.dT []) :=
  ⟨Nat.zero_le _, beq_eq_false_iff_ne.mpr (Ne.symm (Nat.ne_of_lt hb)), [], .nil, _, #[], 0, Heap.get?_push_size _ rfl, ⟨rfl, rfl, rfl⟩, rfl, rfl, List.nodup_nil⟩

/-! ### methods -/


/-! ### dict(d): a copy -/


end L2
namespace L2
open PySem PySem.Spec PyProof.Rows
/-! ### a dict's pairs: keys that differ -/
end L2
set_option Elab.async false
set_option linter.all false
set_option maxRecDepth 100000
namespace L2
open PySem PySem.Spec PyProof.Rows

/-! ### a comprehension's block: its context -/
def clOf (scope : Scope) (env : Env) : List (Str × Addr) :=
  (scope.names.filterMap fun (p : Str × NameKind) => if p.2 == .free then (env.cells.lookup p.1).map fun c => (p.1, c) else none).reverse
theorem closure_go (env : Env) : ∀ (l : List (Str × NameKind)) (acc : List (Str × Addr)), (∀ p ∈ l, p.2 = .free → ∃ c, env.cells.lookup p.1 = some c) →
    (forIn l acc fun (x : Str × NameKind) (r : List (Str × Addr)) => if (x.2 == NameKind.free) = true then do let c ← cellOf env x.1; pure (ForInStep.yield ((x.1, c) :: r)) else pure (ForInStep.yield r) : Sem (List (Str × Addr))) =
      pure ((l.filterMap fun (p : Str × NameKind) => if p.2 == .free then (env.cells.lookup p.1).map fun c => (p.1, c) else none).reverse ++ acc)
  | [], acc, _ => rfl
  | p :: l, acc, h => by
    have ih := fun acc => closure_go env l acc fun q hq => h q (List.mem_cons_of_mem _ hq)
    rw [List.forIn_cons]
    by_cases hp : p.2 = .free
    · obtain ⟨c, hc⟩ := h p List.mem_cons_self hp
      have e : (p.2 == NameKind.free) = true := by rw [hp]; rfl
      rw [if_pos e]
      have ec : cellOf env p.1 = pure c := by unfold cellOf; rw [hc]
      rw [ec, List.filterMap_cons, if_pos e, hc]
      show (forIn l ((p.1, c) :: acc) _ : Sem _) = _
      rw [ih]
      simp
    · have e : ¬ (p.2 == NameKind.free) = true := by intro z; exact hp (by simpa using z)
      rw [if_neg e, List.filterMap_cons, if_neg e]
      show (forIn l acc _ : Sem _) = _
      rw [ih]
theorem closure_of {scope : Scope} {env : Env} (h : ∀ p ∈ scope.names, p.2 = .free → ∃ c, env.cells.lookup p.1 = some c) : closureFor scope env = pure (clOf scope env) := by
  have e := closure_go env scope.names [] h
  rw [List.append_nil] at e
  show ((forIn scope.names [] fun (x : Str × NameKind) (r : List (Str × Addr)) => if (x.2 == NameKind.free) = true then do let c ← cellOf env x.1; pure (ForInStep.yield ((x.1, c) :: r)) else pure (ForInStep.yield r)) >>= fun cs => pure cs : Sem (List (Str × Addr))) = _
  rw [e]
  rfl
theorem cl_mem {scope : Scope} {env : Env} {x : Str} {c : Addr} (h : (x, c) ∈ clOf scope env) : (x, NameKind.free) ∈ scope.names ∧ env.cells.lookup x = some c := by
  unfold clOf at h
  obtain ⟨p, hp, e⟩ := List.mem_filterMap.mp (List.mem_reverse.mp h)
  obtain ⟨n, k⟩ := p
  dsimp only at e
  by_cases hk : (k == NameKind.free) = true
  · rw [if_pos hk] at e
    have hk' : k = .free := by simpa using hk
    subst hk'
    cases q : env.cells.lookup n with
    | none => rw [q] at e; cases e
    | some c' => rw [q] at e; cases e; exact ⟨hp, q⟩
  · rw [if_neg hk] at e; cases e
theorem cl_lookup {scope : Scope} {env : Env} {x : Str} {c : Addr} (hm : (x, NameKind.free) ∈ scope.names) (hc : env.cells.lookup x = some c) : (clOf scope env).lookup x = some c := by
  have hin : (x, c) ∈ clOf scope env := by
    unfold clOf
    refine List.mem_reverse.mpr (List.mem_filterMap.mpr ⟨(x, .free), hm, ?_⟩)
    simp [hc]
  cases q : (clOf scope env).lookup x with
  | none =>
    have := List.lookup_eq_none_iff.mp q (x, c) hin
    simp at this
  | some c' =>
    obtain ⟨_, e⟩ := cl_mem (PySem.mem_of_lookup q)
    rw [hc] at e
    exact e.symm

/-- what of a comprehension's scope must be true (all of it by looking) -/
structure CompScope (sc : Scope) (env : Scope) : Prop where
  kind : sc.kind = .function
  cell : ∀ y ∈ sc.names, y.2 ≠ .cell
  names : ∀ x ∈ sc.names, x.2 = .local → sc.names.lookup x.1 = some .local
  free : ∀ x ∈ sc.names, x.2 = .free → env.names.lookup x.1 = some .cell ∨ env.names.lookup x.1 = some .free
/-- the names of the block: the own ones, then those that are read from around, by their slots there -/
def capsOk (sc : Scope) (src : List (Option Nat)) (N' N : List Str) : Bool :=
  src.length == N'.length && (src.zip N').all fun p => match p.1 with
    | none => true
    | some j => N[j]? == some p.2 && sc.names.lookup p.2 == some .free
def capσ (src : List (Option Nat)) (σ : St) : St := src.map fun o => match o with
  | none => none
  | some j => match σ[j]? with
    | some v => v
    | none => none
theorem caps_at {sc : Scope} {N N' : List Str} {src : List (Option Nat)} (h : capsOk sc src N' N = true) {i : Nat} {x : Str} {j : Nat} (h1 : src[i]? = some (some j)) (h2 : N'[i]? = some x) : N[j]? = some x ∧ sc.names.lookup x = some .free := by
  unfold capsOk at h
  have h' := (Bool.and_eq_true _ _ ▸ h).2
  have hz : (src.zip N')[i]? = some (some j, x) := by rw [List.getElem?_zip_eq_some]; exact ⟨h1, h2⟩
  have q := List.all_eq_true.mp h' _ (List.mem_of_getElem? hz)
  simpa using q
theorem caps_len {sc : Scope} {N N' : List Str} {src : List (Option Nat)} (h : capsOk sc src N' N = true) : src.length = N'.length := by
  unfold capsOk at h
  have h' := (Bool.and_eq_true _ _ ▸ h).1
  simpa using h'

/-- the context of a comprehension's block -/
def cxC (X : Cx) (N' : List Str) (sc : Scope) (s : Shared) (H : Hp) (C : Addr) (fp : List Addr) (xe : Value → Shared → Prop) : Cx where
  prog := X.prog
  w := X.w
  K := X.K
  mg := X.mg
  base := X.base
  A := X.A
  N := N'
  s₀ := s
  H₀ := H
  env := compEnvC sc (clOf sc X.env) C X.env
  outer := X.stack
  stack := X.stack
  ex := fp
  fn := fun _ => false
  calm := X.calm
  pn := []
  xe := xe

theorem relabel_lookup {sc : Scope} {env : Env} {x : Str} : ∀ {names : List (Str × NameKind)},
    (names.map fun (p : Str × NameKind) => if (p.2 == NameKind.free && env.scope.kind == .function && env.kindOf p.1 == some .cell) then (p.1, NameKind.cell) else (p.1, p.2)).lookup x =
      (names.lookup x).map fun k => if (k == NameKind.free && env.scope.kind == .function && env.kindOf x == some .cell) then NameKind.cell else k
  | [] => rfl
  | (n, k) :: r => by
    have ih := @relabel_lookup sc env x r
    rw [List.map_cons]
    cases hx : x == n with
    | true =>
      have e : x = n := by simpa using hx
      subst e
      by_cases hc : (k == NameKind.free && env.scope.kind == .function && env.kindOf x == some .cell) = true
      · simp only [hc, if_true, List.lookup_cons, hx, Option.map_some]
      · simp only [hc, if_false, List.lookup_cons, hx, Option.map_some, Bool.false_eq_true]
    | false =>
      by_cases hc : (k == NameKind.free && env.scope.kind == .function && env.kindOf n == some .cell) = true
      · simp only [hc, if_true, List.lookup_cons, hx]; exact ih
      · simp only [hc, if_false, List.lookup_cons, hx, Bool.false_eq_true]; exact ih
theorem comp_kind {sc : Scope} {env : Env} {cl : List (Str × Addr)} {C : Addr} (x : Str) : (compEnvC sc cl C env).kindOf x =
    (sc.names.lookup x).map fun k => if (k == NameKind.free && env.scope.kind == .function && env.kindOf x == some .cell) then NameKind.cell else k :=
  relabel_lookup (sc := sc) (env := env)

section
variable {X : Cx} {pins : List (Addr × Obj)} {σ : St} {H : Hp} {s : Shared} {N' : List Str} {sc : Scope} {src : List (Option Nat)} {fp : List Addr} {xe : Value → Shared → Prop}
/-- entered: the block's namespace has just been laid at the heap's end -/
theorem comp_enter (I : Inv X pins σ H s) (S : CompScope sc X.env.scope) (hc : capsOk sc src N' X.N = true) (hf : ∀ b ∈ fp, FpOk X pins H b) (ho : ∀ b ∈ fp, ∃ o, s.heap.get? b = some o) {h₁ : Heap} {tk : Nat}
    (hn : h₁.Ns s.heap.objs.size (fun _ => none)) (hk : ∀ b o, s.heap.get? b = some o → h₁.get? b = some o) :
    Inv (cxC X N' sc s H s.heap.objs.size fp xe) [] (capσ src σ) H { s with heap := h₁, toks := tk } := by
  have cellmem : ∀ x c, (clOf sc X.env).lookup x = some c → X.env.cells.lookup x = some c := fun x c e => (cl_mem (PySem.mem_of_lookup e)).2
  have isfree : ∀ x, ((compEnvC sc (clOf sc X.env) s.heap.objs.size X.env).kindOf x = some .cell ∨ (compEnvC sc (clOf sc X.env) s.heap.objs.size X.env).kindOf x = some .free) → (x, NameKind.free) ∈ sc.names := fun x hx => by
    rw [comp_kind] at hx
    cases q : sc.names.lookup x with
    | none => rw [q] at hx; simp at hx
    | some k =>
      have hm := PySem.mem_of_lookup q
      by_cases hkf : k = .free
      · subst hkf; exact hm
      · have : (k == NameKind.free) = false := by simpa using hkf
        have e2 : (k == NameKind.free && X.env.scope.kind == .function && X.env.kindOf x == some .cell) = false := by rw [this]; rfl
        rw [q, Option.map_some, e2] at hx
        have hx' : (some k : Option NameKind) = some .cell ∨ (some k : Option NameKind) = some .free := hx
        rcases hx' with hx | hx
        · exact absurd (Option.some.inj hx) (S.cell _ hm)
        · exact absurd (Option.some.inj hx) hkf
  have has : ∀ x, (x, NameKind.free) ∈ sc.names → ∃ c, X.env.cells.lookup x = some c := fun x hm => I.ok.has x (S.free _ hm rfl)
  refine ⟨⟨I.ok.mod, S.kind, I.ok.glob, I.ok.blt, Nat.le_refl _, fun x y c h1 h2 => I.ok.inj x y c (cellmem x c h1) (cellmem y c h2), fun x hx => ?_, fun x c hfn _ => ?_, I.ok.hd, I.ok.frames, .inl rfl, fun b hb => ⟨?_, fun x c e => ?_⟩, I.bs, Nat.le_trans I.ok.bsz I.sz, fun b o e hb => ?_, fun b hb hs => ?_, I.stack, I.stkFree⟩,
    rfl, I.bare, Un.kept hk, ⟨_, hn, fun i x v h1 h2 h3 => ?_⟩, fun x c e => ?_, I.hok.fresh (Nat.le_refl _), fun x c e => I.freeC x c (cellmem x c e), fun p hp => absurd (show p ∈ ([] : List (Addr × Obj)) from hp) (by simp), I.hok.kept hk, ?_⟩
  · obtain ⟨c, e⟩ := has x (isfree x hx)
    exact ⟨c, cl_lookup (isfree x hx) e⟩
  · exact absurd (show false = true from hfn) (by simp)
  · obtain ⟨o, e⟩ := ho b hb
    exact Nat.ne_of_lt (Heap.lt_size e)
  · exact (hf b hb).2.2.2.2.1 x c (cellmem x c e)
  · rcases (hf b hb).2.2.2.1 with z | z
    · exact I.ok.noex b o e z
    · exact absurd (Nat.lt_of_lt_of_le (Heap.lt_size e) (Nat.le_trans I.ok.bsz z)) (Nat.lt_irrefl _)
  · rcases List.mem_cons.mp (I.stkSub b hs) with z | z
    · exact (hf b hb).2.1 z
    · exact (hf b hb).2.2.1 z
  · -- a captured name
    have h2' : (capσ src σ)[i]? = some (some v) := h2
    unfold capσ at h2'
    rw [List.getElem?_map] at h2'
    cases q : src[i]? with
    | none => rw [q] at h2'; cases h2'
    | some o =>
      rw [q] at h2'
      cases o with
      | none => simp at h2'
      | some j =>
        obtain ⟨hj, hfr⟩ := caps_at hc q h1
        have hσ : σ[j]? = some (some v) := by
          simp only [Option.map_some, Option.some.injEq] at h2'
          cases r : σ[j]? with
          | none => rw [r] at h2'; cases h2'
          | some w => rw [r] at h2'; rw [← h2']
        have hm := PySem.mem_of_lookup hfr
        have hout := S.free _ hm rfl
        obtain ⟨m, _, hl⟩ := I.loc
        obtain ⟨u, ru, lk⟩ := hl j x v hj hσ (Or.inr hout)
        refine ⟨u, ru, .inr ⟨?_, ?_⟩⟩
        · show (compEnvC sc (clOf sc X.env) s.heap.objs.size X.env).kindOf x = some .cell ∨ (compEnvC sc (clOf sc X.env) s.heap.objs.size X.env).kindOf x = some .free
          rw [comp_kind, hfr]
          by_cases z : (NameKind.free == NameKind.free && X.env.scope.kind == .function && X.env.kindOf x == some .cell) = true
          · exact .inl (by simp only [Option.map_some, z, if_true])
          · exact .inr (by simp only [Option.map_some, z, if_false, Bool.false_eq_true])
        · rcases lk with ⟨z, _⟩ | ⟨_, c, e, z⟩
          · have z' : X.env.scope.names.lookup x = some .local := z
            rcases hout with y | y <;> (rw [z'] at y; cases y)
          · obtain ⟨oc, hoc, hd⟩ := z
            exact ⟨c, cl_lookup hm e, oc, hk c oc hoc, hd⟩
  · obtain ⟨v, oc, hoc, hd⟩ := I.cell x c (cellmem x c e)
    exact ⟨v, oc, hk c oc hoc, hd⟩
  · show (capσ src σ).length = N'.length
    unfold capσ
    rw [List.length_map]
    exact caps_len hc
/-- left: the block's end is a state of the def's body again; the namespace may still be changed -/
theorem comp_leave {H' : Hp} {σ' : St} {s' : Shared} (I : Inv X pins σ H s) (hf : ∀ b ∈ fp, FpOk X pins H b) (I' : Inv (cxC X N' sc s H s.heap.objs.size fp xe) [] σ' H' s') : Inv X pins σ H' s' :=
  I.call' I'.os I'.base I'.hok I'.bare fun b hb => ⟨(hf b hb).2.2.2.1, (hf b hb).2.1, (hf b hb).2.2.2.2.1, (hf b hb).2.2.2.2.2⟩
theorem comp_ns {H' : Hp} {σ' : St} {s' : Shared} (I' : Inv (cxC X N' sc s H s.heap.objs.size fp xe) [] σ' H' s') : ∃ m, s'.heap.Ns s.heap.objs.size m := let ⟨m, hn, _⟩ := I'.loc; ⟨m, hn⟩
theorem comp_gone {H1 : Hp} {σ1 : St} {s1 : Shared} {h' : Heap} (I : Inv X pins σ H s) (I1 : Inv X pins σ1 H1 s1) (hn : H1 s.heap.objs.size = none) (hs : Heap.SameBut s.heap.objs.size s1.heap h') : Inv X pins σ1 H1 { s1 with heap := h' } := by
  obtain ⟨f0, f1, f2, f3, f4, f5⟩ := I.fpOk (H' := H1) (Nat.le_refl _) hn
  exact I1.turned (t' := s1.toks) (fun b o hb e => (hs.2 b hb).trans e) f0 f1 f3 f4 f5
end
end L2
set_option Elab.async false
set_option linter.all false
set_option maxRecDepth 100000
namespace L2
open PySem PySem.Spec PyProof.Rows

/-! ### a comprehension's loop -/
/-- what a turn gives over: the values of the second where the first one has any -/
def Keeps2 : St → St → Prop
  | [], [] => True
  | none :: r, _ :: r' => Keeps2 r r'
  | some v :: r, u :: r' => u = some v ∧ Keeps2 r r'
  | _, _ => False
theorem Keeps2.len : ∀ {a b : St}, Keeps2 a b → a.length = b.length
  | [], [], _ => rfl
  | [], _ :: _, h => h.elim
  | none :: _, [], h => h.elim
  | some _ :: _, [], h => h.elim
  | none :: r, _ :: r', h => by
    have h' : Keeps2 r r' := h
    rw [List.length_cons, List.length_cons, h'.len]
  | some v :: r, u :: r', h => by
    have h' : u = some v ∧ Keeps2 r r' := h
    rw [List.length_cons, List.length_cons, h'.2.len]
theorem Keeps2.get : ∀ {a b : St}, Keeps2 a b → ∀ (i : Nat) (v : V), a[i]? = some (some v) → b[i]? = some (some v)
  | [], [], _, i, v, e => by simp at e
  | [], _ :: _, h, _, _, _ => h.elim
  | none :: _, [], h, _, _, _ => h.elim
  | some _ :: _, [], h, _, _, _ => h.elim
  | none :: r, _ :: r', h, 0, v, e => by simp at e
  | none :: r, _ :: r', h, i + 1, v, e => by
    have h' : Keeps2 r r' := h
    simpa using h'.get i v (by simpa using e)
  | some w :: r, u :: r', h, 0, v, e => by
    have h' : u = some w ∧ Keeps2 r r' := h
    simp at e
    subst e
    simp [h'.1]
  | some w :: r, u :: r', h, i + 1, v, e => by
    have h' : u = some w ∧ Keeps2 r r' := h
    simpa using h'.2.get i v (by simpa using e)

/-- the tests of a clause -/
def PIfs (X : Cx) (cs : List Expr) (t : TT) : Prop :=
  ∀ (pins : List (Addr × Obj)) (s : Shared) (σ : St) (H : Hp) (Q : Bool → Hp → Prop), Inv X pins σ H s → t σ H Q →
    wpAny (model X.prog X.w) X.A (forIn cs true fun c r => if r = true then do let ok ← isTrue c X.env (eval c X.env); pure (ForInStep.yield ok) else pure (ForInStep.yield r)) (TP X pins σ Q) X.xe s
def tIf0 : TT := fun _ H Q => Q true H
theorem pif0 {X : Cx} : PIfs X [] tIf0 := fun _ _ _ H _ I h => wpAny_tests_nil ⟨H, I, h⟩
/-- what a turn does with what it has made -/
abbrev TM := St → Hp → (Hp → Prop) → Prop
def PEm (X : Cx) (m : Sem Unit) (t : TM) : Prop :=
  ∀ (pins : List (Addr × Obj)) (s : Shared) (σ : St) (H : Hp) (Q : Hp → Prop), Inv X pins σ H s → t σ H Q →
    wpAny (model X.prog X.w) X.A m (fun _ s' => ∃ H', Inv X pins σ H' s' ∧ Q H') X.xe s
/-- one turn -/
def turnOf (tg : Expr) (ipos : Pos) (ifs : List Expr) (it : Value) (env : Env) (cont : Sem Unit) (more : Sem Fin) : Sem Fin := do
  standAt ipos
  match ← pyNext it with
  | none => pure (.done .next)
  | some v =>
    letOwnedTupleGo tg it v
    assign tg env v
    let mut ok := true
    for c in ifs do
      if ok then ok ← isTrue c env (eval c env)
    if ok then cont
    more
/-- W: by the turn and a measure; σ0: what each turn begins with -/
def tComp (J : It) (σ0 : St) (g : TG) (tifs : TT) (tm : TM) (Z : Hp → Prop) (H : Hp) : Prop :=
  ∃ W : Nat → Nat → Hp → Prop, (∃ m, W 0 m H) ∧ ∀ i m H, W i m H → (J.stop i H ∧ Z H) ∨
    (J.go i H ∧ ∀ x H', J.yld i H x H' → g x σ0 H' fun σ2 H2 => tifs σ2 H2 fun b H3 =>
      if b = true then tm σ2 H3 fun H4 => Keeps2 σ0 σ2 ∧ ∃ m', m' < m ∧ W (i + 1) m' H4 else Keeps2 σ0 σ2 ∧ ∃ m', m' < m ∧ W (i + 1) m' H3)

section
variable {X : Cx} {e tg : Expr} {ipos : Pos} {ifs : List Expr} {depth : Nat} {acc : Value} {cont : Sem Unit} {it : Addr} {fp : List Addr} {tn : Nat → Heap → Prop} {J : It} {g : TG} {tifs : TT} {tm : TM} {σ0 : St} {Z : Hp → Prop} {R : Result → Shared → Prop}
theorem comp_loop (hX : X.xe = notedBy (model X.prog X.w) X.A X.env fun e s' => R (.error e) s')
    (heq : compTurn e depth (.ref it) acc X.env = turnOf tg ipos ifs (.ref it) X.env cont (again (.compLoop e depth (.ref it) acc X.env)))
    (hq : (Code.compLoop e depth (.ref it) acc X.env).quiet = true) (hA : X.A.under (.compLoop e depth (.ref it) acc X.env) = X.A) (hF : (Code.compLoop e depth (.ref it) acc X.env).isFrame = false)
    (hc : X.calm = true) (T : Turn X.prog X.w X.K tg J fp it tn) (hg : PG X tg g) (hif : PIfs X ifs tifs) (hm : PEm X cont tm)
    {pins : List (Addr × Obj)} {H : Hp} {s : Shared} (hf : ∀ b ∈ fp, FpOk X pins H b) (I : Inv X pins σ0 H s) (st : tn 0 s.heap)
    (hZ : ∀ H' s', Inv X pins σ0 H' s' → (∀ b ∈ fp, H' b = none) → Z H' → R (.ok .next) s') (h : tComp J σ0 g tifs tm Z H) :
    codeAny (model X.prog X.w) X.A (.compLoop e depth (.ref it) acc X.env) R s := by
  obtain ⟨W, ⟨m0, w0⟩, turn⟩ := h
  have stat : ∀ {H' : Hp}, (∀ b ∈ fp, H' b = none) → ∀ b ∈ fp, FpOk X pins H' b := fun hn b hb => ⟨hn b hb, (hf b hb).2⟩
  refine codeAny_loop hq (fun n s' => ∃ i H', Inv X pins σ0 H' s' ∧ tn i s'.heap ∧ (∀ b ∈ fp, H' b = none) ∧ W i n H') ?_ m0 ⟨0, H, I, st, fun b hb => (hf b hb).1, w0⟩
  rintro n s3 ⟨i, H3, I3, st3, fr3, w3⟩
  rw [hA]
  have hden : (model X.prog X.w).den (.compLoop e depth (.ref it) acc X.env) = (compTurn e depth (.ref it) acc X.env).onRaise (fun x => do noteFrame x X.env; theTreesLotGoes x) := by
    show (if (Code.compLoop e depth (.ref it) acc X.env).isFrame then _ else _) = _
    rw [if_neg (by rw [hF]; decide)]
  rw [hden]
  refine wpAny_noted ?_
  rw [← hX, heq]
  unfold turnOf
  refine wpAny_bind (wpAny_standAt ?_)
  have again' : ∀ {σ7 : St} {H7 : Hp} {s5 s7 : Shared}, tn (i + 1) s5.heap → Inv X (pins ++ pinsAt fp s5.heap) σ7 H7 s7 → Keeps2 σ0 σ7 → (∃ m', m' < n ∧ W (i + 1) m' H7) →
      ∃ m, m < n ∧ ∃ i H', Inv X pins σ0 H' s7 ∧ tn i s7.heap ∧ (∀ b ∈ fp, H' b = none) ∧ W i m H' := fun {σ7 H7 s5 s7} st5 I7 k7 ⟨m', hm', w7⟩ => by
    refine ⟨m', hm', i + 1, H7, I7.unpinned.weak k7.len k7.get, T.keep _ _ _ st5 fun b hb o e => (I7.pin (b, o) (List.mem_append_right _ (List.mem_append_right _ (mem_pinsAt hb e)))).1, fun b hb => ?_, w7⟩
    obtain ⟨o, e, d⟩ := T.obj _ _ st5 b hb
    exact (I7.pin (b, o) (List.mem_append_right _ (List.mem_append_right _ (mem_pinsAt hb e)))).2.1
  rcases turn i n H3 w3 with ⟨stop, qn⟩ | ⟨go, step⟩
  · refine wpAny_bind (thn (T.done X rfl rfl rfl hc i pins s3 σ0 H3 X.xe I3 (stat fr3) st3 stop) fun r s4 ⟨hr, I4⟩ => ?_)
    subst hr
    exact wpAny_pure (hZ H3 s4 I4 fr3 qn)
  · refine wpAny_bind (thn (T.item X rfl rfl rfl hc i pins s3 σ0 H3 X.xe I3 (stat fr3) st3 go) fun r s4 ⟨u, hr, h4⟩ => ?_)
    subst hr
    refine wpAny_bind (thn h4 fun _ s5 ⟨x, H5, I5, r5, y5, st5, fr5⟩ => ?_)
    have I5' := I5.pinned (stat fr5) (T.obj _ _ st5)
    refine wpAny_bind (thn (hg _ s5 σ0 H5 x u _ I5' r5 (step x H5 y5)) fun _ s6 ⟨σ6, H6, I6, q6⟩ => ?_)
    refine wpAny_bind (thn (hif _ s6 σ6 H6 _ I6 q6) fun b s7 ⟨H7, I7, q7⟩ => ?_)
    cases b with
    | false =>
      obtain ⟨k7, w7⟩ := q7
      exact wpAny_pure ⟨rfl, again' st5 I7 k7 w7⟩
    | true =>
      refine wpAny_bind (thn (hm _ s7 σ6 H7 _ I7 q7) fun _ s8 ⟨H8, I8, k8, w8⟩ => ?_)
      exact wpAny_pure ⟨rfl, again' st5 I8 k8 w8⟩
end
end L2
set_option Elab.async false
set_option linter.all false
set_option maxRecDepth 100000
namespace L2
open PySem PySem.Spec PyProof.Rows

/-- what a comprehension needs of its kind: its loop's turn and its start -/
structure CompKind (P : Program) (w : World) (A : Around) (e : Expr) (tg iter : Expr) (ifs : List Expr) (emit : Addr → Env → Sem Unit) : Prop where
  cl : clausesOf e = [⟨tg, iter, ifs, 0⟩]
  turn : ∀ it D env, compTurn e 0 (.ref it) (.ref D) env = turnOf tg iter.pos ifs (.ref it) env (emit D env) (again (.compLoop e 0 (.ref it) (.ref D) env))
  start : ∀ (R : Result → Shared → Prop) (s : Shared) (it acc : Value) (env : Env), codeAny (model P w) A (.compLoop e 0 it acc env) R s →
    wpAny (model P w) A (pyIter it) (fun it' s' => codeAny (model P w) A (.compLoop e 0 it' acc env) R s') (notedBy (model P w) A env fun x s' => R (.error x) s') s → codeAny (model P w) A (.compStart e 0 it acc env) R s
  quiet : ∀ it acc env, (Code.compLoop e 0 it acc env).quiet = true
  under : ∀ it acc env, A.under (.compLoop e 0 it acc env) = A
  frame : ∀ it acc env, (Code.compLoop e 0 it acc env).isFrame = false

theorem ck_list {P : Program} {w : World} {A : Around} {elt tg iter : Expr} {ifs : List Expr} {sc : Scope} {pos : Pos} :
    CompKind P w A (.ListComp elt [⟨tg, iter, ifs, 0⟩] sc pos) tg iter ifs (fun D env => do let _ ← call (.builtin "list.append") [.ref D, ← eval elt env]) where
  cl := rfl
  turn := fun it D env => by rw [compTurn_list]; rfl
  start := fun R s it acc env h0 h => codeAny_compStart_list h0 h
  quiet := fun _ _ _ => rfl
  under := fun _ _ _ => rfl
  frame := fun _ _ _ => rfl
theorem ck_dict {P : Program} {w : World} {A : Around} {kx vx tg iter : Expr} {ifs : List Expr} {sc : Scope} {pos : Pos} :
    CompKind P w A (.DictComp kx vx [⟨tg, iter, ifs, 0⟩] sc pos) tg iter ifs (fun D env => do
      let kv ← eval kx env
      let vv ← holding [kv] (eval vx env)
      standAt { kx.pos with endLine := vx.pos.endLine, endCol := vx.pos.endCol }
      holding [kv, vv] (dictSet D kv vv)) where
  cl := rfl
  turn := fun it D env => by rw [compTurn_dict]; rfl
  start := fun R s it acc env h0 h => codeAny_compStart_dict h0 h
  quiet := fun _ _ _ => rfl
  under := fun _ _ _ => rfl
  frame := fun _ _ _ => rfl

section
variable {X : Cx} {e tg iter : Expr} {ifs : List Expr} {emit : Addr → Env → Sem Unit} {sc : Scope} {pos : Pos} {wi : TI} {N' : List Str} {src : List (Option Nat)} {g : TG} {tifs : TT} {tm : Addr → TM} {newAcc : Sem Value} {ob : Obj} {accO : HO}
/-- a comprehension: the accumulator at D (it begins as accO) -/
def tCompE (src : List (Option Nat)) (accO : HO) (wi : TI) (g : TG) (tifs : TT) (tm : Addr → TM) : TE :=
  fun σ H Q => wi σ H fun J H1 => ∀ D, H1 D = none → tComp J (capσ src σ) g tifs (tm D) (fun H' => Q (.ref D) H') (upd H1 D accO)
/-- the accumulator that is laid -/
structure AccNew (X : Cx) (newAcc : Sem Value) (ob : Obj) (accO : HO) : Prop where
  new : ∀ (s : Shared) (Q : Value → Shared → Prop) (E : Value → Shared → Prop), Q (.ref s.heap.objs.size) { s with heap := s.heap.push ob } → wpAny (model X.prog X.w) X.A newAcc Q E s
  live : ob.isFreed = false
  ok : ∀ (pins : List (Addr × Obj)) (σ : St) (H : Hp) (s : Shared), Inv X pins σ H s → ObjOk X.prog X.w (upd H s.heap.objs.size accO) (s.heap.push ob) s.heap.objs.size accO

theorem comp_run {use : Option (Value → Sem Unit)} {Q' : Value → Shared → Prop} (K : CompKind X.prog X.w X.A e tg iter ifs emit) (hc : X.calm = true) (S : CompScope sc X.env.scope) (hcap : capsOk sc src N' X.N = true) (hi : PI X tg iter wi)
    (hb : ∀ s H C fp xe D, PG (cxC X N' sc s H C fp xe) tg g ∧ PIfs (cxC X N' sc s H C fp xe) ifs tifs ∧ PEm (cxC X N' sc s H C fp xe) (emit D (cxC X N' sc s H C fp xe).env) (tm D)) (N : AccNew X newAcc ob accO)
    (hs : ∀ x, foldedSetIterable iter X.env x = pure x)
    {pins : List (Addr × Obj)} {s : Shared} {σ : St} {H : Hp} {Q : VK} (I : Inv X pins σ H s) (h : tCompE src accO wi g tifs tm σ H Q)
    (hQ : ∀ (C D : Addr) (H' : Hp) (s' : Shared), Inv X pins σ H' s' → Q (.ref D) H' → H' C = none → (∃ m, s'.heap.Ns C m) → (∀ (σ1 : St) (H1 : Hp) (s1 : Shared) (h' : Heap), Inv X pins σ1 H1 s1 → H1 C = none → Heap.SameBut C s1.heap h' → Inv X pins σ1 H1 { s1 with heap := h' }) →
      (C ≠ X.env.locals ∧ ∀ x c, X.env.cells.lookup x = some c → c ≠ C) → compPost (model X.prog X.w) X.A X.xe use Q' (.ref D) C (.ok .next) s') :
    wpAny (model X.prog X.w) X.A (comprehension e sc X.env pos newAcc false (eval iter X.env) use) Q' X.xe s := by
  refine wpAny_comprehension_free (g := ⟨tg, iter, ifs, 0⟩) (gs := []) K.cl hs (closure_of fun p hp hf => I.ok.has p.1 (S.free p hp hf)) S.kind S.names ?_
  refine thn (hi pins s σ H _ I h) fun v s1 h1 => thn h1 fun itv s2 h2 => ?_
  obtain ⟨it, fp, tn, J, H2, e1, I2, T, st2, f2, q2⟩ := h2
  subst e1
  refine N.new s2 _ _ ?_
  have hD : H2 s2.heap.objs.size = none := I2.hok.fresh (Nat.le_refl _)
  have hk3 : ∀ b o, s2.heap.get? b = some o → (s2.heap.push ob).get? b = some o := fun b o e => Heap.get?_push_of_some _ e
  have I3 : Inv X pins σ (upd H2 s2.heap.objs.size accO) { s2 with heap := s2.heap.push ob } := I2.laid (t' := s2.toks) hk3 (Nat.le_refl _) (N.ok pins σ H2 s2 I2)
  have st3 : tn 0 (s2.heap.push ob) := T.keep _ _ _ st2 fun b _ o e => hk3 b o e
  have ob3 : ∀ b ∈ fp, ∃ o, (s2.heap.push ob).get? b = some o := fun b hb => let ⟨o, e, _⟩ := T.obj _ _ st3 b hb; ⟨o, e⟩
  have f3 : ∀ b ∈ fp, FpOk X pins (upd H2 s2.heap.objs.size accO) b := fun b hb => by
    refine ⟨?_, (f2 b hb).2⟩
    obtain ⟨o, e, _⟩ := T.obj _ _ st2 b hb
    rw [upd_ne (Nat.ne_of_lt (Heap.lt_size e))]
    exact (f2 b hb).1
  have qq := q2 s2.heap.objs.size hD
  generalize hs3 : ({ s2 with heap := s2.heap.push ob } : Shared) = s3 at I3 ⊢
  have hh3 : s2.heap.push ob = s3.heap := by rw [← hs3]
  rw [hh3] at st3 ob3
  generalize s2.heap.objs.size = D at I3 f3 qq hD ⊢
  refine wpAny_newFunctionEnv S.cell (by intro y hy; simp at hy) (fun h₁ hns hsb => ?_) S.kind
  have hns' : h₁.Ns s3.heap.objs.size (fun _ => none) := hns
  have hk4 : ∀ b o, s3.heap.get? b = some o → h₁.get? b = some o := fun b o e => hsb.extBut b o (Nat.ne_of_lt (Heap.lt_size e)) (Heap.get?_push_of_some _ e)
  -- the block
  let R : Result → Shared → Prop := compPost (model X.prog X.w) X.A X.xe use Q' (.ref D) s3.heap.objs.size
  let X' : Cx := cxC X N' sc s3 (upd H2 D accO) s3.heap.objs.size fp (notedBy (model X.prog X.w) X.A (compEnvC sc (clOf sc X.env) s3.heap.objs.size X.env) fun e s' => R (.error e) s')
  have I4 : Inv X' [] (capσ src σ) (upd H2 D accO) { s3 with heap := h₁, toks := s3.toks + ([] : List (Str × Value)).length } := comp_enter I3 S hcap f3 ob3 hns' hk4
  have st4 : tn 0 h₁ := T.keep _ _ _ st3 fun b _ o e => hk4 b o e
  obtain ⟨hg, hif, hm⟩ := hb s3 (upd H2 D accO) s3.heap.objs.size fp (notedBy (model X.prog X.w) X.A (compEnvC sc (clOf sc X.env) s3.heap.objs.size X.env) fun e s' => R (.error e) s') D
  have f4 : ∀ b ∈ fp, FpOk X' [] (upd H2 D accO) b := fun b hb => by
    obtain ⟨g0, g1, g2, g3, g4, g5⟩ := f3 b hb
    refine ⟨g0, ?_, ?_, .inl hb, fun x c e => ?_, fun p hp => absurd (show p ∈ ([] : List (Addr × Obj)) from hp) (by simp)⟩
    · obtain ⟨o, e⟩ := ob3 b hb
      exact Nat.ne_of_lt (Heap.lt_size e)
    · intro z
      rcases List.mem_cons.mp (I3.stkSub b z) with y | y
      · exact g1 y
      · exact g2 y
    · exact g4 x c (cl_mem (PySem.mem_of_lookup e)).2
  have fpC : FpOk X pins (upd H2 D accO) s3.heap.objs.size := I3.fpOk (Nat.le_refl _) (I3.hok.fresh (Nat.le_refl _))
  have loop : ∀ s4 : Shared, s4 = { s3 with heap := h₁, toks := s3.toks + ([] : List (Str × Value)).length } → codeAny (model X.prog X.w) X.A (.compLoop e 0 (.ref it) (.ref D) X'.env) R s4 := by
    rintro s4 rfl
    refine comp_loop (X := X') (Z := fun H' => Q (.ref D) H') rfl (K.turn it D X'.env) (K.quiet _ _ _) (K.under _ _ _) (K.frame _ _ _) hc T hg hif hm f4 I4 st4 (fun H' s' I' _ z => ?_) qq
    refine hQ s3.heap.objs.size D H' s' (comp_leave I3 f3 I') z I'.free (comp_ns I') (fun σ1 H1 s1 h' I1 n1 hs1 => comp_gone I3 I1 n1 hs1) ⟨fpC.2.1, fun x c e => fpC.2.2.2.2.1 x c e⟩
  exact K.start R _ (.ref it) (.ref D) X'.env (loop _ rfl) (T.self X.A 0 _ _ _ st4 (loop _ rfl))

/-- as name = [..], where the store comes ahead of the variables' end -/
theorem ps_comp {i : Nat} {x : Str} {pos' pos2 : Pos} (K : CompKind X.prog X.w X.A e tg iter ifs emit) (hc : X.calm = true) (S : CompScope sc X.env.scope) (hcap : capsOk sc src N' X.N = true) (hi : PI X tg iter wi)
    (hb : ∀ s H C fp xe D, PG (cxC X N' sc s H C fp xe) tg g ∧ PIfs (cxC X N' sc s H C fp xe) ifs tifs ∧ PEm (cxC X N' sc s H C fp xe) (emit D (cxC X N' sc s H C fp xe).env) (tm D)) (N : AccNew X newAcc ob accO)
    (hs : ∀ x, foldedSetIterable iter X.env x = pure x) (he : ∀ u, evalThenUse e X.env u = (do let _ ← comprehension e sc X.env pos newAcc false (eval iter X.env) (some u)))
    (hN : X.N.Nodup) (hix : X.N[i]? = some x) (hx : Loc X.env.scope x) (hsw : swapsWith e (some (.Name x pos')) pos2.line X.env = pure true)
    (hf : X.fn x = true ∨ X.env.scope.names.lookup x = some .local := by first | exact .inl rfl | exact .inr rfl | assumption) :
    PS X (.Assign [.Name x pos'] e pos2) (tAsg (tCompE src accO wi g tifs tm) (gName i)) := by
  intro pins s σ H D0 I h
  rw [exec_Assign_Name_used x pos' e pos2 hsw, he]
  refine wpAny_bind (wpAny_standAt (wpAny_bind (wpAny_bind ?_)))
  refine comp_run (use := some (assign (.Name x pos') X.env)) (Q := fun v H' => D0.nx (σ.set i (some v)) H') (Q' := fun _ s' => wpAny _ _ _ _ _ s') K hc S hcap hi hb N hs I h fun C D H' s' I' q hn ⟨m, hm⟩ gone ⟨hCL, hCc⟩ => ?_
  refine wpAny_assign_Name (store_ok2 (v := .ref D) I' hN hix hx rfl (fun s2 I2 hch => ?_) hf)
  obtain ⟨a, hsb, ha⟩ := hch
  have hne : C ≠ a := by
    rcases ha with z | z
    · rw [z]; exact hCL
    · exact (hCc x a z).symm
  refine ⟨m, hm.sameBut hsb hne, fun h' hs' => ?_⟩
  exact wpAny_pure (wpAny_pure ⟨_, H', gone _ H' s2 h' I2 hn hs', q⟩)
end

section
variable {X : Cx} {elt kx vx : Expr} {te tk tv : TE}
/-- the element is put behind the list at D -/
def mApp (te : TE) (D : Addr) : TM := fun σ H K => te σ H fun y H1 => ∃ ys, H1 D = some (.lst ys) ∧ ys.length < sizeLine ∧ K (upd H1 D (.lst (ys ++ [y])))
theorem pm_app (h : PE X elt te) (D : Addr) : PEm X (do let _ ← call (.builtin "list.append") [.ref D, ← eval elt X.env]) (mApp te D) := by
  intro pins s σ H Q I q
  refine wpAny_bind (thn (h pins s σ H _ I q) fun u s1 ⟨y, H1, I1, ru, ys, e, z, k⟩ => ?_)
  refine wpAny_bind (thn (mt_append pins s1 σ H1 (.ref D) [y] (.ref D) [u] (fun _ H' => Q H') I1 rfl (.cons ru .nil) ⟨D, ys, y, rfl, rfl, e, z, k⟩) fun r s2 ⟨v, H2, I2, _, k2⟩ => ?_)
  exact wpAny_pure ⟨H2, I2, k2⟩
theorem d_dictSet {pins : List (Addr × Obj)} {σ : St} {H H' : Hp} {s : Shared} {a : Addr} {y v : V} {u r : Value} {A : Around} {E : Value → Shared → Prop} {Q : Unit → Shared → Prop} (hu : A.units + 1 < cLine) (I : Inv X pins σ H s) (g : DPut H a y v H') (ry : RelV y u) (rv : RelV v r) (h : ∀ s', Inv X pins σ H' s' → Q () s') :
    wpAny (model X.prog X.w) A (dictSet a u r) Q E s := by
  rcases g with ⟨kvs, k, e, ey, l, eH⟩ | ⟨kvs, k, b, e, ey, eb, l, eH⟩
  · subst ey eH
    obtain ⟨z, hd, vs, rel, dd⟩ := dk_of I.hok e
    have hz : vs.length ≤ sizeLine := by rw [← rel.length]; exact z
    have hl : (putK kvs k v).length ≤ sizeLine := by have := length_putK kvs k v; omega
    refine wpAny_dictSet_pairs (hsz := hz) (kV_is ry) dd fun h' dd' hs => h _ ?_
    have he : ∃ q, h'.get? a = some q := let ⟨q, _, _, hq, _⟩ := dd'; ⟨q, hq⟩
    exact d_write I (by rw [e]; exact True.intro) hs he (dk_new hl hd (rel.put k rv) dd')
  · subst ey eH
    cases (show u = Value.ref b from ry)
    obtain ⟨z, hd, xs, rel, dd⟩ := dt_of I.hok e
    have hz : xs.length ≤ sizeLine := by rw [← Paired.length rel]; exact z
    have hl : (putK kvs k v).length ≤ sizeLine := by have := length_putK kvs k v; omega
    have hroom : (tupleKind (mixKind X.prog X.w)).room A := show A.units < cLine by omega
    refine wpAny_dictSet_heap (hsz := hz) hroom (key_of I.hok eb) dd fun h' dd' hs => h _ ?_
    obtain ⟨q, es, ep, hq, h2, h3, h4, _, h5⟩ := dd'
    refine d_write I (by rw [e]; exact True.intro) hs ⟨q, hq⟩ ⟨hl, hd, _, (rel.put k eb rv).keeps fun c ys ec => ?_, q, es, ep, hq, h2, h3, h4, h5⟩
    rw [upd_ne (ne_of ec e (fun z => nomatch z))]
    exact ec
/-- the pair is put into the dict at D -/
def mPut (tk tv : TE) (D : Addr) : TM := fun σ H K => tk σ H fun y H1 => tv σ H1 fun v H2 => ∃ H3, DPut H2 D y v H3 ∧ K H3
theorem pm_put (hu : X.A.units + 1 < cLine) (hk : PE X kx tk) (hv : PE X vx tv) (D : Addr) : PEm X (do
      let kv ← eval kx X.env
      let vv ← holding [kv] (eval vx X.env)
      standAt { kx.pos with endLine := vx.pos.endLine, endCol := vx.pos.endCol }
      holding [kv, vv] (dictSet D kv vv)) (mPut tk tv D) := by
  intro pins s σ H Q I q
  refine wpAny_bind (thn (hk pins s σ H _ I q) fun u s1 ⟨y, H1, I1, ru, q1⟩ => ?_)
  refine wpAny_bind (wpAny_holding (thn (hv pins s1 σ H1 _ I1 q1) fun r s2 ⟨v, H2, I2, rv, H3, g, q2⟩ => ?_))
  exact wpAny_bind (wpAny_standAt (wpAny_holding (d_dictSet hu I2 g ru rv fun s3 I3 => ⟨H3, I3, q2⟩)))
theorem acc_dT : AccNew X newDict { cls := .type "dict", data := .dict #[] } (.dT []) where
  new := fun s Q E h => wpAny_newObj_type h
  live := rfl
  ok := fun pins σ H s I => dt_empty s.heap I.big
theorem acc_list : AccNew X (newList []) { cls := .type "list", data := .seq #[] } (.lst []) where
  new := fun s Q E h => wpAny_newObj_type h
  live := rfl
  ok := fun pins σ H s I => ⟨Nat.zero_le _, [], 0, .nil, Heap.get?_push_size _ rfl⟩
end

/-! ### the rules one uses -/
section
variable {X : Cx} {elt kx vx tg iter : Expr} {ifs : List Expr} {sc : Scope} {pos : Pos} {wi : TI} {N' : List Str} {src : List (Option Nat)} {g : TG} {tifs : TT} {te tk tv : TE}
/-- x = [elt for tg in iter if ..] on one row, x a plain local -/
theorem ps_lc {i : Nat} {x : Str} {pos' pos2 : Pos} (src : List (Option Nat)) (N' : List Str) (hc : X.calm = true) (S : CompScope sc X.env.scope) (hcap : capsOk sc src N' X.N = true) (hi : PI X tg iter wi)
    (hb : ∀ s H C fp xe, PG (cxC X N' sc s H C fp xe) tg g ∧ PIfs (cxC X N' sc s H C fp xe) ifs tifs ∧ PE (cxC X N' sc s H C fp xe) elt te)
    (hN : X.N.Nodup) (hix : X.N[i]? = some x) (hx : Loc X.env.scope x) (hsw : swapsWith (.ListComp elt [⟨tg, iter, ifs, 0⟩] sc pos) (some (.Name x pos')) pos2.line X.env = pure true := by rfl)
    (hs : ∀ x, foldedSetIterable iter X.env x = pure x := by intro _; rfl) (hf : X.fn x = true ∨ X.env.scope.names.lookup x = some .local := by first | exact .inl rfl | exact .inr rfl | assumption) :
    PS X (.Assign [.Name x pos'] (.ListComp elt [⟨tg, iter, ifs, 0⟩] sc pos) pos2) (tAsg (tCompE src (.lst []) wi g tifs (mApp te)) (gName i)) :=
  ps_comp ck_list hc S hcap hi (fun s H C fp xe D => ⟨(hb s H C fp xe).1, (hb s H C fp xe).2.1, pm_app (hb s H C fp xe).2.2 D⟩) acc_list hs (fun _ => rfl) hN hix hx hsw hf
end

/-! ### the forms one uses: Pv D i H, by the turn -/
section
variable {K : PySem.W.Frag} {a : Addr} {xs : List V} {g : TG} {tifs : TT} {tm : TM} {σ0 : St} {Z : Hp → Prop} {H : Hp}
theorem comp_by (n : Nat) {J : It} (Pv : Nat → Hp → Prop) (h0 : Pv 0 H) (hgo : ∀ i H, i < n → Pv i H → J.go i H) (hst : ∀ H, Pv n H → J.stop n H)
    (turn : ∀ i H, i < n → Pv i H → ∀ x H', J.yld i H x H' → g x σ0 H' fun σ2 H2 => tifs σ2 H2 fun b H3 =>
      if b = true then tm σ2 H3 fun H4 => Keeps2 σ0 σ2 ∧ ∃ m', m' < n - i ∧ (m' = n - (i + 1) ∧ i + 1 ≤ n ∧ Pv (i + 1) H4) else Keeps2 σ0 σ2 ∧ ∃ m', m' < n - i ∧ (m' = n - (i + 1) ∧ i + 1 ≤ n ∧ Pv (i + 1) H3))
    (hZ : ∀ H, Pv n H → Z H) : tComp J σ0 g tifs tm Z H := by
  refine ⟨fun i m H => m = n - i ∧ i ≤ n ∧ Pv i H, ⟨n, by simp, Nat.zero_le _, h0⟩, ?_⟩
  rintro i m H ⟨rfl, hi, p⟩
  by_cases hlt : i < n
  · exact .inr ⟨hgo i H hlt p, turn i H hlt p⟩
  · have e : i = n := by omega
    subst e
    exact .inl ⟨hst H p, hZ H p⟩
/-- over a list that stays -/
theorem comp_list (Pv : Nat → Hp → Prop) (h0 : Pv 0 H) (hl : ∀ i H, i ≤ xs.length → Pv i H → SqL K H a xs)
    (turn : ∀ i x H, xs[i]? = some x → Pv i H → g x σ0 H fun σ2 H2 => tifs σ2 H2 fun b H3 =>
      if b = true then tm σ2 H3 fun H4 => Keeps2 σ0 σ2 ∧ ∃ m', m' < xs.length - i ∧ (m' = xs.length - (i + 1) ∧ i + 1 ≤ xs.length ∧ Pv (i + 1) H4) else Keeps2 σ0 σ2 ∧ ∃ m', m' < xs.length - i ∧ (m' = xs.length - (i + 1) ∧ i + 1 ≤ xs.length ∧ Pv (i + 1) H3))
    (hZ : ∀ H, Pv xs.length H → Z H) : tComp (Itl K a) σ0 g tifs tm Z H := by
  refine comp_by xs.length Pv h0 (fun i H hi p => ⟨xs, xs[i], hl i H (Nat.le_of_lt hi) p, by simp [hi]⟩) (fun H p => ⟨xs, hl _ H (Nat.le_refl _) p, Nat.le_refl _⟩) (fun i H hi p x H' y => ?_) hZ
  obtain ⟨e, y⟩ := y
  subst e
  exact turn i x _ (y xs (hl i _ (Nat.le_of_lt hi) p)) p
/-- a turn's end -/
theorem comp_end {n i : Nat} {P : Prop} {Pv : Nat → Hp → Prop} {H : Hp} (k : P) (hi : i < n) (p : Pv (i + 1) H) : P ∧ ∃ m', m' < n - i ∧ (m' = n - (i + 1) ∧ i + 1 ≤ n ∧ Pv (i + 1) H) := ⟨k, _, by omega, rfl, hi, p⟩
end
end L2
set_option Elab.async false
set_option linter.all false
set_option maxRecDepth 100000
namespace L2
open PySem PySem.Spec PyProof.Rows


/-! ### zip of two lists, walked by a tuple of names -/
end L2
set_option Elab.async false
set_option linter.all false
set_option maxRecDepth 100000
namespace PySem
end PySem
set_option Elab.async false
set_option linter.all false
set_option maxRecDepth 100000
namespace L2
open PySem PySem.Spec PyProof.Rows
end L2
set_option Elab.async false
set_option linter.all false
set_option maxRecDepth 100000
namespace L2
open PySem PySem.Spec PyProof.Rows SeqAt

/-! ### equality, to any depth -/
inductive EB (K : PySem.W.Frag) (H : Hp) : Nat → V → V → Bool → Prop where
  | flat {n : Nat} {x y : V} : flatV x = true → flatV y = true → EB K H n x y (eqV x y)
  | same {n : Nat} {a : Addr} : EB K H n (.ref a) (.ref a) true
  | lst {n : Nat} {a b : Addr} {xs ys : List V} {e : Nat → Bool} : a ≠ b → SqL K H a xs → SqL K H b ys → xs.length = ys.length → (∀ j x y, xs[j]? = some x → ys[j]? = some y → EB K H n x y (e j)) →
      EB K H (n + 1) (.ref a) (.ref b) ((List.range xs.length).all e)
  | len {n : Nat} {a b : Addr} {xs ys : List V} : a ≠ b → SqL K H a xs → SqL K H b ys → xs.length ≠ ys.length → EB K H n (.ref a) (.ref b) false
  | tup {n : Nat} {a b : Addr} {xs ys : List V} {e : Nat → Bool} : a ≠ b → SqT K H a xs → SqT K H b ys → (∀ j x y, xs[j]? = some x → ys[j]? = some y → EB K H n x y (e j)) →
      EB K H (n + 1) (.ref a) (.ref b) ((List.range (min xs.length ys.length)).all e && xs.length == ys.length)
section
variable {X : Cx} {pins : List (Addr × Obj)} {σ : St} {H : Hp} {s : Shared}
theorem items_eq {K : PySem.W.Frag} {n : Nat} {A : Around} {xs ys : List V} {us vs : List Value} {e : Nat → Bool} (rv : Vals xs us) (rw' : Vals ys vs)
    (h : ∀ j x y, xs[j]? = some x → ys[j]? = some y → ∀ (A : Around) (u v : Value), RelV x u → RelV y v → A.units + n < cLine → EqAt A s u v (e j)) (hu : A.units + (n + 1) < cLine) :
    ∀ j (h1 : j < us.toArray.size) (h2 : j < vs.toArray.size), EqAt A.in1 s us.toArray[j] vs.toArray[j] (e j) := fun j h1 h2 => by
  have l1 := rv.length
  have l2 := rw'.length
  have h1' : j < us.length := by simpa using h1
  have h2' : j < vs.length := by simpa using h2
  have hx : xs[j]? = some (xs[j]'(by omega)) := List.getElem?_eq_getElem _
  have hy : ys[j]? = some (ys[j]'(by omega)) := List.getElem?_eq_getElem _
  obtain ⟨u, hu1, ru⟩ := rv.get hx
  obtain ⟨v, hv1, rv1⟩ := rw'.get hy
  have eu : us[j] = u := by have := List.getElem?_eq_getElem h1'; rw [hu1] at this; exact (Option.some.inj this).symm
  have ev : vs[j] = v := by have := List.getElem?_eq_getElem h2'; rw [hv1] at this; exact (Option.some.inj this).symm
  have q := h j _ _ hx hy A.in1 u v ru rv1 (by show A.units + 1 + n < cLine; omega)
  simpa [eu, ev] using q
theorem EB.at (I : Inv X pins σ H s) {n : Nat} {x y : V} {b : Bool} (q : EB X.K H n x y b) : ∀ (A : Around) (u v : Value), RelV x u → RelV y v → A.units + n < cLine → EqAt A s u v b := by
  induction q with
  | flat h1 h2 => exact fun A u v ru rv _ => eqAt_V ru rv h1 h2
  | same => intro A u v ru rv _; cases ru; cases rv; exact EqAt.same _
  | @lst n a b xs ys e hne ha hb hl _ ih =>
    intro A u v ru rv hu
    cases ru; cases rv
    obtain ⟨us, r1, p1, _⟩ := I.list ha
    obtain ⟨vs, r2, p2, _⟩ := I.list hb
    have l1 := r1.length
    have l2 := r2.length
    have q := RcAt.lists (A := A) p1.isList p2.isList (by simp; omega) (by omega) (items_eq (K := X.K) r1 r2 ih hu)
    rw [show us.toArray.size = xs.length by simp [l1]] at q
    exact EqAt.of_refs hne q
  | @len n a b xs ys hne ha hb hl =>
    intro A u v ru rv hu
    cases ru; cases rv
    obtain ⟨us, r1, p1, _⟩ := I.list ha
    obtain ⟨vs, r2, p2, _⟩ := I.list hb
    have l1 := r1.length
    have l2 := r2.length
    exact EqAt.of_refs hne (RcAt.lists_lengths p1.isList p2.isList (by simp; omega) (by omega))
  | @tup n a b xs ys e hne ha hb _ ih =>
    intro A u v ru rv hu
    cases ru; cases rv
    obtain ⟨us, r1, p1, _⟩ := I.tuple ha
    obtain ⟨vs, r2, p2, _⟩ := I.tuple hb
    have l1 := r1.length
    have l2 := r2.length
    have q := RcAt.tuples (A := A) (show s.heap.IsTuple a us.toArray from p1) (show s.heap.IsTuple b vs.toArray from p2) (by omega) (items_eq (K := X.K) r1 r2 ih hu)
    rw [show us.toArray.size = xs.length by simp [l1], show vs.toArray.size = ys.length by simp [l2]] at q
    exact EqAt.of_refs hne q
end
/-- == of two lists, or of two tuples (at the top no look at whether they are one) -/
def RB (K : PySem.W.Frag) (H : Hp) (n : Nat) (x y : V) (b : Bool) : Prop := ∃ a c xs ys, x = .ref a ∧ y = .ref c ∧
  ((∃ e : Nat → Bool, SqL K H a xs ∧ SqL K H c ys ∧ xs.length = ys.length ∧ (∀ j x y, xs[j]? = some x → ys[j]? = some y → EB K H n x y (e j)) ∧ b = (List.range xs.length).all e) ∨
   (SqL K H a xs ∧ SqL K H c ys ∧ xs.length ≠ ys.length ∧ b = false) ∨
   (∃ e : Nat → Bool, SqT K H a xs ∧ SqT K H c ys ∧ (∀ j x y, xs[j]? = some x → ys[j]? = some y → EB K H n x y (e j)) ∧ b = ((List.range (min xs.length ys.length)).all e && xs.length == ys.length)))
section
variable {X : Cx}
theorem op_eqD {m : Nat} (hu : X.A.units + (m + 1) < cLine) : OpR X (compareOp .Eq) (fun x y H Q => ∃ b, RB X.K H m x y b ∧ Q (.bl b) H) := by
  intro pins s σ H x y v u Q I rx ry h
  obtain ⟨b, ⟨a, c, xs, ys, rfl, rfl, q⟩, k⟩ := h
  cases rx; cases ry
  rcases q with ⟨e, ha, hb, hl, he, rfl⟩ | ⟨ha, hb, hl, rfl⟩ | ⟨e, ha, hb, he, rfl⟩
  · obtain ⟨us, r1, p1, _⟩ := I.list ha
    obtain ⟨vs, r2, p2, _⟩ := I.list hb
    have l1 := r1.length
    have l2 := r2.length
    refine eq_listAt p1.isList p2.isList (by simp; omega) (by omega) (items_eq (K := X.K) r1 r2 (fun j x y h1 h2 => (he j x y h1 h2).at I) hu) ?_
    rw [show us.toArray.size = xs.length by simp [l1]]
    exact ⟨.bl _, H, I, rfl, k⟩
  · obtain ⟨us, r1, p1, _⟩ := I.list ha
    obtain ⟨vs, r2, p2, _⟩ := I.list hb
    have l1 := r1.length
    have l2 := r2.length
    exact eq_list_lengthsAt p1.isList p2.isList (by simp; omega) (by omega) ⟨.bl _, H, I, rfl, k⟩
  · obtain ⟨us, r1, p1, _⟩ := I.tuple ha
    obtain ⟨vs, r2, p2, _⟩ := I.tuple hb
    have l1 := r1.length
    have l2 := r2.length
    refine eq_tupleAt (show s.heap.IsTuple a us.toArray from p1) (show s.heap.IsTuple c vs.toArray from p2) (by omega) (items_eq (K := X.K) r1 r2 (fun j x y h1 h2 => (he j x y h1 h2).at I) hu) ?_
    rw [show us.toArray.size = xs.length by simp [l1], show vs.toArray.size = ys.length by simp [l2]]
    exact ⟨.bl _, H, I, rfl, k⟩
theorem op_neD {m : Nat} (hu : X.A.units + (m + 1) < cLine) : OpR X (compareOp .NotEq) (fun x y H Q => ∃ b, RB X.K H m x y b ∧ Q (.bl (!b)) H) := by
  intro pins s σ H x y v u Q I rx ry h
  obtain ⟨b, ⟨a, c, xs, ys, rfl, rfl, q⟩, k⟩ := h
  cases rx; cases ry
  rcases q with ⟨e, ha, hb, hl, he, rfl⟩ | ⟨ha, hb, hl, rfl⟩ | ⟨e, ha, hb, he, rfl⟩
  · obtain ⟨us, r1, p1, _⟩ := I.list ha
    obtain ⟨vs, r2, p2, _⟩ := I.list hb
    have l1 := r1.length
    have l2 := r2.length
    refine RcNeAt.lists p1.isList p2.isList (by simp; omega) (by omega) (items_eq (K := X.K) r1 r2 (fun j x y h1 h2 => (he j x y h1 h2).at I) hu) X.prog X.w X.xe _ ?_
    rw [show us.toArray.size = xs.length by simp [l1]]
    exact ⟨.bl _, H, I, rfl, k⟩
  · obtain ⟨us, r1, p1, _⟩ := I.list ha
    obtain ⟨vs, r2, p2, _⟩ := I.list hb
    have l1 := r1.length
    have l2 := r2.length
    exact RcNeAt.lists_lengths p1.isList p2.isList (by simp; omega) (by omega) X.prog X.w X.xe _ ⟨.bl _, H, I, rfl, k⟩
  · obtain ⟨us, r1, p1, _⟩ := I.tuple ha
    obtain ⟨vs, r2, p2, _⟩ := I.tuple hb
    have l1 := r1.length
    have l2 := r2.length
    refine RcNeAt.tuples (show s.heap.IsTuple a us.toArray from p1) (show s.heap.IsTuple c vs.toArray from p2) (by omega) (items_eq (K := X.K) r1 r2 (fun j x y h1 h2 => (he j x y h1 h2).at I) hu) X.prog X.w X.xe _ ?_
    rw [show us.toArray.size = xs.length by simp [l1], show vs.toArray.size = ys.length by simp [l2]]
    exact ⟨.bl _, H, I, rfl, k⟩
end
/-- the true case -/
def ET (K : PySem.W.Frag) (H : Hp) (n : Nat) (x y : V) : Prop := EB K H n x y true
theorem all_true {n : Nat} : (List.range n).all (fun _ => true) = true := by rw [List.all_eq_true]; intro _ _; rfl
theorem RB.lst {K : PySem.W.Frag} {H : Hp} {n : Nat} {a b : Addr} {xs ys : List V} (ha : SqL K H a xs) (hb : SqL K H b ys) (hl : xs.length = ys.length) (h : ∀ (j : Nat) (x y : V), xs[j]? = some x → ys[j]? = some y → ET K H n x y) : RB K H n (.ref a) (.ref b) true :=
  ⟨a, b, xs, ys, rfl, rfl, .inl ⟨fun _ => true, ha, hb, hl, h, all_true.symm⟩⟩
/-- xs == [] -/
theorem RB.nil {K : PySem.W.Frag} {H : Hp} {n : Nat} {a b : Addr} {xs : List V} (ha : SqL K H a xs) (hb : SqL K H b []) : RB K H n (.ref a) (.ref b) xs.isEmpty := by
  cases xs with
  | nil => exact RB.lst ha hb rfl (fun j x y h => by simp at h)
  | cons x r => exact ⟨a, b, _, [], rfl, rfl, .inr (.inl ⟨ha, hb, by simp, rfl⟩)⟩

section
variable {X : Cx} {pos : Pos}
/-! ### (a, b, ..) = a list of that length -/
/-! ### greater numbers -/
def CDivB (i j : Int) : Prop := 0 < j ∧ j < 2 ^ 1000
theorem op_fdivB : OpR X (binaryOp .FloorDiv) (rI CDivB fun i j => .int (i / j)) := opI fun i j _ _ _ _ _ hc q => by
  have h1 : (0 : Int) < j := hc.1
  have h2 : j < 2 ^ 1000 := hc.2
  have h3 : j.natAbs < 2 ^ 1000 := by omega
  exact floordiv_int (by omega) (by rw [Int.fdiv_eq_ediv_of_nonneg i (by omega)]; exact q) (.inl (PyProof.noPylong_of_log2 (Nat.lt_of_lt_of_le ((Nat.log2_lt (by omega)).mpr h3) (by decide))))
/-! ### isinstance(x, T), T a built-in type -/
theorem call_isi : CallR X (.builtin "isinstance") (fun xs H Q => ∃ x n t b, xs = [x, .ty n] ∧ TyOf X.K H x t ∧ PySem.W.kitOne X.K t (.type n) = some b ∧ Q (.bl b) H) := by
  intro pins s σ H xs us Q I r h
  obtain ⟨x, n, t, b, rfl, ty, e, q⟩ := h
  obtain ⟨u, v, rfl, ru, rv⟩ := Vals.two r
  obtain rfl : v = Value.type n := rv
  exact isinst_ok I ru ty e fun tk => ⟨.bl b, H, I.tok tk, rfl, q⟩
end
end L2
set_option Elab.async false
set_option linter.all false
set_option maxRecDepth 100000
namespace TW
open PySem L2

/-! ### sums and conditions, as data and in the heap -/
inductive K2 where
  | plus | less | same | under | both
def K2.str : K2 → Str
  | .plus => "plus" | .less => "less" | .same => "same" | .under => "under" | .both => "both"
inductive E where
  | num (n : Int) | box (tag x : Str) | yes | nt (a : E) | two (k : K2) (a b : E)
def Tp (H : Hp) (v : V) (xs : List V) : Prop := ∃ p, v = .ref p ∧ H p = some (.tup xs)
def EAt (H : Hp) : V → E → Prop
  | v, .num n => Tp H v [.str "number", .int n]
  | v, .box t x => Tp H v [.str t, .str x]
  | v, .yes => Tp H v [.str "yes"]
  | v, .nt a => ∃ x, Tp H v [.str "not", x] ∧ EAt H x a
  | v, .two k a b => ∃ x y, Tp H v [.str k.str, x, y] ∧ EAt H x a ∧ EAt H y b
/-- tuples stay -/
def TK (H H' : Hp) : Prop := ∀ b xs, H b = some (.tup xs) → H' b = some (.tup xs)
theorem TK.refl (H : Hp) : TK H H := fun _ _ h => h
theorem TK.trans {A B C : Hp} (a : TK A B) (b : TK B C) : TK A C := fun c o h => b c o (a c o h)
theorem Tp.keep {H H' : Hp} {v : V} {xs : List V} (k : TK H H') (h : Tp H v xs) : Tp H' v xs := let ⟨p, e, q⟩ := h; ⟨p, e, k p xs q⟩
theorem EAt.keep {H H' : Hp} (k : TK H H') : ∀ {e : E} {v : V}, EAt H v e → EAt H' v e
  | .num _, _, h => Tp.keep k h
  | .box _ _, _, h => Tp.keep k h
  | .yes, _, h => Tp.keep k h
  | .nt _, _, ⟨x, h, a⟩ => ⟨x, h.keep k, EAt.keep k a⟩
  | .two _ _ _, _, ⟨x, y, h, a, b⟩ => ⟨x, y, h.keep k, EAt.keep k a, EAt.keep k b⟩
def E.dep : E → Nat
  | .num _ => 0 | .box _ _ => 0 | .yes => 0 | .nt a => a.dep + 1 | .two _ a b => max a.dep b.dep + 1
/-- a sum, a condition -/
def E.isS : E → Prop
  | .num _ => True
  | .box _ _ => True
  | .two .plus a b => a.isS ∧ b.isS
  | .two .less a b => a.isS ∧ b.isS
  | _ => False
def E.isC : E → Prop
  | .yes => True
  | .nt a => a.isC
  | .two .same a b => a.isS ∧ b.isS
  | .two .under a b => a.isS ∧ b.isS
  | .two .both a b => a.isC ∧ b.isC
  | _ => False
/-- each box is one of these -/
def E.okIn (P : Str → Str → Prop) : E → Prop
  | .num n => n.natAbs < 2 ^ 100 | .box t x => P t x | .yes => True | .nt a => a.okIn P | .two _ a b => a.okIn P ∧ b.okIn P
theorem E.okIn.imp {P Q : Str → Str → Prop} (f : ∀ t x, P t x → Q t x) : ∀ {e : E}, e.okIn P → e.okIn Q
  | .num _, h => h | .box t x, h => f t x h | .yes, _ => True.intro | .nt a, h => E.okIn.imp f (e := a) h | .two _ a b, h => ⟨E.okIn.imp f (e := a) h.1, E.okIn.imp f (e := b) h.2⟩
/-! ### nodes -/
/-! ### the deck, and what stays -/
theorem same_new {H : Hp} {p : Addr} (h : H p = none) (o : HO) : Same H (upd H p o) := fun b u q => by rw [upd_ne (ne_of_none q h)]; exact q
theorem Same.tk {H H' : Hp} (s : Same H H') : TK H H' := fun b xs h => s b _ h
theorem tk_new {H : Hp} {p : Addr} (h : H p = none) (o : HO) : TK H (upd H p o) := Same.tk (same_new h o)
/-! ### programs -/
def BoxAt (H : Hp) (v : V) (b : Str × Int) : Prop := Tp H v [.str b.1, .int b.2]
end TW
set_option Elab.async false
set_option linter.all false
set_option maxRecDepth 100000
set_option exponentiation.threshold 4000
namespace TW
open PySem L2
/-! ### defs of the text, with their promises -/
def Src (K : PySem.W.Frag) (mg : Str → Option Value) (x : Str) (st : Stmt) : Prop := ∃ f fd, Fun K x x st f fd ∧ mg x = some (.ref f)
def Has (P : Program) (w : World) (K : PySem.W.Frag) (mg : Str → Option Value) (base : Heap) (x : Str) (ps : List Str) (k : Nat) (sp : Sp) : Prop :=
  ∃ f fd, FnOk P w K mg base CX0 k f fd ps sp ∧ PySem.W.keepIn K (.ref f) = true ∧ Binds K fd ps [] ∧ mg x = some (.ref f)
theorem Has.mono {P : Program} {w : World} {K : PySem.W.Frag} {mg : Str → Option Value} {base : Heap} {x : Str} {ps : List Str} {j k : Nat} {sp : Sp} (h : Has P w K mg base x ps j sp) (hk : j ≤ k) : Has P w K mg base x ps k sp :=
  let ⟨f, fd, a, b, c, d⟩ := h; ⟨f, fd, a.mono hk, b, c, d⟩
/-! ### small facts -/
theorem atI_map {α : Type} (f : α → V) (xs : List α) {r : Int} (h0 : 0 ≤ r) (h1 : r < (xs.length : Int)) : ∃ x ∈ xs, atI (xs.map f) r = some (f x) := by
  have hr : r.toNat < xs.length := by omega
  have e : r = ((r.toNat : Nat) : Int) := by omega
  have q : atI (xs.map f) ((r.toNat : Nat) : Int) = some (f xs[r.toNat]) := atI_nat (by rw [List.getElem?_map, List.getElem?_eq_getElem hr]; rfl)
  rw [← e] at q
  exact ⟨xs[r.toNat], List.getElem_mem hr, q⟩
theorem up_ne {A : Around} {k : Nat} (hr : Room k A) (m : Nat) (hm : m ≤ 64) : A.units + m < cLine := by have := hr.units; omega
end TW
set_option Elab.async false
set_option linter.all false
set_option maxRecDepth 100000
namespace L2
open PySem PySem.Spec PyProof.Rows
/-! ### arguments: that none is starred, once for each kind of expression -/
structure NoStar (e : Expr) : Prop where
  h : ∀ (es : List Expr) (env : Env), starEach (e :: es) env = (false, eval e env) :: starEach es env
theorem ns_of {e : Expr} (h : ∀ x p, e ≠ .Starred x p) : NoStar e := ⟨fun es env => by
  cases e <;> first | rfl | exact absurd rfl (h _ _)⟩
theorem ns_const {c k p} : NoStar (.Constant c k p) := ns_of fun _ _ z => nomatch z
theorem ns_name {x p} : NoStar (.Name x p) := ns_of fun _ _ z => nomatch z
theorem ns_call {f a k p} : NoStar (.Call f a k p) := ns_of fun _ _ z => nomatch z
theorem ns_bin {a o b p} : NoStar (.BinOp a o b p) := ns_of fun _ _ z => nomatch z
theorem ns_sub {a b p} : NoStar (.Subscript a b p) := ns_of fun _ _ z => nomatch z
theorem ns_tup {a b p} : NoStar (.Tuple a b p) := ns_of fun _ _ z => nomatch z
theorem ns_lst {a p} : NoStar (.List a p) := ns_of fun _ _ z => nomatch z
theorem ns_un {a b p} : NoStar (.UnaryOp a b p) := ns_of fun _ _ z => nomatch z
def NoStars (es : List Expr) : Prop := ∀ (pos : Pos) (env : Env), (backTo pos (starEach es env)).any (·.1) = false
theorem nss_nil : NoStars [] := fun _ _ => rfl
theorem nss_cons {e : Expr} {es : List Expr} (h : NoStar e) (hs : NoStars es) : NoStars (e :: es) := fun pos env => by
  rw [h.h es env]
  exact hs pos env
structure PAs (X : Cx) (es : List Expr) (t : TA) : Prop where
  pa : PA X es t
  ns : ∀ e r, es = e :: r → NoStar e ∧ NoStars r
  nss : NoStars es
section
variable {X : Cx} {e : Expr} {es : List Expr} {te : TE} {t : TA} {pos : Pos}
theorem an : PAs X [] tNil := ⟨pa_nil, (fun _ _ z => nomatch z), nss_nil⟩
theorem ac (ha : PE X e te) (hr : PAs X es t)
    (hs : NoStar e := by first | exact ns_const | exact ns_name | exact ns_call | exact ns_bin | exact ns_sub | exact ns_tup | exact ns_lst | exact ns_cmp | exact ns_lc | exact ns_dc | exact ns_un | exact ns_bool | exact ns_attr) : PAs X (e :: es) (tCons te t) :=
  ⟨pa_cons ha hr.pa (hs.h es X.env), fun e' r z => by injection z with z1 z2; subst z1 z2; exact ⟨hs, hr.nss⟩, nss_cons hs hr.nss⟩
theorem xtup {x1} (h : PAs X es t) : PE X (.Tuple es x1 pos) (tTup t) := pe_tup h.pa
theorem xlst (h : PAs X es t) : PE X (.List es pos) (tLst t) := pe_lst h.pa
theorem xcallB {x : Str} {p : Pos} {id : String} {r : List V → Hp → VK → Prop} (hc : CallR X (.builtin id) r) (hg : Gl X x) (hm : X.mg x = none) (hv : bootBuiltins x = some (.builtin id)) (ha : PAs X (e :: es) t) (hn : x ≠ "__name__" := by decide) (hdb : (x == ("__debug__" : Str)) = false := by decide) :
    PE X (.Call (.Name x p) (e :: es) [] pos) (tCB r t) := pe_callB hc hg hm hv ha.pa hn hdb ((ha.ns e es rfl).1.h es X.env) ((ha.ns e es rfl).2 pos X.env)
theorem xcallT {x : Str} {p : Pos} {T : String} {r : List V → Hp → VK → Prop} (hc : CallR X (.type T) r) (hg : Gl X x) (hm : X.mg x = none) (hv : bootBuiltins x = some (.type T)) (ha : PAs X (e :: es) t) (hn : x ≠ "__name__" := by decide) (hdb : (x == ("__debug__" : Str)) = false := by decide) :
    PE X (.Call (.Name x p) (e :: es) [] pos) (tCB r t) := pe_callTy hc hg hm hv ha.pa hn hdb ((ha.ns e es rfl).1.h es X.env) ((ha.ns e es rfl).2 pos X.env)
theorem xown {x : Str} {p : Pos} {ps : List Str} {k : Nat} {sp : Sp} (D : TW.Has X.prog X.w X.K X.mg X.base x ps k sp) (hr : Room k X.A) (hg : Gl X x) (ha : PAs X (e :: es) t) (hdb : (x == ("__debug__" : Str)) = false := by decide) :
    PE X (.Call (.Name x p) (e :: es) [] pos) (tCall sp [] E0 t) :=
  let ⟨_, _, G, kp, b, m⟩ := D
  pe_call G hr hg m kp b .nil pass0 ha.pa hdb ((ha.ns e es rfl).1.h es X.env) ((ha.ns e es rfl).2 pos X.env)
theorem xrange1 {tg a : Expr} {ta : TA} {p : Pos} (hg : Gl X "range") (hm : X.mg "range" = none) (ha : PAs X [a] ta) : PI X tg (.Call (.Name "range" p) [a] [] pos) (iRng1 ta) :=
  pi_range1 hg hm ha.pa ((ha.ns a [] rfl).1.h [] X.env)
/-- o.m(e), a builtin's method -/
theorem xbm1 {o : Expr} {name : Str} {apos : Pos} {T id : String} {r : V → List V → Hp → VK → Prop} {to : TE} (pa : PlainAttrs T) (slot : Slot T name id) (hty : typeOf (.builtin id) = pure (.type "method_descriptor")) (hm : MtR X id r) (ho : PE X o to) (ha : PAs X [e] t)
    (hbase : attributeBase o name X.env (eval o X.env) = eval o X.env := by rfl) (hline : (apos.endLine == pos.line) = true := by rfl) : PE X (.Call (.Attribute o name apos) [e] [] pos) (tBM X.K T r to t) :=
  pe_bm pa slot hty hm ho ha.pa hbase (by rw [(ha.ns e [] rfl).1.h [] X.env]; rfl) hline ((ha.ns e [] rfl).1.h [] X.env) ((ha.ns e [] rfl).2 pos X.env)
end
end L2
set_option Elab.async false
set_option linter.all false
set_option maxRecDepth 100000
/-! THE SEALED JUDGEMENTS: as the layer's, but nothing looks into them while a term of rules is read (an elaborator that opens PE runs the model). -/
namespace L3
open PySem PySem.Spec PyProof.Rows L2
structure SE (X : Cx) (e : Expr) (t : TE) : Prop where
  h : PE X e t
structure ST (X : Cx) (e : Expr) (t : TT) : Prop where
  h : PT X e t
structure SW (X : Cx) (e : Expr) (t : TT) : Prop where
  h : PW X e t
structure SA (X : Cx) (es : List Expr) (t : TA) : Prop where
  h : PAs X es t
structure SS (X : Cx) (s : Stmt) (t : TS) : Prop where
  h : PS X s t
structure SL (X : Cx) (ss : List Stmt) (t : TS) : Prop where
  h : PSs X ss t
structure SG (X : Cx) (e : Expr) (t : TG) : Prop where
  h : PG X e t
structure SGs (X : Cx) (es : List Expr) (t : TGs) : Prop where
  h : PGs X es t
structure SI (X : Cx) (tg iter : Expr) (t : TI) : Prop where
  h : PI X tg iter t
structure SIf (X : Cx) (cs : List Expr) (t : TT) : Prop where
  h : PIfs X cs t
structure SO (X : Cx) (f : Value → Value → Sem Value) (r : R2) : Prop where
  h : OpR X f r
structure SX (X : Cx) (r : R2) : Prop where
  h : IxR X r
structure SC (X : Cx) (f : Value) (r : List V → Hp → VK → Prop) : Prop where
  h : CallR X f r
structure SM (X : Cx) (id : String) (r : V → List V → Hp → VK → Prop) : Prop where
  h : MtR X id r
section
variable {X : Cx} {a b c e o : Expr} {es : List Expr} {ta tb tc te : TE} {t : TA} {tA uB : TT} {pos : Pos} {r : R2}
/-! names, constants -/
theorem v (i : Nat) {x : Str} (hN : X.N[i]? = some x := by rfl) (hv : Vis X.env.scope x := by first | exact Or.inl rfl | exact Or.inr (Or.inl rfl) | exact Or.inr (Or.inr rfl)) (hd : (x == ("__debug__" : Str)) = false := by decide)
    (hcd : (x == ("__classdict__" : Str)) = false := by decide) : SE X (.Name x pos) (tVar i) := ⟨pe_var hN hv hd hcd⟩
theorem int {i j} : SE X (.Constant (.int i) j pos) (tC (.int i)) := ⟨pe_int⟩
theorem bl {k j} : SE X (.Constant (.bool k) j pos) (tC (.bl k)) := ⟨pe_bl⟩
theorem non {j} : SE X (.Constant .none j pos) (tC .non) := ⟨pe_non⟩
theorem str {x j} : SE X (.Constant (.str x) j pos) (tC (.str x)) := ⟨pe_str⟩
theorem glob {x : Str} {w : V} {u : Value} (hg : Gl X x) (hm : X.mg x = some u) (r : RelV w u) (hd : (x == ("__debug__" : Str)) = false := by decide) : SE X (.Name x pos) (tC w) := ⟨pe_glob hg hm r hd⟩
theorem bltn {x : Str} {w : V} {u : Value} (hg : Gl X x) (hm : X.mg x = none) (hv : bootBuiltins x = some u) (r : RelV w u) (hn : x ≠ "__name__" := by decide) (hd : (x == ("__debug__" : Str)) = false := by decide) : SE X (.Name x pos) (tC w) := ⟨pe_bltn hg hm hv r hn hd⟩
/-! operations -/
theorem op {k : Operator} (ho : SO X (binaryOp k) r) (ha : SE X a ta) (hb : SE X b tb) : SE X (.BinOp a k b pos) (tOp r ta tb) := ⟨pe_op ho.h ha.h hb.h⟩
theorem cmp {k : CmpOp} (ho : SO X (compareOp k) r) (ha : SE X a ta) (hb : SE X b tb) (hm : behindInMarks k b = false := by exact nomark _) : ST X (.Compare a [k] [b] pos) (tTest (tOp r ta tb)) := ⟨pt_cmpR ho.h ha.h hb.h hm⟩
theorem cmpE {k : CmpOp} (ho : SO X (compareOp k) r) (ha : SE X a ta) (hb : SE X b tb) (hm : behindInMarks k b = false := by exact nomark _) : SE X (.Compare a [k] [b] pos) (tOp r ta tb) := ⟨pe_cmpR ho.h ha.h hb.h hm⟩
theorem o_add : SO X (binaryOp .Add) (rI0 fun i j => .int (i + j)) := ⟨op_add⟩
theorem o_sub : SO X (binaryOp .Sub) (rI0 fun i j => .int (i - j)) := ⟨op_sub⟩
theorem o_mul : SO X (binaryOp .Mult) (rI CMul fun i j => .int (i * j)) := ⟨op_mul⟩
theorem o_mod : SO X (binaryOp .Mod) (rI (fun _ j => 0 < j) fun i j => .int (i % j)) := ⟨op_mod⟩
theorem o_div : SO X (binaryOp .FloorDiv) (rI CDivB fun i j => .int (i / j)) := ⟨op_fdivB⟩
theorem o_pow : SO X (binaryOp .Pow) (rI CPow fun i j => .int (i ^ j.toNat)) := ⟨op_pow⟩
theorem o_cat : SO X (binaryOp .Add) rCat := ⟨op_cat⟩
theorem o_eq : SO X (compareOp .Eq) rEq := ⟨op_eq⟩
theorem o_ne : SO X (compareOp .NotEq) rNe := ⟨op_ne⟩
theorem o_lt : SO X (compareOp .Lt) (rI0 fun i j => .bl (decide (i < j))) := ⟨op_lt⟩
theorem o_gt : SO X (compareOp .Gt) (rI0 fun i j => .bl (decide (j < i))) := ⟨op_gt⟩
theorem o_ge : SO X (compareOp .GtE) (rI0 fun i j => .bl (decide (j ≤ i))) := ⟨op_ge⟩
theorem o_eqD {KK : PySem.W.Frag} {m : Nat} (hu : X.A.units + (m + 1) < cLine) (hK : X.K = KK := by first | exact cxC_K | rfl) : SO X (compareOp .Eq) (fun x y H Q => ∃ b, RB KK H m x y b ∧ Q (.bl b) H) := by
  subst hK
  exact ⟨op_eqD hu⟩
theorem o_neD {KK : PySem.W.Frag} {m : Nat} (hu : X.A.units + (m + 1) < cLine) (hK : X.K = KK := by first | exact cxC_K | rfl) : SO X (compareOp .NotEq) (fun x y H Q => ∃ b, RB KK H m x y b ∧ Q (.bl (!b)) H) := by
  subst hK
  exact ⟨op_neD hu⟩
theorem o_in {KK : PySem.W.Frag} (hK : X.K = KK := by first | exact cxC_K | rfl) : SO X (compareOp .In) (rIn KK false) := by
  subst hK
  exact ⟨op_in_seq⟩
theorem o_notIn {KK : PySem.W.Frag} (hK : X.K = KK := by first | exact cxC_K | rfl) : SO X (compareOp .NotIn) (rIn KK true) := by
  subst hK
  exact ⟨op_notIn_seq⟩
theorem o_isN : SO X (compareOp .Is) (fun x y H Q => y = .non ∧ Q (.bl (decide (x = .non))) H) := ⟨op_isN⟩
theorem dinE (hu : X.A.units + 1 < cLine) (hi : SE X a ta) (ho : SE X b tb) (h1 : behindInMarks .In b = false := by first | exact nobehind _ (by decide) (by decide) | rfl) : SE X (.Compare a [.In] [b] pos) (tDIn ta tb) := ⟨pe_cmp (pc_din hu hi.h ho.h) h1⟩
/-! and, or, not -/
theorem or2 {rest : List Expr} (ha : ST X a tA) (hb : SW X (.BoolOp .Or (b :: rest) pos) uB) : SW X (.BoolOp .Or (a :: b :: rest) pos) (tOr tA uB) := ⟨pw_or ha.h hb.h⟩
theorem or1 (ha : ST X a tA) : SW X (.BoolOp .Or [a] pos) tA := ⟨pw_or1 ha.h⟩
theorem and2 {rest : List Expr} (ha : ST X a tA) (hb : SW X (.BoolOp .And (b :: rest) pos) uB) : SW X (.BoolOp .And (a :: b :: rest) pos) (tAnd tA uB) := ⟨pw_and ha.h hb.h⟩
theorem and1 (ha : ST X a tA) : SW X (.BoolOp .And [a] pos) tA := ⟨pw_and1 ha.h⟩
theorem tw (h : SW X e tA) : ST X e tA := ⟨h.h.pt⟩
theorem nt (ha : ST X a tA) : ST X (.UnaryOp .Not a pos) (tNot tA) := ⟨pt_not ha.h⟩
theorem tval (h : SE X e te) (he : ∀ whole, isTrue e X.env whole = (do let v ← whole; standAt e.pos; holding [v] (truthy v)) := by intro _; rfl) : ST X e (tB te) := ⟨pt_val h.h he⟩
/-! items, slices, displays -/
theorem ix (hr : SX X r) (ha : SE X a ta) (hb : SE X b tb) (hs : PlainIx b := by exact fun _ _ => rfl) : SE X (.Subscript a b pos) (tOp r ta tb) := ⟨pe_ix hr.h ha.h hb.h hs⟩
theorem ixL {KK : PySem.W.Frag} (hK : X.K = KK := by first | exact cxC_K | rfl) : SX X (rIxL KK) := by
  subst hK
  exact ⟨ix_list⟩
theorem ixT {KK : PySem.W.Frag} (hK : X.K = KK := by first | exact cxC_K | rfl) : SX X (rIxT KK) := by
  subst hK
  exact ⟨ix_tup⟩
theorem slT1 {KK : PySem.W.Frag} {p2 : Pos} (ha : SE X a ta) (hb : SE X b tb) (hK : X.K = KK := by first | exact cxC_K | rfl) : SE X (.Subscript a (.Slice (some b) none none p2) pos) (tSl (rSlT KK) ta (tPart tb) tNoPart) := by
  subst hK
  exact ⟨pe_slice sl_tup ha.h (po_some hb.h) po_none⟩
theorem slL2 {KK : PySem.W.Frag} {p2 : Pos} (ha : SE X a ta) (hb : SE X b tb) (hK : X.K = KK := by first | exact cxC_K | rfl) : SE X (.Subscript a (.Slice none (some b) none p2) pos) (tSl (rSlL KK) ta tNoPart (tPart tb)) := by
  subst hK
  exact ⟨pe_slice sl_list ha.h po_none (po_some hb.h)⟩
theorem n : SA X [] tNil := ⟨an⟩
theorem k (ha : SE X e te) (hr : SA X es t) (hs : NoStar e := by first | exact ns_const | exact ns_name | exact ns_call | exact ns_bin | exact ns_sub | exact ns_tup | exact ns_lst | exact ns_cmp | exact ns_lc | exact ns_dc | exact ns_un | exact ns_bool | exact ns_attr) :
    SA X (e :: es) (tCons te t) := ⟨ac ha.h hr.h hs⟩
theorem tup {x1} (h : SA X es t) : SE X (.Tuple es x1 pos) (tTup t) := ⟨xtup h.h⟩
theorem lst (h : SA X es t) : SE X (.List es pos) (tLst t) := ⟨xlst h.h⟩
/-! calls -/
theorem callB {x : Str} {p : Pos} {id : String} {rr : List V → Hp → VK → Prop} (hc : SC X (.builtin id) rr) (hg : Gl X x) (hm : X.mg x = none) (hv : bootBuiltins x = some (.builtin id)) (ha : SA X (e :: es) t) (hn : x ≠ "__name__" := by decide) (hdb : (x == ("__debug__" : Str)) = false := by decide) :
    SE X (.Call (.Name x p) (e :: es) [] pos) (tCB rr t) := ⟨xcallB hc.h hg hm hv ha.h hn hdb⟩
theorem callT {x : Str} {p : Pos} {T : String} {rr : List V → Hp → VK → Prop} (hc : SC X (.type T) rr) (hg : Gl X x) (hm : X.mg x = none) (hv : bootBuiltins x = some (.type T)) (ha : SA X (e :: es) t) (hn : x ≠ "__name__" := by decide) (hdb : (x == ("__debug__" : Str)) = false := by decide) :
    SE X (.Call (.Name x p) (e :: es) [] pos) (tCB rr t) := ⟨xcallT hc.h hg hm hv ha.h hn hdb⟩
theorem own {x : Str} {p : Pos} {ps : List Str} {kk : Nat} {sp : Sp} (D : TW.Has X.prog X.w X.K X.mg X.base x ps kk sp) (hr : Room kk X.A) (hg : Gl X x) (ha : SA X (e :: es) t) (hdb : (x == ("__debug__" : Str)) = false := by decide) :
    SE X (.Call (.Name x p) (e :: es) [] pos) (tCall sp [] E0 t) := ⟨xown D hr hg ha.h hdb⟩
theorem bm1 {KK : PySem.W.Frag} {name : Str} {apos : Pos} {T id : String} {rr : V → List V → Hp → VK → Prop} (pa : PlainAttrs T) (slot : Slot T name id) (hty : typeOf (.builtin id) = pure (.type "method_descriptor")) (hm : SM X id rr) (ho : SE X o ta) (ha : SA X [e] t)
    (hbase : attributeBase o name X.env (eval o X.env) = eval o X.env := by rfl) (hline : (apos.endLine == pos.line) = true := by rfl) (hK : X.K = KK := by first | exact cxC_K | rfl) : SE X (.Call (.Attribute o name apos) [e] [] pos) (tBM KK T rr ta t) := by
  subst hK
  exact ⟨xbm1 pa slot hty hm.h ho.h ha.h hbase hline⟩
theorem append {KK : PySem.W.Frag} {apos : Pos} (ho : SE X o ta) (ha : SA X [e] t) (hbase : attributeBase o "append" X.env (eval o X.env) = eval o X.env := by rfl) (hline : (apos.endLine == pos.line) = true := by rfl) (hK : X.K = KK := by first | exact cxC_K | rfl) : SE X (.Call (.Attribute o "append" apos) [e] [] pos) (tBM KK "list" rAppend ta t) := by
  subst hK
  exact bm1 PySem.F.plainAttrs_list PySem.F.slot_list_append PySem.F.type_list_append ⟨mt_append⟩ ho ha hbase hline
theorem c_len {KK : PySem.W.Frag} (hK : X.K = KK := by first | exact cxC_K | rfl) : SC X (.builtin "len") (fun xs H Q => ∃ p ys, xs = [.ref p] ∧ (SqL KK H p ys ∨ SqT KK H p ys) ∧ Q (.int ys.length) H) := by
  subst hK
  exact ⟨call_len_seq⟩
theorem c_list {KK : PySem.W.Frag} (hK : X.K = KK := by first | exact cxC_K | rfl) : SC X (.type "list") (fun xs H Q => ∃ p ys, xs = [.ref p] ∧ (SqL KK H p ys ∨ SqT KK H p ys) ∧ ∀ l, H l = none → Q (.ref l) (upd H l (.lst ys))) := by
  subst hK
  exact ⟨call_list_of⟩
theorem c_isi {KK : PySem.W.Frag} (hK : X.K = KK := by first | exact cxC_K | rfl) : SC X (.builtin "isinstance") (fun xs H Q => ∃ x n t b, xs = [x, .ty n] ∧ TyOf KK H x t ∧ PySem.W.kitOne KK t (.type n) = some b ∧ Q (.bl b) H) := by
  subst hK
  exact ⟨call_isi⟩
/-! targets -/
theorem gn (i : Nat) {x : Str} (hN : X.N.Nodup) (hi : X.N[i]? = some x := by rfl) (hx : Loc X.env.scope x := by first | exact Or.inl rfl | exact Or.inr rfl) (hf : X.fn x = true ∨ X.env.scope.names.lookup x = some .local := by first | exact .inl rfl | exact .inr rfl) : SG X (.Name x pos) (gName i) := ⟨pg_name hN hi hx hf⟩
theorem gsn : SGs X [] gNil := ⟨pgs_nil⟩
theorem gsk {t : TG} {u : TGs} (h1 : SG X e t) (h2 : SGs X es u) (hs : (assignEach (e :: es) X.env).map (·.2) = assign e X.env :: (assignEach es X.env).map (·.2) := by rfl) : SGs X (e :: es) (gCons t u) := ⟨pgs_cons h1.h h2.h hs⟩
theorem gtup {KK : PySem.W.Frag} {kk : Nat} {t : TGs} (m : Nat) (h : SGs X es t) (hc : X.calm = true := by rfl) (hn : (assignEach es X.env).length = m := by rfl) (hst : (assignEach es X.env).findIdx? (·.1) = none := by rfl) (hK : X.K = KK := by first | exact cxC_K | rfl) : SG X (.Tuple es kk pos) (gTup KK m t) := by
  subst hK
  exact ⟨pg_tup hc h.h hn hst⟩
theorem gset {cc : Const} {j : Nat} {p : Pos} (ho : SE X a ta) (hi : SE X (.Constant cc j p) tb) : SG X (.Subscript a (.Constant cc j p) pos) (gSub ta tb rSetL) := ⟨pg_sub ho.h hi.h set_list (fun _ => rfl)⟩
/-! what is walked -/
theorem iL {KK : PySem.W.Frag} {tg : Expr} (h : SE X a ta) (hK : X.K = KK := by first | exact cxC_K | rfl) : SI X tg a (iList KK ta) := by
  subst hK
  exact ⟨pi_list h.h⟩
theorem iT {KK : PySem.W.Frag} {tg : Expr} (h : SE X a ta) (hK : X.K = KK := by first | exact cxC_K | rfl) : SI X tg a (iTup KK ta) := by
  subst hK
  exact ⟨pi_tup h.h⟩
theorem iR {tg : Expr} {p : Pos} (hg : Gl X "range") (hm : X.mg "range" = none) (ha : SA X [a] t) : SI X tg (.Call (.Name "range" p) [a] [] pos) (iRng1 t) := ⟨xrange1 hg hm ha.h⟩
theorem if0 : SIf X [] tIf0 := ⟨pif0⟩
/-! comprehensions -/
theorem slc {tg iter elt : Expr} {ifs : List Expr} {sc : Scope} {wi : TI} {g : TG} {tifs : TT} {i : Nat} {x : Str} {pos' pos2 : Pos} (src : List (Option Nat)) (N' : List Str) (S : CompScope sc X.env.scope) (hcap : capsOk sc src N' X.N = true) (hi : SI X tg iter wi)
    (hb : ∀ s H C fp xe, SG (cxC X N' sc s H C fp xe) tg g ∧ SIf (cxC X N' sc s H C fp xe) ifs tifs ∧ SE (cxC X N' sc s H C fp xe) elt te) (hN : X.N.Nodup) (hix : X.N[i]? = some x := by rfl) (hx : Loc X.env.scope x := by exact Or.inl rfl)
    (hsw : swapsWith (.ListComp elt [⟨tg, iter, ifs, 0⟩] sc pos) (some (.Name x pos')) pos2.line X.env = pure true := by rfl) (hc : X.calm = true := by rfl)
    (hs : ∀ x, foldedSetIterable iter X.env x = pure x := by intro _; rfl) (hf : X.fn x = true ∨ X.env.scope.names.lookup x = some .local := by first | exact .inl rfl | exact .inr rfl) :
    SS X (.Assign [.Name x pos'] (.ListComp elt [⟨tg, iter, ifs, 0⟩] sc pos) pos2) (tAsg (tCompE src (.lst []) wi g tifs (mApp te)) (gName i)) :=
  ⟨ps_lc src N' hc S hcap hi.h (fun s H C fp xe => ⟨(hb s H C fp xe).1.h, (hb s H C fp xe).2.1.h, (hb s H C fp xe).2.2.h⟩) hN hix hx hsw hs hf⟩
/-! statements -/
variable {st : Stmt} {rest : List Stmt} {u1 u2 : TS}
theorem nil : SL X [] tNext := ⟨pss_nil⟩
theorem cons (h1 : SS X st u1) (h2 : SL X rest u2) : SL X (st :: rest) (tSeq u1 u2) := ⟨pss_cons h1.h h2.h⟩
theorem one (h1 : SS X st u1) : SL X [st] u1 := ⟨pss_one h1.h⟩
theorem ret (he : SE X e te) : SS X (.Return (some e) pos) (tRet te) := ⟨ps_ret he.h⟩
theorem ex (he : SE X e te) (hs : swapsWith e none pos.line X.env = pure false := by rfl) : SS X (.Expr e pos) (tDrop te) := ⟨ps_expr he.h hs⟩
theorem ifs {tc : TT} {x y : List Stmt} (hc : ST X c tc) (ha : SL X x u1) (hb : SL X y u2) : SS X (.If c x y pos) (tIfS tc u1 u2) := ⟨ps_if hc.h ha.h hb.h⟩
theorem set (i : Nat) {x : Str} {pos' : Pos} (hN : X.N.Nodup) (he : SE X e te) (hi : X.N[i]? = some x := by rfl) (hx : Loc X.env.scope x := by first | exact Or.inl rfl | exact Or.inr rfl) (hs : swapsWith e (some (.Name x pos')) pos.line X.env = pure false := by rfl) (hf : X.fn x = true ∨ X.env.scope.names.lookup x = some .local := by first | exact .inl rfl | exact .inr rfl) :
    SS X (.Assign [.Name x pos'] e pos) (tAsg te (gName i)) := ⟨ps_set hN hi hx he.h hs hf⟩
theorem asg {tg : Expr} {g : TG} (he : SE X e te) (hg : SG X tg g) (hs : swapsWithSole [tg] e pos.line X.env = pure false := by rfl) (hw : swappedStores [tg] e X.env = pure none := by rfl)
    (h1 : (assignEach [tg] X.env).map (·.2) = [assign tg X.env] := by rfl) : SS X (.Assign [tg] e pos) (tAsg te g) := ⟨ps_asg he.h hg.h hs hw h1⟩
theorem for_ {tg iter : Expr} {body : List Stmt} {wi : TI} {g : TG} (hi : SI X tg iter wi) (hg : SG X tg g) (hb : SL X body u1) (hp : PassesOwn (model X.prog X.w) X.A X.env X.xe := by exact PassesOwn.never) (hc : X.calm = true := by rfl)
    (hs : ∀ x, foldedSetIterable iter X.env x = pure x := by intro _; rfl) : SS X (.For tg iter body [] pos) (tFor wi g u1) := ⟨ps_for hp hc hi.h hg.h hb.h hs⟩
theorem run {ss : List Stmt} {u : TS} (h : SL X ss u) : PSs X ss u := h.h
end
end L3
set_option Elab.async false
set_option linter.all false
set_option maxRecDepth 100000
namespace L3
open PySem PySem.Spec PyProof.Rows L2
section
variable {X : Cx} {a b c e o : Expr} {es : List Expr} {ta tb tc te : TE} {t : TA} {tA uB : TT} {pos : Pos} {r : R2}
theorem neg (ha : SE X a ta) : SE X (.UnaryOp .USub a pos) (tUn (rU fun i => .int (-i)) ta) := ⟨pe_un un_neg ha.h⟩
theorem ntE (ha : SE X a ta) : SE X (.UnaryOp .Not a pos) (tNotV ta) := ⟨pe_not ha.h⟩
theorem andE2 {rest : List Expr} (ha : SE X a ta) (hb : SE X (.BoolOp .And (b :: rest) pos) tb) : SE X (.BoolOp .And (a :: b :: rest) pos) (tAndV ta tb) := ⟨pe_and ha.h hb.h⟩
theorem oneE {op} (ha : SE X a ta) : SE X (.BoolOp op [a] pos) ta := ⟨pe_one ha.h⟩
end
end L3
set_option Elab.async false
set_option linter.all false
set_option maxRecDepth 100000
namespace L2
open PySem PySem.Spec PyProof.Rows
/-! ### len(set(xs)), xs a list of unlike texts -/
def metS (nm : Nat → Str) (i : Nat) : Str → Bool := fun x => (List.range i).any fun j => decide (x = nm j)
theorem metS_succ (nm : Nat → Str) (i : Nat) (x : Str) : metS nm (i + 1) x = (metS nm i x || decide (x = nm i)) := by
  unfold metS
  rw [List.range_succ, List.any_append]
  simp
theorem metS_new {nm : Nat → Str} {n i : Nat} (inj : ∀ a b, a < n → b < n → nm a = nm b → a = b) (hi : i < n) : metS nm i (nm i) = false := by
  unfold metS
  rw [List.any_eq_false]
  intro j hj
  have hj' : j < i := List.mem_range.mp hj
  have : ¬ nm i = nm j := fun e => by have := inj i j hi (by omega) e; omega
  simpa using this
end L2
set_option Elab.async false
set_option linter.all false
set_option maxRecDepth 100000
namespace L2
open PySem PySem.Spec PyProof.Rows
section
variable {X : Cx} {a : Expr} {ta : TA} {p1 p2 pos pos2 : Pos}
theorem strs_at : ∀ {xs : List Str} {us : List Value} {i : Nat} {v : Value}, Vals (xs.map V.str) us → us[i]? = some v → ∃ t, v = Value.str (xs.getD i "") t
  | [], _, _, _, .nil, h => by simp at h
  | x :: r, _, 0, _, .cons q _, h => by
    obtain ⟨t, e⟩ := q
    simp at h
    subst h
    exact ⟨t, e⟩
  | x :: r, _, i + 1, v, .cons _ q, h => by
    obtain ⟨t, e⟩ := strs_at (xs := r) (i := i) q (by simpa using h)
    exact ⟨t, by simpa using e⟩
end
end L2
namespace L3
open PySem PySem.Spec PyProof.Rows L2
theorem sdc {X : Cx} {tg iter kx vx : Expr} {ifs : List Expr} {sc : Scope} {wi : TI} {g : TG} {tifs : TT} {tk tv : TE} {i : Nat} {x : Str} {pos pos' pos2 : Pos} (src : List (Option Nat)) (N' : List Str) (hu : X.A.units + 1 < cLine) (S : CompScope sc X.env.scope) (hcap : capsOk sc src N' X.N = true) (hi : SI X tg iter wi)
    (hb : ∀ s H C fp xe, SG (cxC X N' sc s H C fp xe) tg g ∧ SIf (cxC X N' sc s H C fp xe) ifs tifs ∧ SE (cxC X N' sc s H C fp xe) kx tk ∧ SE (cxC X N' sc s H C fp xe) vx tv) (hN : X.N.Nodup) (hix : X.N[i]? = some x := by rfl) (hx : Loc X.env.scope x := by exact Or.inl rfl)
    (hsw : swapsWith (.DictComp kx vx [⟨tg, iter, ifs, 0⟩] sc pos) (some (.Name x pos')) pos2.line X.env = pure true := by rfl) (hc : X.calm = true := by rfl)
    (hs : ∀ x, foldedSetIterable iter X.env x = pure x := by intro _; rfl) (hf : X.fn x = true ∨ X.env.scope.names.lookup x = some .local := by first | exact .inl rfl | exact .inr rfl) :
    SS X (.Assign [.Name x pos'] (.DictComp kx vx [⟨tg, iter, ifs, 0⟩] sc pos) pos2) (tAsg (tCompE src (.dT []) wi g tifs (mPut tk tv)) (gName i)) :=
  ⟨ps_comp ck_dict hc S hcap hi.h (fun s H C fp xe D => ⟨(hb s H C fp xe).1.h, (hb s H C fp xe).2.1.h, pm_put (X := cxC X N' sc s H C fp xe) hu (hb s H C fp xe).2.2.1.h (hb s H C fp xe).2.2.2.h D⟩) acc_dT hs (fun _ => rfl) hN hix hx hsw hf⟩
end L3
set_option Elab.async false
set_option linter.all false
set_option maxRecDepth 100000
namespace PySem
open Sem (wp)
/-! ### a zip whose tuple is handed out -/
end PySem
set_option Elab.async false
set_option linter.all false
set_option maxRecDepth 100000
namespace PySem
end PySem
set_option Elab.async false
set_option linter.all false
set_option maxRecDepth 100000
namespace L2
open PySem PySem.Spec PyProof.Rows
/-! ### dict(zip(a, b)), two lists of one length, the first of keys -/
end L2
set_option Elab.async false
set_option linter.all false
set_option maxRecDepth 100000
namespace L2
open PySem PySem.Spec PyProof.Rows
end L2
namespace L3
open PySem PySem.Spec PyProof.Rows L2
end L3
set_option Elab.async false
set_option linter.all false
set_option maxRecDepth 100000
namespace L2
open PySem PySem.Spec PyProof.Rows
end L2
namespace L3
open PySem PySem.Spec PyProof.Rows L2
section
variable {X : Cx} {a b c e o : Expr} {es : List Expr} {ta tb tc te : TE} {t : TA} {pos : Pos}
theorem while_ {cnd : Expr} {body : List Stmt} {tcn : TT} {u1 : TS} (hcn : ST X cnd tcn) (hb : SL X body u1) (hp : PassesOwn (model X.prog X.w) X.A X.env X.xe := by exact PassesOwn.never) : SS X (.While cnd body [] pos) (tWhile tcn u1) := ⟨ps_while hp hcn.h hb.h⟩
end
end L3
set_option Elab.async false
set_option linter.all false
set_option maxRecDepth 100000
/-! ### keys that are tuples with tuples within -/
namespace L2
open PySem PySem.Spec PyProof.Rows
end L2
set_option Elab.async false
set_option linter.all false
set_option maxRecDepth 100000
/-! ### a dict whose keys are tuples with tuples within -/
namespace L2
open PySem PySem.Spec PyProof.Rows
end L2
namespace L3
open PySem PySem.Spec PyProof.Rows L2
section
variable {X : Cx} {a b c e o : Expr} {es : List Expr} {ta tb tc te : TE} {t : TA} {pos pos' : Pos} {P : Program} {w : World}
theorem c_min (hc : X.calm = true := by rfl) : SC X (.builtin "min") (fun xs H Q => ∃ i j, xs = [.int i, .int j] ∧ Q (.int (if j < i then j else i)) H) := ⟨call_min2 hc⟩
end
end L3
set_option Elab.async false
set_option linter.all false
set_option maxRecDepth 100000
namespace L2
open PySem PySem.Spec PyProof.Rows
end L2
namespace L3
open PySem PySem.Spec PyProof.Rows L2
section
variable {X : Cx} {a b c e o : Expr} {es : List Expr} {ta tb tc te : TE} {t : TA} {pos : Pos}
theorem slL1 {KK : PySem.W.Frag} {p2 : Pos} (ha : SE X a ta) (hb : SE X b tb) (hK : X.K = KK := by first | exact cxC_K | rfl) : SE X (.Subscript a (.Slice (some b) none none p2) pos) (tSl (rSlL KK) ta (tPart tb) tNoPart) := by
  subst hK
  exact ⟨pe_slice sl_list ha.h (po_some hb.h) po_none⟩
end
end L3
set_option Elab.async false
set_option linter.all false
/-! ### runs of a step function -/
namespace TW
end TW
set_option Elab.async false
set_option linter.all false
set_option maxRecDepth 100000
namespace L2
open PySem PySem.Spec PyProof.Rows
end L2
namespace L3
open PySem PySem.Spec PyProof.Rows L2
end L3
set_option Elab.async false
set_option linter.all false
set_option maxRecDepth 100000
namespace L2
open PySem PySem.Spec PyProof.Rows SeqAt
end L2
namespace L3
open PySem PySem.Spec PyProof.Rows L2
end L3
set_option Elab.async false
set_option linter.all false
set_option maxRecDepth 100000
/-! ### exceptions: how one lies behind a call -/
namespace L2
open PySem PySem.Spec PyProof.Rows
theorem ObjOk.ex {P : Program} {w : World} {H : Hp} {h : Heap} {a : Addr} {o : HO} (x : ObjOk P w H h a o) : ∃ ob, h.get? a = some ob := by
  cases o with
  | lst xs => obtain ⟨_, _, _, _, e⟩ := x; exact ⟨_, e⟩
  | tup xs => obtain ⟨_, _, _, ob, e, _⟩ := x; exact ⟨ob, e⟩
  | dK kvs => obtain ⟨_, _, _, _, o, _, _, e, _⟩ := x; exact ⟨o, e⟩
  | dT kvs => obtain ⟨_, _, _, _, o, _, _, e, _⟩ := x; exact ⟨o, e⟩
  | set S n => obtain ⟨o, _, _, _, e, _⟩ := x; exact ⟨o, e⟩
  | ins C dx fs => obtain ⟨_, _, _, e, _⟩ := x; exact ⟨_, e⟩
  | own y => obtain ⟨ob, e⟩ := x; exact ⟨ob, e⟩
  | xd fs => obtain ⟨_, ⟨ob, _, _, e, _⟩, _⟩ := x; exact ⟨ob, e⟩
  | rng lo hi => obtain ⟨_, _, _, e⟩ := x; exact ⟨_, e⟩
  | frz ob u => obtain ⟨e, _⟩ := x; exact ⟨ob, e⟩
  | tbl ps => exact ⟨_, (show h.get? a = some _ from x)⟩
  | met f y => exact ⟨_, (show h.get? a = some _ from x)⟩
  | ext φ => obtain ⟨_, ⟨ob, e⟩, _⟩ := x; exact ⟨ob, e⟩
/-- an exception in flight: its class, what of the heap stands fast (all but the frames that run), the abstract heap behind it -/
def CX1 (P : Program) (w : World) (base : Heap) : CXT := fun outer H s E e s' => ∃ (ea : Addr) (cls a0 : Value) (B : Heap) (H' : Hp), e = .ref ea ∧ s'.os = s.os ∧ AllBare s'.gens ∧ Un (frs outer) [] H H' s.heap s'.heap ∧ HOk P w H' s'.heap ∧
  base.StaysIn B ∧ Heap.FlyingW B outer ea cls a0 s'.heap ∧ (∀ b o, s.heap.get? b = some o → b ∉ frs outer → ∃ o', B.get? b = some o') ∧ (∀ b u, H' b = some u → ∃ o, B.get? b = some o) ∧ s.heap.get? ea = none ∧ E cls none H'
section
variable {P : Program} {w : World} {K : PySem.W.Frag} {mg : Str → Option Value} {base : Heap} {N : List Str} {qual : Str} {scope : Scope} {f : Addr} {cd : Value} {A : Around} {outer : List Env} {s : Shared} {H : Hp} {E : XK}
theorem stays_hok {H1 : Hp} {h B g : Heap} (ok : HOk P w H1 h) (inB : ∀ b u, H1 b = some u → ∃ o, B.get? b = some o) (sb : B.StaysIn h) (sg : B.StaysIn g) : HOk P w H1 g := fun a u e => by
  refine (ok a u e).stay (fun b o hb q => ?_) (fun _ q => q) (fun _ _ q => q)
  have hb' : ∃ v, H1 b = some v := by
    rcases hb with rfl | hb
    · exact ⟨u, e⟩
    · exact ⟨_, hb⟩
  obtain ⟨v, hv⟩ := hb'
  obtain ⟨o', ho'⟩ := inB b v hv
  have := sb b o' ho'
  rw [q] at this
  cases this
  exact sg b o ho'
/-- an exception that was made here leaves the frame -/
theorem leave_made {pins : List (Addr × Obj)} {σ : St} {H1 : Hp} {s1 : Shared} {h' : Heap} {e : Addr} {cls : Value} {args : List Value} (I : Inv (cxOf (CX1 P w base) P w K mg base N qual scope f cd A outer s H E) pins σ H1 s1) (hx : Heap.MadeExcOf s1.heap h' e cls args) (q : E cls none H1) :
    (cxOf (CX1 P w base) P w K mg base N qual scope f cd A outer s H E).xe (.ref e) { s1 with heap := h' } := by
  have hstk : (cxOf (CX1 P w base) P w K mg base N qual scope f cd A outer s H E).stack = envOfC qual scope s.heap.objs.size f cd :: outer := rfl
  have fr : s1.heap.FunFrames base (envOfC qual scope s.heap.objs.size f cd :: outer) := I.stack
  have frf := I.stkFree
  rw [hstk] at frf
  have hbase : ∀ b o, base.get? b = some o → s1.heap.get? b = some o := I.bk
  have hun : Un (frs outer) [] H H1 s.heap s1.heap := I.base
  have hex : ∀ b : Addr, b ∉ ([] : List Addr) := fun b z => nomatch z
  have hloc : ∀ b o, s.heap.get? b = some o → b ∉ frs outer → b ∉ frs (envOfC qual scope s.heap.objs.size f cd :: outer) := fun b o hb hn hm => by
    rcases List.mem_cons.mp (show b ∈ s.heap.objs.size :: frs outer from hm) with z | z
    · exact absurd (Heap.lt_size hb) (by rw [z]; exact Nat.lt_irrefl _)
    · exact hn z
  let B := PySem.W.hideAll s1.heap (frs (envOfC qual scope s.heap.objs.size f cd :: outer))
  have bget : ∀ b o, s1.heap.get? b = some o → b ∉ frs (envOfC qual scope s.heap.objs.size f cd :: outer) → B.get? b = some o := fun b o hb hn => PySem.W.hideAll_get _ hb hn
  have bs1 : B.StaysIn s1.heap := fun b o hb => PySem.W.of_hideAll _ hb
  have stB : base.StaysIn B := fun b o hb => bget b o (hbase b o hb) fun hm => by
    have := (fr.mem hm).1
    rw [hb] at this
    cases this
  have frB : s1.heap.FunFrames B (envOfC qual scope s.heap.objs.size f cd :: outer) := PySem.W.funFrames_hide fr fun env he a ha => List.mem_filterMap.mpr ⟨env, he, ha⟩
  have trk : ∀ b u, H1 b = some u → ∃ o, B.get? b = some o := fun b u hu => by
    obtain ⟨o, ho⟩ := (I.hok b u hu).ex
    refine ⟨o, bget b o ho fun hm => ?_⟩
    rw [frf b hm] at hu
    cases hu
  refine wpAny_leaves_madeW (base := B) (h := s1.heap) (args := args) I.ok.frames rfl bs1 frB hx fun h2 t x1 x2 x3 x4 => ?_
  refine ⟨e, cls, .ref t, B, H1, rfl, I.os, I.bare, ⟨fun b o hb n hf _ => ?_, fun b o hb n hf _ => ?_, fun b o hb n _ => hun.free b o hb n (hex b), fun b o hb _ => ?_, hun.tups, hun.frzs, hun.tbls⟩, stays_hok I.hok trk bs1 x1.1, stB, x1, fun b o hb hf => ?_, trk, ?_, q⟩
  · exact x1.1 b o (bget b o (hun.keep b o hb n hf (hex b)) (hloc b o hb hf))
  · obtain ⟨sl, e1⟩ := hun.slot b o hb n hf (hex b)
    obtain ⟨_, o2, ho2, hd2⟩ := fr.mem (show b ∈ frs (envOfC qual scope s.heap.objs.size f cd :: outer) from List.mem_cons_of_mem _ hf)
    rw [e1] at ho2
    cases ho2
    obtain ⟨sl2, e2⟩ := x4 b _ (hx.keeps b _ e1) hd2
    exact ⟨sl2, e2⟩
  · obtain ⟨o1, e1⟩ := hun.there b o hb (hex b)
    by_cases hm : b ∈ frs (envOfC qual scope s.heap.objs.size f cd :: outer)
    · obtain ⟨_, o2, ho2, hd2⟩ := fr.mem hm
      obtain ⟨sl2, e2⟩ := x4 b _ (hx.keeps b _ ho2) hd2
      exact ⟨_, e2⟩
    · exact ⟨o1, x1.1 b o1 (bget b o1 e1 hm)⟩
  · obtain ⟨o1, e1⟩ := hun.there b o hb (hex b)
    exact ⟨o1, bget b o1 e1 (hloc b o hb hf)⟩
  · cases z : s.heap.get? e with
    | none => rfl
    | some o =>
      obtain ⟨o1, e1⟩ := hun.there e o z (hex e)
      rw [hx.new] at e1
      cases e1
/-- an exception of a callee leaves the frame -/
theorem pass1 {E' : XK} (hE : ∀ c d H2, E' c d H2 → E c d H2) : Passes (CX1 P w base) (cxOf (CX1 P w base) P w K mg base N qual scope f cd A outer s H E) E' := by
  intro pins σ H1 s1 e s2 I cx
  obtain ⟨ea, cls, a0, B, H2, rfl, os2, bare2, un2, hok2, stB, fly, inB, trk, nea, q⟩ := cx
  have hun : Un (frs outer) [] H H1 s.heap s1.heap := I.base
  have hex : ∀ b : Addr, b ∉ ([] : List Addr) := fun b z => nomatch z
  have hstk : (cxOf (CX1 P w base) P w K mg base N qual scope f cd A outer s H E).stack = envOfC qual scope s.heap.objs.size f cd :: outer := rfl
  rw [hstk] at fly un2 inB
  have hloc : ∀ b o, s.heap.get? b = some o → b ∉ frs outer → b ∉ frs (envOfC qual scope s.heap.objs.size f cd :: outer) := fun b o hb hn hm => by
    rcases List.mem_cons.mp (show b ∈ s.heap.objs.size :: frs outer from hm) with z | z
    · exact absurd (Heap.lt_size hb) (by rw [z]; exact Nat.lt_irrefl _)
    · exact hn z
  have fr2 := fly.2.2.1
  have sB2 := fly.1
  refine wpAny_leaves_onW I.ok.frames rfl fly fun h3 x1 x2 => ?_
  have inB0 : ∀ b o, s.heap.get? b = some o → b ∉ frs outer → ∃ o', B.get? b = some o' := fun b o hb hf => by
    obtain ⟨o1, e1⟩ := hun.there b o hb (hex b)
    exact inB b o1 e1 (hloc b o hb hf)
  refine ⟨ea, cls, a0, B, H2, rfl, os2.trans I.os, bare2, ⟨fun b o hb n hf _ => ?_, fun b o hb n hf _ => ?_, fun b o hb n _ => ?_, fun b o hb _ => ?_, fun b xs h => un2.tups b xs (hun.tups b xs h), fun b o u h => un2.frzs b o u (hun.frzs b o u h), fun b ps h => ?_⟩, stays_hok hok2 trk sB2 x1.1, stB, x1, inB0, trk, ?_, hE _ _ _ q⟩
  · have e1 := hun.keep b o hb n hf (hex b)
    have n1 := hun.free b o hb n (hex b)
    have e2 := un2.keep b o e1 n1 (hloc b o hb hf) (hex b)
    obtain ⟨o', ho'⟩ := inB0 b o hb hf
    have e3 := sB2 b o' ho'
    rw [e2] at e3
    cases e3
    exact x1.1 b o ho'
  · obtain ⟨sl, e1⟩ := hun.slot b o hb n hf (hex b)
    have n1 := hun.free b o hb n (hex b)
    obtain ⟨sl2, e2⟩ := un2.any e1 n1 (hex b)
    obtain ⟨_, o2, ho2, hd2⟩ := fr2.mem (show b ∈ frs (envOfC qual scope s.heap.objs.size f cd :: outer) from List.mem_cons_of_mem _ hf)
    rw [e2] at ho2
    cases ho2
    obtain ⟨sl3, e3⟩ := x2 b _ e2 hd2
    exact ⟨sl3, e3⟩
  · obtain ⟨o1, e1⟩ := hun.there b o hb (hex b)
    exact un2.free b o1 e1 (hun.free b o hb n (hex b)) (hex b)
  · obtain ⟨o1, e1⟩ := hun.there b o hb (hex b)
    obtain ⟨o2, e2⟩ := un2.there b o1 e1 (hex b)
    by_cases hm : b ∈ frs (envOfC qual scope s.heap.objs.size f cd :: outer)
    · obtain ⟨_, o3, ho3, hd3⟩ := fr2.mem hm
      obtain ⟨sl3, e3⟩ := x2 b _ ho3 hd3
      exact ⟨_, e3⟩
    · obtain ⟨o', ho'⟩ := inB b o1 e1 hm
      exact ⟨o', x1.1 b o' ho'⟩
  · obtain ⟨m1, e1⟩ := hun.tbls b ps h
    obtain ⟨m2, e2⟩ := un2.tbls b _ e1
    exact ⟨m1 ++ m2, by rw [e2, Array.append_assoc]⟩
  · cases z : s.heap.get? ea with
    | none => rfl
    | some o =>
      obtain ⟨o1, e1⟩ := hun.there ea o z (hex ea)
      rw [nea] at e1
      cases e1
end
end L2
set_option Elab.async false
set_option linter.all false
set_option maxRecDepth 100000
/-! ### own refusals: their classes, texts with parts, raise -/
namespace L2
open PySem PySem.Spec PyProof.Rows
abbrev vE : List Value := [.type "ValueError", .type "Exception", .type "BaseException", .type "object"]
def clsMro (K : PySem.W.Frag) (C : Addr) : Option (List Value) := match K.lookup C with
  | some ⟨_, _, .cls cd, _⟩ => some cd.mro
  | _ => none
/-- the class at C, named x, its line of classes behind itself -/
structure Xc (K : PySem.W.Frag) (mg : Str → Option Value) (x : Str) (C : Addr) (tl : List Value) : Prop where
  m : mg x = some (.ref C)
  ex : PySem.W.excIn K C vE "ValueError.__new__" = true
  mro : clsMro K C = some (.ref C :: tl)
theorem Xc.obj {K : PySem.W.Frag} {mg : Str → Option Value} {x : Str} {C : Addr} {tl : List Value} {h : Heap} (c : Xc K mg x C tl) (hk : K.In h) :
    ∃ N nm q bs hdct sn sub ab col dd k0 k1 k2 k3 k5 mN, h.get? C = some (excClassObj nm q C N bs tl hdct sn sub ab col dd k0 k1 k2 k3 k5 "ValueError.__new__") ∧ h.Ns N mN ∧ mN "__init__" = none ∧ OwnTail h vE tl := by
  have q := c.ex
  have m := c.mro
  unfold PySem.W.excIn at q
  unfold clsMro at m
  split at q
  · rename_i od cd sl look
    rw [look] at m
    split at q
    · rename_i C' bm k0 k1 k2 k3 n k5 hm hs
      simp only [Bool.and_eq_true, beq_iff_eq, Bool.not_eq_true'] at q
      obtain ⟨⟨⟨⟨⟨z1, z2⟩, hdel⟩, ht⟩, hok⟩, hni⟩ := q
      subst z1 z2
      have m2 : cd.mro = .ref C' :: tl := by injection m
      rw [hm] at m2
      have e1 : bm = tl := by injection m2
      subst e1
      obtain ⟨nm, bs, mro, ns, qn, hd, sn, sub, ab, col, del⟩ := cd
      dsimp only at hm hdel hok hni
      subst hm hdel
      have hsl : sl = #[k0, k1, k2, k3, some (.builtin "ValueError.__new__"), k5] := by
        obtain ⟨l⟩ := sl
        simp only at hs
        rw [hs]
      subst hsl
      exact ⟨ns, nm, qn, bs, hd, sn, sub, ab, col, od, k0, k1, k2, k3, k5, _, hk _ _ look, .of_isNs (PySem.W.isNs_of_in hk hok), PySem.W.nsMap_none_of_in hk hok hni, PySem.W.tail_of_in hk ht⟩
    · cases q
  · cases q
/-! texts with parts -/
abbrev TF := St → Hp → (Hp → Prop) → Prop
def PF (X : Cx) (parts : List Expr) (n : Nat) (t : TF) : Prop := ∀ (pins : List (Addr × Obj)) (s : Shared) (σ : St) (H : Hp) (acc : Str) (k : Hp → Prop), Inv X pins σ H s → t σ H k → acc.length + n * 2000 ≤ sizeLine →
  Joins (model X.prog X.w) X.A X.xe (evalEach parts X.env) acc (fun out s1 => out.length ≤ sizeLine ∧ ∃ H', Inv X pins σ H' s1 ∧ k H') s
/-- a part: a whole number that is not too long, or a text -/
def fOk (x : V) : Prop := (∃ i, x = .int i ∧ i.natAbs.log2 < 1920) ∨ ∃ y : Str, x = .str y ∧ y.length ≤ 2000
section
variable {X : Cx} {a : Expr} {ps : List Expr} {n : Nat} {t : TF} {te : TE} {pos : Pos}
theorem pf_nil : PF X [] 0 (fun _ H k => k H) := fun pins s σ H acc k I h hl => ⟨by omega, H, I, h⟩
theorem pf_str {x : Str} {j} (hx : x.length ≤ 2000) (hr : PF X ps n t) : PF X (.Constant (.str x) j pos :: ps) (n + 1) t := by
  intro pins s σ H acc k I h hl
  have hp := pe_str (X := X) (x := x) (j := j) (pos := pos) pins s σ H (fun v H1 => v = .str x ∧ H1 = H) I ⟨rfl, rfl⟩
  refine thn hp fun u s1 ⟨v, H1, I1, rv, e1, e2⟩ => ?_
  subst e1 e2
  obtain ⟨tk, rfl⟩ := rv
  have hlen : (acc ++ x).length = acc.length + x.length := strLen_append ..
  exact ⟨x, tk, rfl, by omega, hr pins s1 σ H1 (acc ++ x) k I1 h (by omega)⟩
theorem pf_val (ha : PE X a te) (hr : PF X ps n t) : PF X (.FormattedValue a (-1) none pos :: ps) (n + 1) (fun σ H k => te σ H fun x H1 => fOk x ∧ t σ H1 k) := by
  intro pins s σ H acc k I h hl
  refine FormattedValue_plain (thn (ha pins s σ H _ I h) fun u s1 ⟨v, H1, I1, rv, fo, q⟩ => ?_)
  rcases fo with ⟨i, rfl, hi⟩ | ⟨y, rfl, hy⟩
  · obtain ⟨tk, rfl⟩ := rv
    refine formatField_int_small hi ?_
    have h1 := int_text_length_le (k := 1920) (by decide) hi
    have h2 : (Str.ofString (toString i)).length ≤ 1921 := by rw [PySem.ofString_length]; exact h1
    have hlen : (acc ++ Str.ofString (toString i)).length = acc.length + (Str.ofString (toString i)).length := strLen_append ..
    exact ⟨Str.ofString (toString i), _, rfl, by omega, hr pins _ σ H1 _ k ((I1.tok _).tok _) q (by omega)⟩
  · obtain ⟨tk, rfl⟩ := rv
    refine formatField_str (fun t' tk' => ?_) (Nat.le_trans hy (by decide))
    have hlen : (acc ++ y).length = acc.length + y.length := strLen_append ..
    exact ⟨y, _, rfl, by omega, hr pins _ σ H1 _ k (I1.tok _) q (by omega)⟩
theorem pe_fstr {v1 v2 : Expr} (h : PF X (v1 :: v2 :: ps) n t) (hn : n ≤ 1000) : PE X (.JoinedStr (v1 :: v2 :: ps) pos) (fun σ H Q => t σ H fun H1 => ∀ x, Q (.str x) H1) := by
  intro pins s σ H Q I hq
  refine PySem.wpAny_JoinedStr ?_
  have hz : (Str.empty : Str).length + n * 2000 ≤ sizeLine := by
    have : (Str.empty : Str).length = 0 := rfl
    have : (2000000 : Nat) ≤ sizeLine := by decide
    omega
  have j := h pins s σ H Str.empty _ I hq hz
  have go : ∀ (l : List (Sem Value)) (acc : Str) (s : Shared), Joins (model X.prog X.w) X.A X.xe l acc (fun out s1 => out.length ≤ sizeLine ∧ ∃ H', Inv X pins σ H' s1 ∧ ∀ x, Q (.str x) H') s → Joins (model X.prog X.w) X.A X.xe l acc (fun out s1 => out.length ≤ sizeLine ∧ EP X pins σ Q (.str out s1.toks) { s1 with toks := s1.toks + 1 }) s := by
    intro l
    induction l with
    | nil =>
      rintro acc s ⟨h1, H', I', q⟩
      exact ⟨h1, .str acc, H', I'.tok _, ⟨_, rfl⟩, q acc⟩
    | cons x l ih =>
      intro acc s hj
      exact thn hj fun u s1 ⟨y, tk, e, hl, r⟩ => ⟨y, tk, e, hl, ih _ _ r⟩
  exact go _ _ _ j
/-! raise C(a) -/
def tRaise (Ex : XK) (C : Addr) (ta : TA) : TS := fun _ σ H => ta σ H fun vs H1 => ∃ v, vs = [v] ∧ Ex (.ref C) none H1
def RaisesIn (X : Cx) (Ex : XK) : Prop := ∀ {pins : List (Addr × Obj)} {σ : St} {H : Hp} {s : Shared} {h' : Heap} {e : Addr} {cls : Value} {args : List Value}, Inv X pins σ H s → Heap.MadeExcOf s.heap h' e cls args → Ex cls none H → X.xe (.ref e) { s with heap := h' }
theorem ps_raise {x : Str} {C : Addr} {tl : List Value} {Ex : XK} {ta : TA} {np cpos : Pos} (hx : RaisesIn X Ex) (c : Xc X.K X.mg x C tl) (hb : tl.contains (.type "BaseException") = true) (hg : Gl X x) (hc : X.calm = true) (ha : PAs X [a] ta) (hd : (x == ("__debug__" : Str)) = false := by decide) :
    PS X (.Raise (some (.Call (.Name x np) [a] [] cpos)) none pos) (tRaise Ex C ta) := by
  intro pins s σ H D I h
  obtain ⟨N, nm, q, bs, hdct, sn, sub, ab, col, dd, k0, k1, k2, k3, k5, mN, hC, hN, hni, T⟩ := c.obj I.ok.mod.kin
  refine wpAny_Raise_call_subT (C := C) (nm := nm) (q := q) (N := N) (bs := bs) (bm := tl) (hdct := hdct) (sn := sn) (sub := sub) (ab := ab) (col := col) (dd := dd) (k0 := k0) (k1 := k1) (k2 := k2) (k3 := k3) (k5 := k5) PySem.F.excBase_ValueError (mN := mN) hb (I.ok.hd hc)
    (by rw [(ha.ns a [] rfl).1.h [] X.env]; exact (ha.ns a [] rfl).2 cpos X.env) hni (ld_glob I hg c.m ⟨rfl, ?_⟩ hd)
  have he := (ha.ns a [] rfl).1.h [] X.env
  have h2 := ha.pa cpos pins s σ H _ I h
  rw [he] at h2 ⊢
  refine Calls.evalArgs_plain (thn h2 fun us s2 ⟨vs, H1, I1, r, v, ev, q1⟩ => ⟨rfl, ?_, I1.bk _ _ hC, hN.keeps I1.bk, T.keeps I1.bk, fun h' e hm => hx I1 hm q1⟩)
  have h1 := r.length
  rw [ev] at h1
  show us.length ≤ sizeLine
  rw [← h1]
  exact (by decide : 1 ≤ sizeLine)
end
end L2
set_option Elab.async false
set_option linter.all false
set_option maxRecDepth 100000
namespace L2
open PySem PySem.Spec PyProof.Rows PySem.W PySem.Builtin PySem.Builtin.ObjectAttr PySem.Builtin.Getset_descriptor
section
variable {prog : Program} {w : World} {A : Around} {E : Value → Shared → Prop} {s : Shared} {K : Frag} {x C : Addr} {ox : Obj}
def ExAt (x C : Addr) (h : Heap) : Prop := ∃ o, h.get? x = some o ∧ o.cls = .ref C
theorem ExAt.ty {x C : Addr} {h : Heap} {M : Model} (p : ExAt x C h) : Looks M h (typeOf (.ref x)) (.ref C) := by
  obtain ⟨o, h1, h2⟩ := p
  exact h2 ▸ (Looks.ld h1).andThen .now
theorem exc_get {R : Result → Shared → Prop} {tp : Value} (X : K.In s.heap) (I : ExAt x C s.heap) (hm : mroIn K C (.type "object") = some true)
    (h : R (.ok (.ret (.ref C))) s) : codeAny (model prog w) A (.call (.builtin "getset_descriptor.__get__") ⟨[.builtin "object.__class__", .ref x, tp], []⟩) R s := by
  obtain ⟨hh, g, dr, t, os⟩ := s
  have q0 := I.ty (M := model prog w)
  have q1 := looks_mroIn (M := model prog w) X hm
  refine codeAny_call_builtin KF.slot_gs.plain KF.entry_gs (KF.slot_gs.check _ _ _ _ _ _ _ _ KF.type_class (KF.args_gs _ _ _) ?_)
  unfold Builtin.«getset_descriptor.__get__» descrGet
  rw [dga_obj]
  refine wpAny_bind (wpAny_pure ?_)
  unfold descrGetter descrCheckInstance descrNameAndClass isInstance
  simp only [KF.owner_class]
  repeat lk
  refine ⟨Code.quiet_builtin _ (by decide +kernel), codeAny_builtin KF.entry_class ?_⟩
  unfold Builtin.«object.__class__» shownTypeOf
  repeat lk
  exact h
theorem exc_entry {tk : Tok} {P : Value → Shared → Prop} (X : K.In s.heap) (I : ExAt x C s.heap) (ha : findIn K (.ref C) "__class__" = some (some (.builtin "object.__class__"))) (hn : specialIn K (.builtin "object.__class__") "__get__" = some (some (.builtin "getset_descriptor.__get__")))
    (htk : takesIn K (.builtin "object.__class__") = some true) (hm : mroIn K C (.type "object") = some true) (h : P (.ref C) s) :
    wpAny (model prog w) A (Builtin.«object.__getattribute__» ⟨[.ref x, .str "__class__" tk], []⟩) (fun fin s' => ∃ v, fin = .done (.ret v) ∧ P v s') E s := by
  obtain ⟨hh, g, d, t, os⟩ := s
  have l0 := I.ty (M := model prog w)
  have l1 := looks_findIn (M := model prog w) X ha
  have l2 := looks_specialIn (M := model prog w) X hn
  have l3 := looks_takesIn (M := model prog w) X htk
  unfold Builtin.«object.__getattribute__»
  refine wpAny_bind (wpAny_pure ?_)
  dsimp only
  refine wpAny_bind (wpAny_pure ?_)
  refine wpAny_bind (l0.at ?_)
  refine wpAny_bind ?_
  unfold Builtin.ObjectAttr.find
  refine wpAny_bind (l1.at ?_)
  refine wpAny_bind (l2.at ?_)
  refine wpAny_bind (wpAny_bind (l3.at ?_))
  rw [if_pos rfl]
  refine wpAny_pure ?_
  refine wpAny_bind (wpAny_rule (wpAny_pure ?_))
  show wpAny _ _ (Builtin.ObjectAttr.bindTo (.builtin "getset_descriptor.__get__") (.builtin "object.__class__") (.ref x) (.ref C)) _ _ _
  unfold Builtin.ObjectAttr.bindTo
  dsimp only
  refine wpAny_bind (wpAny_holding (wpAny_call (exc_get X I hm ?_)))
  exact wpAny_pure ⟨_, rfl, h⟩
theorem exc_check {M : Model} {nameV : Value} {Q : Unit → Shared → Prop} (X : K.In s.heap) (I : ExAt x C s.heap) (hb : mroIn K C (.type "BaseException") = some true) (h : Q () s) :
    wpAny M A (checkBuiltinCall "BaseException.__getattribute__" ⟨[.ref x, nameV], []⟩) Q E s := by
  obtain ⟨hh, g, d, t, os⟩ := s
  have l0 := I.ty (M := M)
  have l1 := looks_mroIn (M := M) X hb
  have kd : builtinKind "BaseException.__getattribute__" = some .slot := by decide +kernel
  have sp : splitId "BaseException.__getattribute__" = some ("BaseException", "__getattribute__") := by decide +kernel
  have ar := F.args_bexc_ga (.ref x) nameV
  simp only [checkBuiltinCall, kd, sp]
  unfold isInstance
  refine wpAny_bind (wpAny_bind (l0.at (l1.at ?_)))
  repeat (first | exact h | assumption | wp_step)
theorem exc_class {Q : Option Value → Shared → Prop} (X : K.In s.heap) (I : ExAt x C s.heap) (hga : findIn K (.ref C) "__getattribute__" = some (some (.builtin "BaseException.__getattribute__"))) (hgn : findIn K (.ref C) "__getattr__" = some none)
    (ha : findIn K (.ref C) "__class__" = some (some (.builtin "object.__class__"))) (hn : specialIn K (.builtin "object.__class__") "__get__" = some (some (.builtin "getset_descriptor.__get__"))) (htk : takesIn K (.builtin "object.__class__") = some true)
    (hm : mroIn K C (.type "object") = some true) (hb : mroIn K C (.type "BaseException") = some true) (h : Q (some (.ref C)) { s with toks := s.toks + 1 }) :
    wpAny (model prog w) A (getAttr? (.ref x) "__class__") Q E s := by
  obtain ⟨hh, g, d, t, os⟩ := s
  have l0 := I.ty (M := model prog w)
  have l1 := looks_findIn (M := model prog w) X hga
  have l2 := looks_findIn (M := model prog w) X hgn
  unfold getAttr? getAttrBy? getAttrBy
  refine wpAny_bind (wpAny_mkText (wpAny_bind (wpAny_attempt (wpAny_holding (wpAny_bind (l0.at (wpAny_bind (l1.at ?_))))))))
  dsimp only
  rw [if_neg (fun z => by rw [show (Value.builtin "BaseException.__getattribute__" == Value.builtin "object.__getattribute__") = false by decide +kernel, Bool.and_false] at z; cases z)]
  unfold getAttrByItsOwn hookBefore
  rw [if_pos (show onTheHeap (Value.ref C) = true by rfl)]
  refine wpAny_bind (l2.at ?_)
  refine wpAny_bind (wpAny_attempt (wpAny_holding ?_))
  show wpAny _ _ (boundAndCalled (.builtin "BaseException.__getattribute__") (.ref x) (.str "__class__" t)) _ _ _
  unfold boundAndCalled
  rw [F.attr_ValueError.ga.bind (.ref x)]
  refine wpAny_bind (wpAny_pure ?_)
  refine wpAny_call (codeAny_call_builtin F.attr_ValueError.ga.plain F.entry_bexc_ga (exc_check (s := ⟨hh, g, d, t + 1, os⟩) X I hb ?_))
  refine wpAny_mono (exc_entry (s := ⟨hh, g, d, t + 1, os⟩) X I ha hn htk hm (P := fun v s' => v = .ref C ∧ s' = ⟨hh, g, d, t + 1, os⟩) ⟨rfl, rfl⟩) (fun fin s' z => ?_) fun _ _ z => z
  obtain ⟨v, rfl, rfl, rfl⟩ := z
  show wpAny (model prog w) A (handedOut (.ref C)) _ _ _
  exact handed_on rfl (wpAny_pure h)
/-- what must be known of the class of a refusal that is asked for its class -/
structure XcK (K : Frag) (C : Addr) : Prop where
  ga : findIn K (.ref C) "__getattribute__" = some (some (.builtin "BaseException.__getattribute__"))
  gn : findIn K (.ref C) "__getattr__" = some none
  ha : findIn K (.ref C) "__class__" = some (some (.builtin "object.__class__"))
  hn : specialIn K (.builtin "object.__class__") "__get__" = some (some (.builtin "getset_descriptor.__get__"))
  htk : takesIn K (.builtin "object.__class__") = some true
  hm : mroIn K C (.type "object") = some true
  hb : mroIn K C (.type "BaseException") = some true
  hc : (clsIn K C).isSome = true
theorem kitx_exc (k : XcK K C) : KitX K (.ref x) (.ref C) (ExAt x C) where
  ty := fun _ _ _ I => I.ty
  it := fun _ _ X _ => by
    obtain ⟨cd, e⟩ := Option.isSome_iff_exists.mp k.hc
    unfold clsIn at e
    split at e
    · rename_i c' d' cd' sl' look
      intro A' Q' E' s' st q
      unfold isType loadHead
      exact wpAny_bind (wpAny_loadPart (st _ _ (X _ _ look)) (wpAny_pure q))
    · cases e
  ne := fun h tp dd its n sl X htp => by
    obtain ⟨cd, e⟩ := Option.isSome_iff_exists.mp k.hc
    refine Bool.eq_false_iff.mpr fun q => ?_
    have z : C = tp := Value.ref.inj (beq_iff_eq.mp q)
    subst z
    unfold clsIn at e
    split at e
    · rename_i c' d' cd' sl' look
      have y := (X _ _ look).symm.trans htp
      cases y
    · cases e
  ca := fun X I q => exc_class X I k.ga k.gn k.ha k.hn k.htk k.hm k.hb q
end
end L2
set_option Elab.async false
set_option linter.all false
set_option maxRecDepth 100000
/-! ### an exception is caught -/
namespace L2
open PySem PySem.Spec PyProof.Rows
theorem un_stays {fs : List Addr} {H1 H2 : Hp} {h1 h2 h3 B : Heap} (u : Un fs [] H1 H2 h1 h2) (s2 : B.StaysIn h2) (s3 : B.StaysIn h3) (inB : ∀ b o, h1.get? b = some o → b ∉ fs → ∃ o', B.get? b = some o')
    (sl : ∀ b o, b ∈ fs → h2.get? b = some o → ∃ x, h3.get? b = some { o with slots := x }) : Un fs [] H1 H2 h1 h3 := by
  have hex : ∀ b : Addr, b ∉ ([] : List Addr) := fun b z => nomatch z
  refine ⟨fun b o hb n hf _ => ?_, fun b o hb n hf _ => ?_, fun b o hb n _ => u.free b o hb n (hex b), fun b o hb _ => ?_, u.tups, u.frzs, u.tbls⟩
  · have e2 := u.keep b o hb n hf (hex b)
    obtain ⟨o', ho'⟩ := inB b o hb hf
    have e3 := s2 b o' ho'
    rw [e2] at e3
    cases e3
    exact s3 b o ho'
  · obtain ⟨x, e2⟩ := u.slot b o hb n hf (hex b)
    obtain ⟨y, e3⟩ := sl b _ hf e2
    exact ⟨y, e3⟩
  · by_cases hm : b ∈ fs
    · obtain ⟨o2, e2⟩ := u.there b o hb (hex b)
      obtain ⟨y, e3⟩ := sl b _ hm e2
      exact ⟨_, e3⟩
    · obtain ⟨o', ho'⟩ := inB b o hb hm
      exact ⟨o', s3 b o' ho'⟩
theorem slots_of {h2 h3 B : Heap} {l : List Env} (fr : h2.FunFrames B l) (x : h2.UpToSlots h3) : ∀ b o, b ∈ frs l → h2.get? b = some o → ∃ y, h3.get? b = some { o with slots := y } := fun b o hm ho => by
  obtain ⟨_, o2, ho2, hd2⟩ := fr.mem hm
  rw [ho] at ho2
  cases ho2
  exact x b o ho hd2
/-- the refusal at ea, of the class at C -/
def exO (ea C : Addr) : HO := .ext (ExAt ea C)
theorem exO_ok {P : Program} {w : World} {H : Hp} {h : Heap} {ea C : Addr} (x : ExAt ea C h) : ObjOk P w H h ea (exO ea C) := by
  obtain ⟨o, h1, h2⟩ := id x
  exact ⟨x, ⟨o, h1⟩, fun g1 g2 ⟨o', a, b⟩ k => ⟨o', k _ a, b⟩⟩
section
variable {X : Cx} {pins : List (Addr × Obj)} {σ : St} {H : Hp} {s : Shared} {ea C : Addr}
/-- the caught refusal is tracked -/
theorem Inv.track (I : Inv X pins σ H s) (n : H ea = none) (x : ExAt ea C s.heap) (n0 : X.s₀.heap.get? ea = none) (nl : ea ≠ X.env.locals) (nc : ∀ y c, X.env.cells.lookup y = some c → c ≠ ea) (np : ∀ p ∈ X.pn ++ pins, p.1 ≠ ea) : Inv X pins σ (upd H ea (exO ea C)) s := by
  have ne : ∀ b u, H b = some u → b ≠ ea := fun b u e z => by rw [z, n] at e; cases e
  have k : ∀ b u, H b = some u → (upd H ea (exO ea C)) b = some u := fun b u e => by rw [upd_ne (ne b u e)]; exact e
  refine ⟨I.ok, I.os, I.bare, ⟨I.base.keep, I.base.slot, fun b o e m hx => ?_, I.base.there, fun b xs e => k _ _ (I.base.tups b xs e), fun b o u e => k _ _ (I.base.frzs b o u e), fun b ps e => ?_⟩, I.loc, I.cell, ?_, fun y c e => ?_, fun p hp => ?_, fun b u e => ?_, I.len⟩
  · rw [upd_ne (fun z => by rw [z, n0] at e; cases e)]
    exact I.base.free b o e m hx
  · obtain ⟨more, e1⟩ := I.base.tbls b ps e
    exact ⟨more, k _ _ e1⟩
  · rw [upd_ne (Ne.symm nl)]
    exact I.free
  · rw [upd_ne (nc y c e)]
    exact I.freeC y c e
  · obtain ⟨a1, a2, a3, a4, a5⟩ := I.pin p hp
    exact ⟨a1, by rw [upd_ne (np p hp)]; exact a2, a3, a4, a5⟩
  · by_cases hb : b = ea
    · subst hb
      rw [upd_same] at e
      cases e
      exact exO_ok x
    · rw [upd_ne hb] at e
      exact (I.hok b u e).stay (fun c v _ q => q) (fun c q => k _ _ q) fun c xs q => k _ _ q
end
section
variable {M : Model} {A : Around} {E : Value → Shared → Prop} {s : Shared} {nm q : Str} {C N : Addr} {bs bm : List Value} {hdct : Bool} {sn : List Str} {sub : List Value} {ab : Bool} {col : Option Bool} {dd : Option Addr} {k0 k1 k2 k3 k5 : Option Value} {newId : String}
  {nm' q' : Str} {T N' : Addr} {bs' bm' : List Value} {hdct' : Bool} {sn' : List Str} {sub' : List Value} {ab' : Bool} {col' : Option Bool} {dd' : Option Addr} {j0 j1 j2 j3 j5 : Option Value} {newId' : String}
/-- except T: one of a class below T -/
theorem matches_up {h : Heap} {g : Array GenState} {d : Drawn} {t : Nat} {os : OsState} {e : Addr} {oe : Obj} {Q : Bool → Shared → Prop} (hC : h.get? C = some (excClassObj nm q C N bs bm hdct sn sub ab col dd k0 k1 k2 k3 k5 newId)) (hT : h.get? T = some (excClassObj nm' q' T N' bs' bm' hdct' sn' sub' ab' col' dd' j0 j1 j2 j3 j5 newId'))
    (he : h.get? e = some oe) (hcls : oe.cls = .ref C) (hup : (Value.ref C :: bm).contains (.ref T) = true) (hbase : bm'.contains (.type "BaseException") = true) (hq : Q true ⟨h, g, d, t, os⟩) : wpAny M A (excMatches (.ref e) (.ref T)) Q E ⟨h, g, d, t, os⟩ := by
  have hcB : (Value.ref T :: bm').contains (.type "BaseException") = true := by rw [List.contains_cons, hbase, Bool.or_true]
  have f := tc_notTuple
  unfold excMatches
  repeat (first | (with_reducible refine wpAny_loadPart_at he ?_; rw [hcls]) | with_reducible refine wpAny_loadPart_at hT ?_ | (with_reducible refine wpAny_isSubtype_exc hT ?_; rw [hcB]) | (with_reducible refine wpAny_isSubtype_exc hC ?_; rw [hup]) | wp_step)
  exact hq
end
end L2
set_option Elab.async false
set_option linter.all false
set_option maxRecDepth 100000
/-! ### try .. except T as e: c = e -/
namespace L2
open PySem PySem.Spec PyProof.Rows
section
variable {X : Cx} {pins : List (Addr × Obj)} {σ : St} {H : Hp} {s : Shared}
theorem Inv.forget {σ' : St} {h' : Heap} {t' : Nat} {m : Str → Option Value} {en : Str} {v : Option Value} (I : Inv X pins σ H s) (hm : ∀ (i : Nat) (x : Str) (v : V), X.N[i]? = some x → σ[i]? = some (some v) → Vis X.env.scope x → ∃ u, RelV v u ∧ Look X.env s.heap m x u)
    (hn' : h'.Ns X.env.locals (fun x => if x = en then v else m x)) (hs : Heap.SameBut X.env.locals s.heap h') (hl : σ'.length = σ.length) (hw : ∀ (i : Nat) v, σ'[i]? = some (some v) → σ[i]? = some (some v) ∧ X.N[i]? ≠ some en) : Inv X pins σ' H { s with heap := h', toks := t' } := by
  have neL : ∀ b o, X.s₀.heap.get? b = some o → b ≠ X.env.locals := fun b o e => Nat.ne_of_lt (Nat.lt_of_lt_of_le (Heap.lt_size e) I.ok.above)
  refine ⟨I.ok, I.os, I.bare, ⟨fun b o e n hb hx => ?_, fun b o e n hb hx => ?_, I.base.free, fun b o e hx => ?_, I.base.tups, I.base.frzs, I.base.tbls⟩, ⟨_, hn', fun j y v' e1 e2 e3 => ?_⟩, fun y c e => ?_, I.free, I.freeC, fun p hp => ?_, fun b u e => ?_, hl.trans I.len⟩
  · exact (hs.2 b (neL b o e)).trans (I.base.keep b o e n hb hx)
  · obtain ⟨sl, e1⟩ := I.base.slot b o e n hb hx
    exact ⟨sl, (hs.2 b (neL b o e)).trans e1⟩
  · obtain ⟨o', e1⟩ := I.base.there b o e hx
    exact ⟨o', (hs.2 b (neL b o e)).trans e1⟩
  · obtain ⟨w1, w2⟩ := hw j v' e2
    obtain ⟨u, r, l⟩ := hm j y v' e1 w1 e3
    refine ⟨u, r, ?_⟩
    rcases l with ⟨k, e⟩ | ⟨k, c, e, z⟩
    · refine .inl ⟨k, ?_⟩
      have : y ≠ en := fun z => w2 (by rw [e1, z])
      show (if y = en then v else m y) = some u
      rw [if_neg this]
      exact e
    · exact .inr ⟨k, c, e, z.sameBut hs (I.cne y c e)⟩
  · obtain ⟨w', z⟩ := I.cell y c e
    exact ⟨w', z.sameBut hs (I.cne y c e)⟩
  · obtain ⟨e, n, ne, nf, d⟩ := I.pin p hp
    exact ⟨(hs.2 p.1 ne).trans e, n, ne, nf, d⟩
  · have hfree := I.free
    refine (I.hok b u e).stay (fun c w' hc q => (hs.2 c ?_).trans q) (fun _ q => q) fun _ _ q => q
    intro z
    rcases hc with hc | hc
    · rw [hc] at z
      rw [z, hfree] at e
      cases e
    · rw [z, hfree] at hc
      cases hc
/-- the same state seen from a context that has other wishes -/
theorem Inv.other {W : Value → Shared → Prop} {pn pins' : List (Addr × Obj)} (I : Inv X pins σ H s) (h : ∀ p ∈ pn ++ pins', p ∈ X.pn ++ pins) : Inv { X with xe := W, pn := pn } pins' σ H s :=
  ⟨⟨I.ok.mod, I.ok.kind, I.ok.glob, I.ok.blt, I.ok.above, I.ok.inj, I.ok.has, I.ok.cab, I.ok.hd, I.ok.frames, I.ok.stk, I.ok.exf, I.ok.bs, I.ok.bsz, I.ok.noex, I.ok.exfs, I.ok.funs, I.ok.frf⟩, I.os, I.bare, I.base, I.loc, I.cell, I.free, I.freeC, fun p hp => I.pin p (h p hp), I.hok, I.len⟩
theorem Inv.back {W : Value → Shared → Prop} {pn pins' : List (Addr × Obj)} (I : Inv { X with xe := W, pn := pn } pins' σ H s) (h : ∀ p ∈ X.pn ++ pins, p ∈ pn ++ pins') : Inv X pins σ H s :=
  ⟨⟨I.ok.mod, I.ok.kind, I.ok.glob, I.ok.blt, I.ok.above, I.ok.inj, I.ok.has, I.ok.cab, I.ok.hd, I.ok.frames, I.ok.stk, I.ok.exf, I.ok.bs, I.ok.bsz, I.ok.noex, I.ok.exfs, I.ok.funs, I.ok.frf⟩, I.os, I.bare, I.base, I.loc, I.cell, I.free, I.freeC, fun p hp => I.pin p (h p hp), I.hok, I.len⟩
theorem Inv.mark {e : Option Value} (I : Inv X pins σ H s) : Inv { X with A := X.A.mark e, calm := false, xe := fun _ _ => False } pins σ H s :=
  ⟨⟨I.ok.mod, I.ok.kind, I.ok.glob, I.ok.blt, I.ok.above, I.ok.inj, I.ok.has, I.ok.cab, (fun z => nomatch z), I.ok.frames, I.ok.stk, I.ok.exf, I.ok.bs, I.ok.bsz, I.ok.noex, I.ok.exfs, I.ok.funs, I.ok.frf⟩, I.os, I.bare, I.base, I.loc, I.cell, I.free, I.freeC, I.pin, I.hok, I.len⟩
theorem Inv.unmark {e : Option Value} {σ' : St} {H' : Hp} {s' : Shared} (I0 : Inv X pins σ H s) (I : Inv { X with A := X.A.mark e, calm := false, xe := fun _ _ => False } pins σ' H' s') : Inv X pins σ' H' s' :=
  ⟨I0.ok, I.os, I.bare, I.base, I.loc, I.cell, I.free, I.freeC, I.pin, I.hok, I.len⟩
end
def tTry (K : PySem.W.Frag) (mg : Str → Option Value) (T : Addr) (n ic : Nat) (tb : XK → TS) : TS := fun D σ H => tb (fun cls _ H2 => ∃ C tl x, cls = .ref C ∧ Xc K mg x C tl ∧ (Value.ref C :: tl).contains (.ref T) = true ∧ ∀ ea, H2 ea = none → D.nx ((List.replicate n none).set ic (some (.ref ea))) (upd H2 ea (exO ea C))) D σ H
theorem ps_try {X : Cx} {tn en cn : Str} {T : Addr} {ie ic : Nat} {body : List Stmt} {tb : XK → TS} {np cp vp ap hp pos : Pos} (hst : X.stack = X.env :: X.outer) (hex : X.ex = []) (hfr : X.env.frame = some X.env.locals) (hN : X.N.Nodup) (hie : X.N[ie]? = some en) (hic : X.N[ic]? = some cn) (hne : en ≠ cn)
    (hle : X.env.scope.names.lookup en = some .local) (hlc : X.env.scope.names.lookup cn = some .local) (cT : Xc X.K X.mg tn T vE) (hg : Gl X tn)
    (hb : ∀ (W : Value → Shared → Prop) (pn : List (Addr × Obj)) (Ex : XK), Passes (CX1 X.prog X.w X.base) { X with xe := W, pn := pn } Ex → PSs { X with xe := W, pn := pn } body (tb Ex))
    (hde : (en == ("__debug__" : Str)) = false) (hce : (en == ("__classdict__" : Str)) = false) (hdt : (tn == ("__debug__" : Str)) = false) :
    PS X (.Try body [.ExceptHandler (some (.Name tn np)) (some en) [.Assign [.Name cn cp] (.Name en vp) ap] hp] [] [] pos) (tTry X.K X.mg T X.N.length ic tb) := by
  intro pins s σ H D I h
  let Hd : List ExceptHandler := [.ExceptHandler (some (.Name tn np)) (some en) [.Assign [.Name cn cp] (.Name en vp) ap] hp]
  let W : Value → Shared → Prop := fun e s1 => wpAny (model X.prog X.w) X.A (noteFrame e X.env) (fun _ s2 => wpAny (model X.prog X.w) X.A (setFlight e none) (fun _ s3 => wpAny (model X.prog X.w) X.A (handleBy e X.env Hd) (SP X pins D) X.xe s3) X.xe s2) X.xe s1
  have sub1 : ∀ p ∈ (X.pn ++ pins) ++ [], p ∈ X.pn ++ pins := fun p hp => by rw [List.append_nil] at hp; exact hp
  have back : ∀ {σ1 : St} {H1 : Hp} {s1 : Shared} {pins1 : List (Addr × Obj)}, Inv { X with xe := W, pn := X.pn ++ pins } pins1 σ1 H1 s1 → Inv X pins σ1 H1 s1 := fun J => J.back fun p hp => List.mem_append_left _ hp
  refine wpAny_Try_except ?_
  refine wpAny_mono (hb W (X.pn ++ pins) _ ?_ [] s σ H D (I.other sub1) h) (fun f s1 hs => ?_) (fun e s1 he => he)
  · -- an exception of a callee
    intro pins1 σ1 H1 s1 e s2 J cx
    obtain ⟨ea, cls, a0, B, H2, rfl, os2, bare2, un2, hok2, stB, fly, inB, trk, nea, C, tl, x, rfl, xc, hup, q⟩ := cx
    have J0 := back J
    have hst' : ({ X with xe := W, pn := X.pn ++ pins } : Cx).stack = X.env :: X.outer := hst
    rw [hst'] at un2 fly inB
    have fr2 := fly.2.2.1
    have at_ : ∀ h3 : Heap, B.StaysIn h3 → s2.heap.UpToSlots h3 → Inv X pins σ1 H2 { s2 with heap := h3 } := fun h3 s3 up => by
      refine J0.call' (s' := { s2 with heap := h3 }) (ch := []) os2 ?_ (stays_hok hok2 trk fly.1 s3) bare2 (fun b z => nomatch z)
      rw [hst]
      exact un_stays un2 fly.1 s3 inB (slots_of fr2 up)
    have n2 : H2 ea = none := by
      cases z : H2 ea with
      | none => rfl
      | some u =>
        obtain ⟨o, ho⟩ := trk ea u z
        rw [fly.2.1] at ho
        cases ho
    show wpAny (model X.prog X.w) X.A (noteFrame (.ref ea) X.env) _ _ _
    have frm : X.A.frames = some (X.env :: X.outer) := by rw [← hst]; exact I.ok.frames
    refine wpAny_looks_onW frm hfr fly fun h4 held4 up4 => ?_
    refine wpAny_landsW held4 fun h5 fly5 up5 => ?_
    have up25 := up4.trans up5
    have I5 := at_ h5 fly5.1 up25
    refine wpAny_handleBy_cons (codeAny_handlers_test (ld_glob (I5.mark (e := some (.ref ea))) hg cT.m ?_ hdt)) (by intro z; cases z)
    obtain ⟨N1, a1, a2, a3, a4, a5, a6, a7, a8, a9, b0, b1, b2, b3, b5, m1, hC, _, _, _⟩ := xc.obj I5.kIn
    obtain ⟨N2, c1, c2, c3, c4, c5, c6, c7, c8, c9, d0, d1, d2, d3, d5, m2, hT, _, _, _⟩ := cT.obj I5.kIn
    obtain ⟨ob, hob, hobc⟩ := fly5.there
    refine matches_up hC hT hob hobc hup rfl (codeAny_handlers_suite_as ?_)
    refine lands_againW fly5 fun h6 fly6 up6 => ?_
    have I6 := at_ h6 fly6.1 (up25.trans up6)
    have ex6 : ExAt ea C h6 := fly6.there
    have ne_of1 : ∀ b o, s1.heap.get? b = some o → b ≠ ea := fun b o hb z => by rw [z, nea] at hb; cases hb
    have I6t := I6.track n2 ex6 (by
      cases z : X.s₀.heap.get? ea with
      | none => rfl
      | some o =>
        by_cases hx : ea ∈ X.ex
        · rw [hex] at hx
          exact nomatch hx
        · obtain ⟨o', e1⟩ := J0.base.there ea o z hx
          rw [nea] at e1
          cases e1) (by
      obtain ⟨m, ⟨o, _, _, ho, _⟩, _⟩ := J0.loc
      exact (ne_of1 _ o ho).symm) (fun y c e => by
      obtain ⟨v, o, ho, _⟩ := J0.cell y c e
      exact ne_of1 c o ho) (fun p hp => ne_of1 p.1 p.2 (J0.pin p hp).1)
    refine store_ok I6t hN hie (.inl hle) (v := .ref ea) rfl (fun s7 I7 => ?_) (.inr hle)
    have hlenσ : σ1.length = X.N.length := J0.len
    have hieL : ie < σ1.length := by rw [hlenσ]; exact (List.getElem?_eq_some_iff.mp hie).1
    have hicL : ic < σ1.length := by rw [hlenσ]; exact (List.getElem?_eq_some_iff.mp hic).1
    have hi_ne : ie ≠ ic := fun z => by rw [z, hic] at hie; injection hie with hie; exact hne hie.symm
    have ps := pss_one (ps_set (X := { X with A := X.A.mark (some (.ref ea)), calm := false, xe := fun _ _ => False }) (i := ic) (pos := ap) (pos' := cp) hN hic (Or.inl hlc) (pe_var (i := ie) (pos := vp) hie (Or.inl hle) hde hce) (by rfl) (.inr hlc))
    refine wpAny_mono (ps pins s7 _ _ { nx := fun σ8 H8 => σ8 = (σ1.set ie (some (.ref ea))).set ic (some (.ref ea)) ∧ H8 = upd H2 ea (exO ea C), rt := fun _ _ => False } (I7.mark (e := some (.ref ea))) ⟨.ref ea, List.getElem?_set_self hieL, rfl, rfl⟩) (fun f s8 hs => ?_) (fun _ _ z => z.elim)
    cases f with
    | next =>
      obtain ⟨σ8, H8, I8, rfl, rfl⟩ := hs
      have I8x := I6.unmark I8
      obtain ⟨m8, hn8, hl8⟩ := id I8x.loc
      refine wpAny_nameGoes_keeps (by exact hle) hn8 (by rw [I.ok.kind]; rfl) fun h9 v9 hn9 hs9 => ?_
      refine ⟨_, _, I8x.forget (σ' := (List.replicate X.N.length none).set ic (some (.ref ea))) hl8 hn9 hs9 (by rw [List.length_set, List.length_replicate, List.length_set, List.length_set, hlenσ]) (fun i v e => ?_), q ea n2⟩
      by_cases hi : i = ic
      · subst hi
        rw [List.getElem?_set_self (by rw [List.length_replicate, ← hlenσ]; exact hicL)] at e
        cases e
        exact ⟨List.getElem?_set_self (by rw [List.length_set]; exact hicL), fun z => by rw [hic] at z; injection z with z; exact hne z.symm⟩
      · rw [List.getElem?_set_ne (Ne.symm hi), List.getElem?_replicate] at e
        split at e <;> cases e
    | brk => obtain ⟨_, _, _, z⟩ := hs; exact z.elim
    | cont => obtain ⟨_, _, _, z⟩ := hs; exact z.elim
    | ret u => obtain ⟨_, _, _, _, _, z⟩ := hs; exact z.elim
  · cases f with
    | next =>
      obtain ⟨σ', H', J, z⟩ := hs
      exact wpAny_execs_nil ⟨σ', H', back J, z⟩
    | brk => obtain ⟨σ', H', J, z⟩ := hs; exact ⟨σ', H', back J, z⟩
    | cont => obtain ⟨σ', H', J, z⟩ := hs; exact ⟨σ', H', back J, z⟩
    | ret u => obtain ⟨v, σ', H', J, r, z⟩ := hs; exact ⟨v, σ', H', back J, r, z⟩
end L2
set_option Elab.async false
set_option linter.all false
set_option maxRecDepth 100000
/-! ### defs that may refuse -/
namespace L2
open PySem PySem.Spec PyProof.Rows
section
variable {P : Program} {w : World} {K : PySem.W.Frag} {mg : Str → Option Value} {base : Heap}
theorem Fun.okX {x qual : Str} {st : Stmt} {f : Addr} {fd : FuncData} {N ps : List Str} {k : Nat} {sp : Sp} (F : Fun K x qual st f fd) (S : FnScope N ps (defScope st)) (len : ∀ vs H Q E, sp vs H Q E → vs.length = ps.length)
    (hbody : ∀ (cdv : Value) (A : Around) (outer : List Env) (s : Shared) (H : Hp) (vs : List V) (Q : VK) (E : XK), Room k (A.deeper (envOfC qual (defScope st) s.heap.objs.size f cdv)) → sp vs H Q E →
      ∃ t, PSs (cxOf (CX1 P w base) P w K mg base N qual (defScope st) f cdv A outer s H E) (defBody st) t ∧ t { nx := fun _ H' => Q .non H', rt := Q } (start N vs) H) : FnOk P w K mg base (CX1 P w base) (k + 1) f fd ps sp := by
  obtain ⟨oc, od, kV, doc, pm, an, cdv, ct, osl, rfl, lk, hcd⟩ := F.ex
  exact fn_of lk hcd S len fun A outer s H vs Q E hr hsp => hbody cdv A outer s H vs Q E hr hsp
theorem raisesX {N : List Str} {qual : Str} {scope : Scope} {f : Addr} {cd : Value} {A : Around} {outer : List Env} {s : Shared} {H : Hp} {E : XK} : RaisesIn (cxOf (CX1 P w base) P w K mg base N qual scope f cd A outer s H E) E := fun I hm q => leave_made I hm q
theorem passX {N : List Str} {qual : Str} {scope : Scope} {f : Addr} {cd : Value} {A : Around} {outer : List Env} {s : Shared} {H : Hp} {E : XK} : Passes (CX1 P w base) (cxOf (CX1 P w base) P w K mg base N qual scope f cd A outer s H E) E := pass1 fun _ _ _ h => h
end
/-- isinstance of a caught refusal -/
def rIsX (K : PySem.W.Frag) : List V → Hp → VK → Prop := fun xs H Q => ∃ ea C b, H ea = some (exO ea C) ∧ XcK K C ∧ ((∃ D, xs = [.ref ea, .ref D] ∧ PySem.W.kitOne K (.ref C) (.ref D) = some b) ∨ (∃ n, xs = [.ref ea, .ty n] ∧ PySem.W.kitOne K (.ref C) (.type n) = some b) ∨
  (∃ (t : Addr) (ds : List Addr), xs = [.ref ea, .ref t] ∧ H t = some (.tup (ds.map V.ref)) ∧ PySem.W.kitAny K (.ref C) (ds.map Value.ref) = some b)) ∧ Q (.bl b) H
theorem vals_refs : ∀ {ds : List Addr} {its : List Value}, Vals (ds.map V.ref) its → its = ds.map Value.ref
  | [], _, .nil => rfl
  | d :: ds, _, .cons r t => by rw [vals_refs t, show _ = Value.ref d from r]; rfl
section
variable {X : Cx}
theorem call_isX : CallR X (.builtin "isinstance") (rIsX X.K) := by
  intro pins s σ H xs us Q I r h
  obtain ⟨ea, C, b, hea, k, cs, q⟩ := h
  have ex : ExAt ea C s.heap := (show ObjOk X.prog X.w H s.heap ea (exO ea C) from I.hok ea _ hea).1
  rcases cs with ⟨D, rfl, e⟩ | ⟨n, rfl, e⟩ | ⟨t, ds, rfl, ht, e⟩
  · obtain ⟨u, v, rfl, ru, rv⟩ := Vals.two r
    obtain rfl : u = Value.ref ea := ru
    obtain rfl : v = Value.ref D := rv
    exact PySem.W.kia_one (kitx_exc k) I.kIn ex e (fun z => nomatch z) fun tk => ⟨.bl b, H, I.tok tk, rfl, q⟩
  · obtain ⟨u, v, rfl, ru, rv⟩ := Vals.two r
    obtain rfl : u = Value.ref ea := ru
    obtain rfl : v = Value.type n := rv
    exact PySem.W.kia_one (kitx_exc k) I.kIn ex e (fun z => nomatch z) fun tk => ⟨.bl b, H, I.tok tk, rfl, q⟩
  · obtain ⟨u, v, rfl, ru, rv⟩ := Vals.two r
    obtain rfl : u = Value.ref ea := ru
    obtain rfl : v = Value.ref t := rv
    obtain ⟨_, its, rl, o, h1, h2, n, h3⟩ := (show ObjOk X.prog X.w H s.heap t (.tup (ds.map V.ref)) from I.hok t _ ht)
    rw [vals_refs rl] at h3
    obtain ⟨oc, od, oda, osl⟩ := o
    simp only at h2 h3
    subst h2 h3
    exact PySem.W.kia_tup (kitx_exc k) I.kIn ex h1 e (fun z => nomatch z) fun tk => ⟨.bl b, H, I.tok tk, rfl, q⟩
end
theorem ns_joined {a p} : NoStar (.JoinedStr a p) := ns_of fun _ _ z => nomatch z
end L2
namespace TW
open PySem L2
def HasX (P : Program) (w : World) (K : PySem.W.Frag) (mg : Str → Option Value) (base : Heap) (x : Str) (ps : List Str) (k : Nat) (sp : Sp) : Prop :=
  ∃ f fd, FnOk P w K mg base (CX1 P w base) k f fd ps sp ∧ PySem.W.keepIn K (.ref f) = true ∧ Binds K fd ps [] ∧ mg x = some (.ref f)
theorem HasX.mono {P : Program} {w : World} {K : PySem.W.Frag} {mg : Str → Option Value} {base : Heap} {x : Str} {ps : List Str} {j k : Nat} {sp : Sp} (h : HasX P w K mg base x ps j sp) (hk : j ≤ k) : HasX P w K mg base x ps k sp :=
  let ⟨f, fd, a, b, c, d⟩ := h; ⟨f, fd, a.mono hk, b, c, d⟩
end TW
namespace L3
open PySem PySem.Spec PyProof.Rows L2
structure SFp (X : Cx) (ps : List Expr) (n : Nat) (t : TF) : Prop where
  h : PF X ps n t
section
variable {X : Cx} {a b c e o : Expr} {es : List Expr} {ta tb tc te : TE} {t : TA} {tf : TF} {pos : Pos} {n : Nat}
theorem fn : SFp X [] 0 (fun _ H k => k H) := ⟨pf_nil⟩
theorem fs {x : Str} {j} (hr : SFp X es n tf) (hx : x.length ≤ 2000 := by decide) : SFp X (.Constant (.str x) j pos :: es) (n + 1) tf := ⟨pf_str hx hr.h⟩
theorem fv (ha : SE X a ta) (hr : SFp X es n tf) : SFp X (.FormattedValue a (-1) none pos :: es) (n + 1) (fun σ H k => ta σ H fun x H1 => fOk x ∧ tf σ H1 k) := ⟨pf_val ha.h hr.h⟩
theorem fstr (h : SFp X (a :: b :: es) n tf) (hn : n ≤ 1000 := by decide) : SE X (.JoinedStr (a :: b :: es) pos) (fun σ H Q => tf σ H fun H1 => ∀ x, Q (.str x) H1) := ⟨pe_fstr h.h hn⟩
theorem raise_ {x : Str} {C : Addr} {tl : List Value} {Ex : XK} {np cpos : Pos} (hx : RaisesIn X Ex) (cc : Xc X.K X.mg x C tl) (hb : tl.contains (.type "BaseException") = true) (hg : Gl X x) (ha : SA X [a] t) (hc : X.calm = true := by rfl) (hd : (x == ("__debug__" : Str)) = false := by decide) :
    SS X (.Raise (some (.Call (.Name x np) [a] [] cpos)) none pos) (tRaise Ex C t) := ⟨ps_raise hx cc hb hg hc ha.h hd⟩
theorem ownX {x : Str} {p : Pos} {ps : List Str} {kk : Nat} {sp : Sp} {Ex : XK} (hp : Passes (CX1 X.prog X.w X.base) X Ex) (D : TW.HasX X.prog X.w X.K X.mg X.base x ps kk sp) (hr : Room kk X.A) (hg : Gl X x) (ha : SA X (e :: es) t) (hdb : (x == ("__debug__" : Str)) = false := by decide) :
    SE X (.Call (.Name x p) (e :: es) [] pos) (tCall sp [] Ex t) :=
  let ⟨_, _, G, kp, b, m⟩ := D
  ⟨pe_call G hr hg m kp b .nil hp ha.h.pa hdb ((ha.h.ns e es rfl).1.h es X.env) ((ha.h.ns e es rfl).2 pos X.env)⟩
theorem try_ {tn en cn : Str} {T : Addr} (ie ic : Nat) {body : List Stmt} {tbb : XK → TS} {np cp vp ap hp : Pos} {KK : PySem.W.Frag} {mg : Str → Option Value} {NN : Nat} (hN : X.N.Nodup) (cT : Xc X.K X.mg tn T vE) (hg : Gl X tn)
    (hb : ∀ (W : Value → Shared → Prop) (pn : List (Addr × Obj)) (Ex : XK), Passes (CX1 X.prog X.w X.base) { X with xe := W, pn := pn } Ex → SL { X with xe := W, pn := pn } body (tbb Ex))
    (hie : X.N[ie]? = some en := by rfl) (hic : X.N[ic]? = some cn := by rfl) (hne : en ≠ cn := by decide) (hle : X.env.scope.names.lookup en = some .local := by rfl) (hlc : X.env.scope.names.lookup cn = some .local := by rfl)
    (hst : X.stack = X.env :: X.outer := by rfl) (hex : X.ex = [] := by rfl) (hfr : X.env.frame = some X.env.locals := by rfl) (hK : X.K = KK := by rfl) (hm : X.mg = mg := by rfl) (hNN : X.N.length = NN := by rfl)
    (hde : (en == ("__debug__" : Str)) = false := by decide) (hce : (en == ("__classdict__" : Str)) = false := by decide) (hdt : (tn == ("__debug__" : Str)) = false := by decide) :
    SS X (.Try body [.ExceptHandler (some (.Name tn np)) (some en) [.Assign [.Name cn cp] (.Name en vp) ap] hp] [] [] pos) (tTry KK mg T NN ic tbb) := by
  subst hK hm hNN
  exact ⟨ps_try hst hex hfr hN hie hic hne hle hlc cT hg (fun W pn Ex hpp => (hb W pn Ex hpp).h) hde hce hdt⟩
end
end L3
set_option Elab.async false
set_option linter.all false
set_option maxRecDepth 100000
/-! ### count and index in a list of truths -/
namespace L2
open PySem PySem.Spec PyProof.Rows
end L2
namespace L3
open PySem PySem.Spec PyProof.Rows L2
end L3
set_option Elab.async false
set_option linter.all false
set_option maxRecDepth 100000
namespace L2
open PySem PySem.Spec PyProof.Rows
/-! ### len(set(xs)), xs a list of texts, some of them perhaps alike -/
def dct (nm : Nat → Str) : Nat → Nat
  | 0 => 0
  | i + 1 => if metS nm i (nm i) then dct nm i else dct nm i + 1
theorem dct_le (nm : Nat → Str) : ∀ i, dct nm i ≤ i
  | 0 => Nat.le_refl 0
  | i + 1 => by
    have := dct_le nm i
    show (if metS nm i (nm i) then dct nm i else dct nm i + 1) ≤ i + 1
    split <;> omega
theorem dct_all {nm : Nat → Str} {n : Nat} (inj : ∀ a b, a < n → b < n → nm a = nm b → a = b) : ∀ i, i ≤ n → dct nm i = i
  | 0, _ => rfl
  | i + 1, h => by
    show (if metS nm i (nm i) then dct nm i else dct nm i + 1) = i + 1
    rw [metS_new inj (show i < n by omega), dct_all inj i (by omega)]
    rfl
theorem dct_lt {nm : Nat → Str} {a b : Nat} (hab : a < b) (e : nm b = nm a) : ∀ n, b < n → dct nm n < n
  | 0, h => by omega
  | n + 1, h => by
    show (if metS nm n (nm n) then dct nm n else dct nm n + 1) < n + 1
    by_cases hb : b = n
    · subst hb
      have : metS nm b (nm b) = true := by
        unfold metS
        rw [List.any_eq_true]
        exact ⟨a, List.mem_range.mpr hab, decide_eq_true e⟩
      rw [this]
      have := dct_le nm b
      show dct nm b < b + 1
      omega
    · have := dct_lt hab e n (by omega)
      split <;> omega
theorem nodup_get {xs : List Str} : (xs.Nodup → dct (fun i => xs.getD i "") xs.length = xs.length) ∧ (¬ xs.Nodup → dct (fun i => xs.getD i "") xs.length < xs.length) := by
  constructor
  · intro nd
    refine dct_all (n := xs.length) (fun i j hi hj e => ?_) _ (Nat.le_refl _)
    rw [List.getD_eq_getElem?_getD, List.getD_eq_getElem?_getD, List.getElem?_eq_getElem hi, List.getElem?_eq_getElem hj] at e
    by_cases lt : i < j
    · exact absurd e ((List.pairwise_iff_getElem.mp nd) i j hi hj lt)
    · by_cases gt : j < i
      · exact absurd e.symm ((List.pairwise_iff_getElem.mp nd) j i hj hi gt)
      · omega
  · intro nd
    have : ∃ a b, a < b ∧ b < xs.length ∧ xs.getD b "" = xs.getD a "" := by
      refine Classical.byContradiction fun no => nd (List.pairwise_iff_getElem.mpr fun i j hi hj lt e => no ⟨i, j, lt, hj, ?_⟩)
      rw [List.getD_eq_getElem?_getD, List.getD_eq_getElem?_getD, List.getElem?_eq_getElem hi, List.getElem?_eq_getElem hj]
      exact e.symm
    obtain ⟨a, b, h1, h2, h3⟩ := this
    exact dct_lt (nm := fun i => xs.getD i "") h1 h3 _ h2
section
variable {P : Program} {w : World} {A : Around}
theorem setLoopD {it : Addr} {own wrt : List Addr} {GG : Array GenState → Array GenState → Prop} {n : Nat} {Pv : Nat → Value → Prop} {Zt : Nat → Shared → Prop} {RR : Result → Shared → Prop}
    (wk : WalksS P w A.in1 it own wrt GG n Pv Zt) (z : Addr) (hz : z ∉ own) (nm : Nat → Str) (hnm : ∀ i v, Pv i v → ∃ t, v = Value.str (nm i) t) (few : n + 1 < scanBound) :
    ∀ (m i : Nat) (s : Shared), n - i = m → i ≤ n → Zt i s → s.heap.SetOf (strKind P w) z (metS nm i) (dct nm i) →
      (∀ t, Moved (z :: wrt) GG s t → t.heap.SetOf (strKind P w) z (metS nm n) (dct nm n) → RR (.ok (.ret .none)) t) → codeAny (model P w) A (.builtin "set.update.loop" ⟨[.ref z, .ref it], []⟩) RR s := by
  intro m
  induction m using Nat.strongRecOn with
  | _ m ih =>
    intro i s hm hi zt so k
    have zw : z ∉ wrt := fun q => hz (wk.sub _ q)
    have more : ∀ b ∈ wrt, b ∈ z :: wrt := fun b q => List.mem_cons_of_mem _ q
    have carry : ∀ {t : Shared} {S : Str → Bool} {c : Nat}, Moved wrt GG s t → s.heap.SetOf (strKind P w) z S c → t.heap.SetOf (strKind P w) z S c := fun mv ⟨o, es, ep, tb, ho, rest⟩ => ⟨o, es, ep, tb, mv.heap z _ zw ho, rest⟩
    refine codeAny_builtin PyProof.Rows.F.entry_set_update_loop ?_
    rw [Around.under_plainId PyProof.Rows.F.plain_set_update_loop _]
    show wpAny _ A.in1 (pyNext (.ref it) >>= _) _ _ s
    by_cases hlt : i < n
    · refine wpAny_bind (wk.item i s _ _ hlt zt fun v t pv zt' mv => ?_)
      obtain ⟨tk, rfl⟩ := hnm i v pv
      show wpAny _ A.in1 (holding [Value.str (nm i) tk] (setAdd z (.str (nm i) tk)) >>= _) _ _ t
      refine wpAny_bind (wpAny_holding ?_)
      unfold setAdd
      have sc := carry mv so
      refine wpAny_holding (wpAny_bind ((strKind P w).pyHash (k := nm i) (strKind_is _ _ _ _) ?_))
      refine wpAny_setAddHashed_of (knd := strKind P w) (s := { t with toks := t.toks + 1 }) (strKind_is _ _ _ _) rfl sc (by have := dct_le nm i; omega) fun g sb so2 => ?_
      have so3 : g.SetOf (strKind P w) z (metS nm (i + 1)) (dct nm (i + 1)) := SetOf_congr so2 (fun x => (metS_succ nm i x).symm) rfl
      refine wpAny_pure ⟨plainId_quiet PyProof.Rows.F.plain_set_update_loop _, ih (n - (i + 1)) (by omega) (i + 1) _ rfl hlt (wk.frame _ t _ _ zt' (Nat.le_succ _) fun b hb o e => ?_) so3 fun t' mv' so' => ?_⟩
      · rw [sb.2 b (fun q : b = z => hz (by rw [← q]; exact hb))]
        exact e
      · refine k t' (Moved.trans wk.gtrans ((mv.mono more).then_heap (Nat.le_succ _) fun b o hb e => ?_) mv') so'
        rw [sb.2 b (fun q : b = z => hb (by rw [q]; exact List.mem_cons_self))]
        exact e
    · obtain rfl : i = n := by omega
      refine wpAny_bind (wk.done s _ _ zt fun t mv => ?_)
      show wpAny _ A.in1 (ret Value.none) _ _ t
      exact wpAny_pure (k t (mv.mono more) (carry mv so))
set_option maxHeartbeats 4000000 in
theorem callSetD {E : Value → Shared → Prop} {s : Shared} {l : Addr} {its : Array Value} {xs : List Str} {Q : Value → Shared → Prop} (free : A.handled = none) (il : s.heap.IsList l its) (hx : ∀ i v, its[i]? = some v → ∃ t, v = Value.str (xs.getD i "") t) (hlen : its.size = xs.length) (few : its.size + 1 < scanBound)
    (k : ∀ (g : Heap) (tk : Nat), g.SetOf (strKind P w) s.heap.objs.size (metS (fun i => xs.getD i "") its.size) (dct (fun i => xs.getD i "") its.size) → (∀ b o, s.heap.get? b = some o → g.get? b = some o) → Q (.ref s.heap.objs.size) { s with heap := g, toks := tk }) :
    wpAny (model P w) A (call (.type "set") [.ref l]) Q E s := by
  obtain ⟨cc, tl, mro⟩ := F.called_set.mro
  have e1 := F.called_set.made
  have e2 := F.called_set.sub
  refine wpAny_call (codeAny_of_tree ?_)
  show wpAny _ _ (callAny (.type "set") _) _ _ _
  refine wpAny_pure ⟨Code.quiet_builtin _ (by decide +kernel), codeAny_builtin F.entry_type_call ?_⟩
  rw [Around.under_plain (weight_type_call_type "set" [.ref l] []) rfl]
  have e3 := F.called_set.notType
  have e4 := F.called_set.canCreate
  have e5 := F.typeCall_set_1 (.ref l)
  repeat (any_goals (first | assumption | wp_step))
  refine codeAny_mono (code_set_new_1 (.ref l) (E := E) (Q₁ := fun ob t => ∃ b : Bool, ob = .ref s.heap.objs.size ∧ t = { s with heap := s.heap.push { cls := .type "set", dict := none, data := .set #[] 0 (.fresh 0 0 b) } }) fun b => ⟨b, rfl, rfl⟩) fun r t hr => ?_
  cases r with
  | error _ => exact hr
  | ok fl =>
    cases fl with
    | ret ob =>
      obtain ⟨b, rfl, rfl⟩ := hr
      have g0 : (s.heap.push { cls := .type "set", dict := none, data := .set #[] 0 (.fresh 0 0 b) }).get? s.heap.objs.size = some { cls := .type "set", dict := none, data := .set #[] 0 (.fresh 0 0 b) } := Heap.get?_push_size _ rfl
      have ty : Shared.TypeIs { s with heap := s.heap.push { cls := .type "set", dict := none, data := .set #[] 0 (.fresh 0 0 b) } } (.ref s.heap.objs.size) "set" := ⟨_, g0, rfl⟩
      have f1 := F.called_set.init.lookup
      have f2 := F.called_set.init.bind (.ref s.heap.objs.size)
      repeat (any_goals (first | assumption | wp_step))
      refine codeAny_mono (codeAny_call_builtin (R := wants (fun r t => r = .none ∧ ∃ g tk, t = { s with heap := g, toks := tk } ∧ g.SetOf (strKind P w) s.heap.objs.size (metS (fun i => xs.getD i "") its.size) (dct (fun i => xs.getD i "") its.size) ∧ ∀ c o, s.heap.get? c = some o → g.get? c = some o) E) F.called_set.init.plain F.entry_set_init (check_set_init_1 ty ?_)) fun r2 t2 hr2 => ?_
      · obtain ⟨⟨oc, od, oda, osl⟩, ho, hc, nl, hd⟩ := il
        simp only at hc hd
        subst hc
        subst hd
        have ho' : (s.heap.push { cls := .type "set", dict := none, data := .set #[] 0 (.fresh 0 0 b) }).get? l = some { cls := .type "list", dict := od, data := .seq its nl, slots := osl } := Heap.get?_push_of_some _ ho
        have n1 := F.sub_list_set
        have n2 := F.sub_list_frozenset
        have n3 : (Value.type "list" == Value.type "dict") = false := by decide
        have il' : (s.heap.push { cls := .type "set", dict := none, data := .set #[] 0 (.fresh 0 0 b) }).IsList l its := ⟨_, ho', rfl, nl, rfl⟩
        unfold Builtin.«set.__init__» noKeywords Builtin.Frozenset.updateFrom
        generalize hpi : pyIter = itr
        wp_walk
        subst hpi
        refine wpAny_pyIter_list il' ?_
        refine wpAny_bind (wpAny_runValue ?_)
        have ls : l < s.heap.objs.size := Heap.lt_size ho
        have sz1 : (s.heap.push { cls := .type "set", dict := none, data := .set #[] 0 (.fresh 0 0 b) }).objs.size = s.heap.objs.size + 1 := Heap.size_push ..
        have a1 : l ≠ (s.heap.push { cls := .type "set", dict := none, data := .set #[] 0 (.fresh 0 0 b) }).objs.size := by rw [sz1]; exact Nat.ne_of_lt (Nat.lt_succ_of_lt ls)
        have a2 : s.heap.objs.size ∉ [(s.heap.push { cls := .type "set", dict := none, data := .set #[] 0 (.fresh 0 0 b) }).objs.size, l] := by
          rw [sz1]
          simp only [List.mem_cons, List.not_mem_nil, or_false, not_or]
          exact ⟨Nat.ne_of_lt (Nat.lt_succ_self _), Nat.ne_of_gt ls⟩
        refine setLoopD ((Walks.list (by simp [free]) _ l a1 its).toS) s.heap.objs.size a2 (fun i => xs.getD i "") hx few (its.size - 0) 0 _ (by omega) (Nat.zero_le _) ⟨⟨_, Heap.get?_push_size _ rfl, rfl, rfl⟩, il'.push _⟩ ?start ?stop
        case start =>
          exact SetOf_congr ((setObjOf_fresh (knd := strKind P w) b).setOf (Heap.get?_push_of_some _ g0) (by unfold scanBound; omega)) (fun _ => rfl) rfl
        case stop =>
          rintro ⟨g, gg, dd, tk, os⟩ mv so
          obtain rfl : gg = s.gens := mv.gens
          obtain rfl : dd = s.drawn := mv.drawn
          obtain rfl : os = s.os := mv.os
          show wpAny _ _ _ _ _ _
          refine wpAny_pure ?_
          show wpAny _ _ (ret Value.none) _ _ _
          refine wpAny_pure ⟨rfl, g, tk, rfl, so, fun c o e => ?_⟩
          have lc := Heap.lt_size e
          refine mv.heap c o ?_ (Heap.get?_push_of_some _ (Heap.get?_push_of_some _ e))
          rw [sz1]
          simp only [List.mem_cons, List.not_mem_nil, or_false, not_or]
          exact ⟨Nat.ne_of_lt lc, Nat.ne_of_lt (Nat.lt_succ_of_lt lc)⟩
      · cases r2 with
        | error _ => exact hr2
        | ok fl2 =>
          cases fl2 with
          | ret r =>
            obtain ⟨rfl, g, tk, rfl, so, kk⟩ := hr2
            repeat (any_goals (first | assumption | wp_step))
            exact k _ _ so kk
          | _ => exact hr2.elim
    | _ => exact hr.elim
end
section
variable {X : Cx} {a : Expr} {ta : TA} {p1 p2 pos pos2 : Pos}
def tLenSetD (K : PySem.W.Frag) (ta : TA) : TE := fun σ H Q => ta σ H fun vs H1 => ∃ (l : Addr) (xs : List Str), vs = [.ref l] ∧ SqL K H1 l (xs.map V.str) ∧ xs.length ≤ 1000 ∧ ∀ n : Nat, (xs.Nodup → n = xs.length) → (¬ xs.Nodup → n < xs.length) → Q (.int n) H1
theorem pe_lensetD (hc : X.calm = true) (hg1 : Gl X "len") (hm1 : X.mg "len" = none) (hg2 : Gl X "set") (hm2 : X.mg "set" = none) (ha : PAs X [a] ta) (hv2 : bootBuiltins "set" = some (.type "set") := by first | rfl | decide +kernel) :
    PE X (.Call (.Name "len" p1) [.Call (.Name "set" p2) [a] [] pos2] [] pos) (tLenSetD X.K ta) := by
  intro pins s σ H Q I h
  refine wpAny_Call_Name_kw (ld_blt I hg1 hm1 PySem.boot_len ?_ (by decide) (by decide))
  refine PyProof.Rows.callWith_builtin1 ?_ rfl rfl
  show wpAny _ _ (spliced ((false, eval (.Call (.Name "set" p2) [a] [] pos2) X.env) :: [])) _ _ s
  refine Calls.spliced_cons (wpAny_Call_Name_kw (ld_blt I hg2 hm2 hv2 ?_ (by decide) (by decide)))
  refine PyProof.Rows.callWith_type1 (thn (ha.pa pos2 pins s σ H _ I h) fun us s1 ⟨vs, H1, I1, r1, q1⟩ => ?_) ((ha.ns a [] rfl).1.h [] X.env) rfl
  obtain ⟨l, xs, rfl, hq, h1000, q⟩ := q1
  obtain ⟨u, rfl, ru⟩ := vals1 r1
  obtain rfl : u = Value.ref l := ru
  obtain ⟨its, rv, pl, hz⟩ := I1.list hq
  have hl := rv.length
  rw [List.length_map] at hl
  refine callSetD (xs := xs) (I1.ok.hd hc) pl.isList (fun i v e => strs_at rv (by simpa using e)) (by simp; omega) (by unfold scanBound; simp; omega) fun g tk so kk => ?_
  have I2 : Inv X pins σ H1 { s1 with heap := g, toks := tk } := I1.kept kk
  refine Calls.spliced_nil ?_
  obtain ⟨o, es, ep, t, ho, hex, hd, _, _, hb, hf, hn⟩ := so
  refine call_len_set (s := { s1 with heap := g, toks := tk }) ho hex hd hf (by rw [hn]; have := dct_le (fun i => xs.getD i "") its.toArray.size; simp at this ⊢; omega) ?_
  refine ⟨.int (dct (fun i => xs.getD i "") xs.length : Nat), H1, I2.tok _, ⟨tk + 1, by rw [hn, List.size_toArray, hl]⟩, q _ nodup_get.1 nodup_get.2⟩
/-! ### xs.insert(i, y) -/
def rInsert : V → List V → Hp → VK → Prop := fun x vs H Q => ∃ l xs y i, x = .ref l ∧ vs = [.int i, y] ∧ H l = some (.lst xs) ∧ 0 ≤ i ∧ i ≤ (xs.length : Int) ∧ xs.length < 1000 ∧ Q .non (upd H l (.lst (xs.take i.toNat ++ y :: xs.drop i.toNat)))
theorem mt_insert : MtM X "list.insert" rInsert := by
  intro pins s σ H x vs v us Q I rx rv h
  obtain ⟨l, xs, y, i, rfl, rfl, hH, h0, hk, hz, q⟩ := h
  cases rx
  obtain ⟨u1, u, rfl, ⟨tk, rfl⟩, ru⟩ := Vals.two rv
  obtain ⟨z, its, n, r, hl, e⟩ := I.lstM hH
  have hlen := r.length
  have fits : ¬(!Builtin.List.listFitsIndex i) = true := by
    have : Builtin.List.listFitsIndex i = true := by
      unfold Builtin.List.listFitsIndex
      simp
      omega
    simp [this]
  have few : its.toArray.size ≤ sizeLine := by rw [List.size_toArray]; exact Nat.le_trans (show _ ≤ 1000 by omega) (by decide)
  refine call_meets F.slot_list_insert ⟨_, e, rfl⟩ F.entry_list_insert (F.args_list_insert_3 _ _ _) (PySem.AutoSeq1.list_insert_list_int_val_1 l its.toArray n i tk u fits few) ⟨e, ?_⟩
  refine ⟨.non, _, I.lset (its' := its.take i.toNat ++ u :: its.drop i.toNat) hH e ?_ ((r.take i.toNat).append (.cons ru (r.drop i.toNat))) ?_, rfl, q⟩
  · have e1 : (if i < 0 then (i + (its.toArray.size : Int)).toNat else min i.toNat its.toArray.size) = i.toNat := by
      rw [if_neg (by omega), List.size_toArray]
      omega
    dsimp only
    rw [e1]
    apply Array.ext'
    simp
    exact List.take_of_length_le (by rw [List.length_drop]; exact Nat.le_refl _)
  · rw [List.length_append, List.length_cons, List.length_take, List.length_drop]
    exact Nat.le_trans (show _ ≤ 1000 by omega) (by decide)
end
end L2
namespace L3
open PySem PySem.Spec PyProof.Rows L2
section
variable {X : Cx} {a b c e o : Expr} {es : List Expr} {ta tb tc te : TE} {t : TA} {pos : Pos}
theorem lensetD {a : Expr} {t : TA} {p1 p2 pos pos2 : Pos} {KK : PySem.W.Frag} (hg1 : Gl X "len") (hm1 : X.mg "len" = none) (hg2 : Gl X "set") (hm2 : X.mg "set" = none) (ha : SA X [a] t) (hc : X.calm = true := by rfl) (hK : X.K = KK := by first | exact cxC_K | rfl) :
    SE X (.Call (.Name "len" p1) [.Call (.Name "set" p2) [a] [] pos2] [] pos) (tLenSetD KK t) := by
  subst hK
  exact ⟨pe_lensetD hc hg1 hm1 hg2 hm2 ha.h⟩
theorem insert {apos : Pos} {KK : PySem.W.Frag} {e1 e2 : Expr} (ho : SE X o ta) (ha : SA X [e1, e2] t) (hn : NoStar e2 := by first | exact ns_const | exact ns_name | exact ns_call | exact ns_sub) (hbase : attributeBase o "insert" X.env (eval o X.env) = eval o X.env := by rfl) (hline : (apos.endLine == pos.line) = true := by rfl) (hK : X.K = KK := by first | exact cxC_K | rfl) :
    SE X (.Call (.Attribute o "insert" apos) [e1, e2] [] pos) (tBM KK "list" rInsert ta t) := by
  subst hK
  exact ⟨pe_bm PySem.F.plainAttrs_list PySem.F.slot_list_insert PySem.F.type_list_insert mt_insert ho.h ha.h.pa hbase (by rw [(ha.h.ns e1 [e2] rfl).1.h [e2] X.env, hn.h [] X.env]; rfl) hline ((ha.h.ns e1 [e2] rfl).1.h [e2] X.env) ((ha.h.ns e1 [e2] rfl).2 pos X.env)⟩
end
end L3
set_option Elab.async false
set_option linter.all false
set_option maxRecDepth 100000
namespace L2
open PySem PySem.Spec PyProof.Rows
/-! ### a comprehension of two clauses -/
end L2
namespace L3
open PySem PySem.Spec PyProof.Rows L2
end L3
set_option Elab.async false
set_option linter.all false
set_option maxRecDepth 100000
namespace L2
open PySem PySem.Spec PyProof.Rows
/-! ### xs[::-1] -/
end L2
namespace L3
open PySem PySem.Spec PyProof.Rows L2
end L3
set_option Elab.async false
set_option linter.all false
/-! ### runs of one step function by those of another one -/
namespace TW
end TW
set_option Elab.async false
set_option linter.all false
set_option maxRecDepth 100000
namespace L3
open PySem PySem.Spec PyProof.Rows L2
end L3
set_option Elab.async false
set_option linter.all false
set_option maxRecDepth 100000
namespace L2
open PySem PySem.Spec PyProof.Rows
/-! ### xs[::n], n one or minus one -/
/-! ### a text and a text -/
def rAddS : R2 := fun x y H Q => ∃ a b : Str, x = .str a ∧ y = .str b ∧ a.length + b.length ≤ sizeLine ∧ Q (.str (a ++ b)) H
theorem op_addS {X : Cx} : OpR X (binaryOp .Add) rAddS := by
  intro pins s σ H x y u v Q I rx ry h
  obtain ⟨a, b, rfl, rfl, hl, q⟩ := h
  obtain ⟨t, rfl⟩ := rx
  obtain ⟨t2, rfl⟩ := ry
  exact PyProof.Rows.add_str (fun t' tk => ⟨.str (a ++ b), H, I.tok _, ⟨_, rfl⟩, q⟩) hl
/-! ### xs.index(n), a list of whole numbers -/
end L2
namespace L3
open PySem PySem.Spec PyProof.Rows L2
section
variable {X : Cx} {a b c e o : Expr} {es : List Expr} {ta tb tc te : TE} {t : TA} {pos : Pos}
theorem slL12 {KK : PySem.W.Frag} {p2 : Pos} (ha : SE X a ta) (hb : SE X b tb) (hc : SE X c tc) (hK : X.K = KK := by first | exact cxC_K | rfl) : SE X (.Subscript a (.Slice (some b) (some c) none p2) pos) (tSl (rSlL KK) ta (tPart tb) (tPart tc)) := by
  subst hK
  exact ⟨pe_slice sl_list ha.h (po_some hb.h) (po_some hc.h)⟩
theorem o_addS : SO X (binaryOp .Add) rAddS := ⟨op_addS⟩
end
end L3
set_option Elab.async false
set_option linter.all false
set_option maxRecDepth 100000
/-! ### d.update(e), both dicts of tuples -/
namespace L2
open PySem PySem.Spec PyProof.Rows
end L2
namespace L3
open PySem PySem.Spec PyProof.Rows L2
end L3
set_option Elab.async false
set_option linter.all false
set_option maxRecDepth 100000
namespace PySem
open Sem (wp)
/-! ### a zip whose own tuple is free, out, or gone -/
end PySem
set_option Elab.async false
set_option linter.all false
set_option maxRecDepth 100000
namespace PySem
open Sem (wp)
open AutoSeq1 (wpAny_loadPart')
end PySem
namespace L2
open PySem PySem.Spec PyProof.Rows
end L2
namespace L3
open PySem PySem.Spec PyProof.Rows L2
end L3
set_option Elab.async false
set_option linter.all false
set_option maxRecDepth 100000
namespace L2
open PySem PySem.Spec PyProof.Rows
end L2
namespace L3
open PySem PySem.Spec PyProof.Rows L2
end L3
set_option Elab.async false
set_option linter.all false
/-! ### what is said for ever: the i-th number of a run -/
namespace TW
end TW
set_option Elab.async false
set_option linter.all false
set_option maxRecDepth 100000
namespace L2
open PySem PySem.Spec PyProof.Rows SeqAt
/-! ### lists of whole numbers, alike or not; tuples of lists and None -/
end L2
namespace L3
open PySem PySem.Spec PyProof.Rows L2
end L3
namespace TW
/-! ### what is alike, by the law's own look -/
end TW
set_option Elab.async false
set_option linter.all false
/-! ### runs walked side by side -/
namespace TW
/-! ### each number said one more -/
end TW
set_option Elab.async false
set_option linter.all false
set_option maxRecDepth 100000
namespace L2
open PySem PySem.Spec PyProof.Rows
end L2
namespace L3
open PySem PySem.Spec PyProof.Rows L2
end L3
set_option Elab.async false
set_option linter.all false
set_option maxRecDepth 100000
namespace L2
open PySem PySem.Spec PyProof.Rows SeqAt
/-! ### two promises of one def; lists of anything told, alike or not -/
end L2
set_option Elab.async false
set_option linter.all false
set_option maxRecDepth 100000
/-! ### a def that is called within an except suite; try .. except T as e: any rows -/
namespace L2
open PySem PySem.Spec PyProof.Rows
end L2
namespace TW
open PySem L2
end TW
namespace L3
open PySem L2
end L3
set_option Elab.async false
set_option linter.all false
set_option maxRecDepth 100000
namespace L2
open PySem PySem.Spec PyProof.Rows SeqAt
end L2
namespace L3
open PySem PySem.Spec PyProof.Rows L2
end L3
set_option Elab.async false
set_option linter.all false
set_option maxRecDepth 100000
/-! zip of three lists of one length, walked by a tuple of names -/
namespace PySem
open Sem (wp)
end PySem
set_option Elab.async false
set_option linter.all false
set_option maxRecDepth 100000
namespace PySem
end PySem
namespace L2
open PySem PySem.Spec PyProof.Rows
end L2
namespace L3
open PySem PySem.Spec PyProof.Rows L2
end L3
set_option Elab.async false
set_option linter.all false
set_option maxRecDepth 100000
namespace L2
open PySem PySem.Spec PyProof.Rows
/-! enumerate of a list, walked by a tuple of names -/
end L2
namespace L3
open PySem PySem.Spec PyProof.Rows L2
/-! attributes, instances, methods -/
end L3
set_option Elab.async false
set_option linter.all false
set_option maxRecDepth 100000
namespace TW
open PySem L2
end TW
namespace L2
open PySem PySem.Spec PyProof.Rows
end L2
namespace L3
open PySem PySem.Spec PyProof.Rows L2
end L3
set_option Elab.async false
set_option linter.all false
set_option maxRecDepth 100000
namespace L3
open PySem PySem.Spec PyProof.Rows L2
end L3
set_option Elab.async false
set_option linter.all false
set_option maxRecDepth 100000
/-! ### d.setdefault(k, v), a dict of tuples -/
namespace L2
open PySem PySem.Spec PyProof.Rows
end L2
namespace L3
open PySem PySem.Spec PyProof.Rows L2
end L3
namespace L2
open PySem PySem.Spec PyProof.Rows
end L2
namespace L3
open PySem PySem.Spec PyProof.Rows L2
end L3
set_option Elab.async false
set_option linter.all false
set_option maxRecDepth 100000
namespace L3
open PySem PySem.Spec PyProof.Rows L2
end L3
set_option Elab.async false
set_option linter.all false
set_option maxRecDepth 100000
namespace L2
open PySem PySem.Spec PyProof.Rows
section
variable {X : Cx}
/-! ### texts: a slice, find -/
def rSlS : V → Option Int → Option Int → Hp → VK → Prop := fun x lo hi H Q => ∃ z, x = .str z ∧ z.length ≤ sizeLine ∧ Q (.str (Txt.slice z lo hi)) H
theorem sl_str : SlR X rSlS := by
  intro pins s σ H x v vl vu lo hi sl Q I rx hs pl pu h
  obtain ⟨z, rfl, hz, q⟩ := h
  obtain ⟨t, rfl⟩ := rx
  refine ⟨"str", _, F.slot_str_getitem.lookup, typeIs_str _ _ _, ?_⟩
  cases pl with
  | none =>
    cases pu with
    | none => exact wpAny_getItem_str_slice (l := none) (u := none) (st := none) hs rfl (post_val_or_str ⟨Nat.le_trans (Txt.slice_le z _ _) hz, fun t' k => ⟨.str _, H, I.tok _, ⟨_, rfl⟩, q⟩⟩)
    | int j u => exact wpAny_getItem_str_slice (l := none) (u := some (j, u)) (st := none) hs rfl (post_val_or_str ⟨Nat.le_trans (Txt.slice_le z _ _) hz, fun t' k => ⟨.str _, H, I.tok _, ⟨_, rfl⟩, q⟩⟩)
  | int i t' =>
    cases pu with
    | none => exact wpAny_getItem_str_slice (l := some (i, t')) (u := none) (st := none) hs rfl (post_val_or_str ⟨Nat.le_trans (Txt.slice_le z _ _) hz, fun t' k => ⟨.str _, H, I.tok _, ⟨_, rfl⟩, q⟩⟩)
    | int j u => exact wpAny_getItem_str_slice (l := some (i, t')) (u := some (j, u)) (st := none) hs rfl (post_val_or_str ⟨Nat.le_trans (Txt.slice_le z _ _) hz, fun t' k => ⟨.str _, H, I.tok _, ⟨_, rfl⟩, q⟩⟩)
theorem mt_find : MtR X "str.find" (fun x xs H Q => ∃ z y, x = .str z ∧ xs = [.str y] ∧ Q (.int (Txt.find z y)) H) := by
  intro pins s σ H x xs v us Q I rx rs h
  obtain ⟨z, y, rfl, rfl, q⟩ := h
  obtain ⟨t, rfl⟩ := rx
  obtain ⟨u, rfl, ru⟩ := vals1 rs
  obtain ⟨t2, rfl⟩ := ru
  exact SC.find ⟨.int (Txt.find z y), H, I.tok _, ⟨_, rfl⟩, q⟩
/-- isinstance of a caught refusal or of a tuple -/
def rIsA (K : PySem.W.Frag) : List V → Hp → VK → Prop := fun xs H Q => rIsX K xs H Q ∨ ∃ a zs b, H a = some (.tup zs) ∧ ((∃ D, xs = [.ref a, .ref D] ∧ PySem.W.kitOne K (.type "tuple") (.ref D) = some b) ∨
  (∃ (t : Addr) (ds : List Addr), xs = [.ref a, .ref t] ∧ H t = some (.tup (ds.map V.ref)) ∧ PySem.W.kitAny K (.type "tuple") (ds.map Value.ref) = some b)) ∧ Q (.bl b) H
theorem call_isA : CallR X (.builtin "isinstance") (rIsA X.K) := by
  intro pins s σ H xs us Q I r h
  rcases h with h | ⟨a, zs, b, ha, cs, q⟩
  · exact call_isX pins s σ H xs us Q I r h
  obtain ⟨_, its0, _, o0, g1, g2, _⟩ := (show ObjOk X.prog X.w H s.heap a (.tup zs) from I.hok a _ ha)
  rcases cs with ⟨D, rfl, e⟩ | ⟨t, ds, rfl, ht, e⟩
  · obtain ⟨u, v, rfl, ru, rv⟩ := Vals.two r
    obtain rfl : u = Value.ref a := ru
    obtain rfl : v = Value.ref D := rv
    exact PySem.W.kia_one PySem.W.kitx_tuple I.kIn ⟨o0, g1, g2⟩ e (fun z => nomatch z) fun tk => ⟨.bl b, H, I.tok tk, rfl, q⟩
  · obtain ⟨u, v, rfl, ru, rv⟩ := Vals.two r
    obtain rfl : u = Value.ref a := ru
    obtain rfl : v = Value.ref t := rv
    obtain ⟨_, its, rl, o, h1, h2, n, h3⟩ := (show ObjOk X.prog X.w H s.heap t (.tup (ds.map V.ref)) from I.hok t _ ht)
    rw [vals_refs rl] at h3
    obtain ⟨oc, od, oda, osl⟩ := o
    simp only at h2 h3
    subst h2 h3
    exact PySem.W.kia_tup PySem.W.kitx_tuple I.kIn ⟨o0, g1, g2⟩ h1 e (fun z => nomatch z) fun tk => ⟨.bl b, H, I.tok tk, rfl, q⟩
end
end L2
namespace L3
open PySem PySem.Spec PyProof.Rows L2
section
variable {X : Cx} {a b c e o : Expr} {es : List Expr} {ta tb tc te : TE} {t : TA} {pos : Pos}
theorem ixS : SX X rIxS := ⟨ix_str⟩
theorem c_isA {KK : PySem.W.Frag} (hK : X.K = KK := by first | exact cxC_K | rfl) : SC X (.builtin "isinstance") (rIsA KK) := by
  subst hK
  exact ⟨call_isA⟩
theorem ixLT {KK : PySem.W.Frag} (hK : X.K = KK := by first | exact cxC_K | rfl) : SX X (fun x y H Q => rIxL KK x y H Q ∨ rIxT KK x y H Q) := by
  subst hK
  exact ⟨IxR.or ix_list ix_tup⟩
theorem c_abs : SC X (.builtin "abs") (fun xs H Q => ∃ i, xs = [.int i] ∧ Q (.int (if i < 0 then -i else i)) H) := ⟨call_abs⟩
theorem slS2 {p2 : Pos} (ha : SE X a ta) (hb : SE X b tb) : SE X (.Subscript a (.Slice none (some b) none p2) pos) (tSl rSlS ta tNoPart (tPart tb)) := ⟨pe_slice sl_str ha.h po_none (po_some hb.h)⟩
theorem sfind {KK : PySem.W.Frag} {apos : Pos} (ho : SE X o ta) (ha : SA X [e] t) (hbase : attributeBase o "find" X.env (eval o X.env) = eval o X.env := by rfl) (hline : (apos.endLine == pos.line) = true := by rfl) (hK : X.K = KK := by first | exact cxC_K | rfl) : SE X (.Call (.Attribute o "find" apos) [e] [] pos) (tBM KK "str" (fun x xs H Q => ∃ z y, x = .str z ∧ xs = [.str y] ∧ Q (.int (Txt.find z y)) H) ta t) := by
  subst hK
  exact bm1 PySem.F.plainAttrs_str PySem.F.slot_str_find PySem.F.type_str_find ⟨mt_find⟩ ho ha hbase hline
end
end L3
set_option Elab.async false
set_option linter.all false
set_option maxRecDepth 100000
set_option exponentiation.threshold 4000
set_option maxHeartbeats 1000000
namespace TW
open PySem L2
section
variable {P : Program} {w : World} {K : PySem.W.Frag} {mg : Str → Option Value} {base : Heap}
theorem bnd1 {x qual : Str} {st : Stmt} {f : Addr} {fd : FuncData} {p0 : Str} (F : Fun K x qual st f fd) (h : ∀ (kV doc pm : Value) (an : Option Addr) (cdv ct u0 : Value), bindArgs (PySem.W.fnOf x qual (defArgs st) (defBody st) (defScope st) .none kV doc pm an cdv ct) ⟨[u0], []⟩ = pure (([p0] : List Str).zip [u0])) : Binds K fd [p0] [] := F.binds fun kV doc pm an cdv ct us hl => match us, hl with | [u0], _ => h kV doc pm an cdv ct u0
theorem bnd2 {x qual : Str} {st : Stmt} {f : Addr} {fd : FuncData} {p0 p1 : Str} (F : Fun K x qual st f fd) (h : ∀ (kV doc pm : Value) (an : Option Addr) (cdv ct u0 u1 : Value), bindArgs (PySem.W.fnOf x qual (defArgs st) (defBody st) (defScope st) .none kV doc pm an cdv ct) ⟨[u0, u1], []⟩ = pure (([p0, p1] : List Str).zip [u0, u1])) : Binds K fd [p0, p1] [] := F.binds fun kV doc pm an cdv ct us hl => match us, hl with | [u0, u1], _ => h kV doc pm an cdv ct u0 u1
theorem bnd3 {x qual : Str} {st : Stmt} {f : Addr} {fd : FuncData} {p0 p1 p2 : Str} (F : Fun K x qual st f fd) (h : ∀ (kV doc pm : Value) (an : Option Addr) (cdv ct u0 u1 u2 : Value), bindArgs (PySem.W.fnOf x qual (defArgs st) (defBody st) (defScope st) .none kV doc pm an cdv ct) ⟨[u0, u1, u2], []⟩ = pure (([p0, p1, p2] : List Str).zip [u0, u1, u2])) : Binds K fd [p0, p1, p2] [] := F.binds fun kV doc pm an cdv ct us hl => match us, hl with | [u0, u1, u2], _ => h kV doc pm an cdv ct u0 u1 u2
theorem bnd4 {x qual : Str} {st : Stmt} {f : Addr} {fd : FuncData} {p0 p1 p2 p3 : Str} (F : Fun K x qual st f fd) (h : ∀ (kV doc pm : Value) (an : Option Addr) (cdv ct u0 u1 u2 u3 : Value), bindArgs (PySem.W.fnOf x qual (defArgs st) (defBody st) (defScope st) .none kV doc pm an cdv ct) ⟨[u0, u1, u2, u3], []⟩ = pure (([p0, p1, p2, p3] : List Str).zip [u0, u1, u2, u3])) : Binds K fd [p0, p1, p2, p3] [] := F.binds fun kV doc pm an cdv ct us hl => match us, hl with | [u0, u1, u2, u3], _ => h kV doc pm an cdv ct u0 u1 u2 u3
def top (i : Nat) : Stmt := PySem.Challenge.pw_twinwalk_k56_programs_with_picks.main.body.getD i (.Pass ⟨0, 0, 0, 0⟩)
abbrev sCell : Stmt := top 27
theorem TK.lst {H : Hp} {a : Addr} {xs : List V} {o : HO} (h : H a = some (.lst xs)) : TK H (upd H a o) := fun b ys e => by rw [upd_ne (ne_of e h (fun z => nomatch z))]; exact e
theorem Paired.get {α β : Type} {F : α → β → Prop} : ∀ {l₁ : List α} {l₂ : List β} {i : Nat} {x : α}, Paired F l₁ l₂ → l₁[i]? = some x → ∃ y, l₂[i]? = some y ∧ F x y
  | _, _, _, _, .nil, e => by simp at e
  | _, _, 0, _, .cons r _, e => by simp at e; subst e; exact ⟨_, rfl, r⟩
  | _, _, i + 1, x, .cons _ t, e => by
    obtain ⟨u, h1, h2⟩ := Paired.get (i := i) (x := x) t (by simpa using e)
    exact ⟨u, by simpa using h1, h2⟩
theorem turn0 {σ : L2.St} {H : Hp} {A B : Hp → Prop} (h : A H) : tIf0 σ H (fun b H3 => if b = true then A H3 else B H3) := iteT (A := A H) (B := B H) h
theorem gn_go {i : Nat} {v : V} {σ : L2.St} {H : Hp} {Q : L2.St → Hp → Prop} (h : Q (σ.set i (some v)) H) : gName i v σ H Q := h
theorem same_trans {A B C : Hp} (a : Same A B) (b : Same B C) : Same A C := fun p o h => b p o (a p o h)
theorem same_refl (A : Hp) : Same A A := fun _ _ h => h
theorem none_of_same {H H' : Hp} {a : Addr} (s : Same H H') (h : H' a = none) : H a = none := by
  match e : H a with
  | none => rfl
  | some o => rw [s _ _ e] at h; cases h
/-- a list that was laid since: it may be replaced -/
theorem same_put {H H' : Hp} {a : Addr} {o : HO} (s : Same H H') (h : H a = none) : Same H (upd H' a o) := fun b u e => by rw [upd_ne (ne_of_none e h)]; exact s b u e
theorem same_add {H H' : Hp} {a : Addr} {o : HO} (s : Same H H') (h : H' a = none) : Same H (upd H' a o) := same_put s (none_of_same s h)
theorem atI_get {α : Type} (f : α → V) (xs : List α) {r : Int} (h0 : 0 ≤ r) (h1 : r < (xs.length : Int)) : ∃ x, xs[r.toNat]? = some x ∧ x ∈ xs ∧ atI (xs.map f) r = some (f x) := by
  have hr : r.toNat < xs.length := by omega
  have e : r = ((r.toNat : Nat) : Int) := by omega
  have q : atI (xs.map f) ((r.toNat : Nat) : Int) = some (f xs[r.toNat]) := atI_nat (by rw [List.getElem?_map, List.getElem?_eq_getElem hr]; rfl)
  rw [← e] at q
  exact ⟨xs[r.toNat], List.getElem?_eq_getElem hr, List.getElem_mem hr, q⟩
theorem atI_v {xs : List V} {r : Int} (h0 : 0 ≤ r) (h1 : r < (xs.length : Int)) : ∃ x, xs[r.toNat]? = some x ∧ atI xs r = some x := by
  have hr : r.toNat < xs.length := by omega
  have e : r = ((r.toNat : Nat) : Int) := by omega
  have q : atI xs ((r.toNat : Nat) : Int) = some xs[r.toNat] := atI_nat (List.getElem?_eq_getElem hr)
  rw [← e] at q
  exact ⟨xs[r.toNat], List.getElem?_eq_getElem hr, q⟩
/-! ### _law_cell_at -/
def spCell (K : PySem.W.Frag) : Sp := fun vs H Q _ => ∃ (a : Addr) (ns : List Int) (k : Int), vs = [.ref a, .int k] ∧ SqL K H a (ns.map V.int) ∧ 0 ≤ k ∧ ∀ c : Int, Q (.int c) H
theorem scCell : FnScope ["script", "k"] ["script", "k"] (defScope sCell) := ⟨rfl, rfl, rfl, by decide +kernel, rfl, by decide +kernel, by decide +kernel⟩
theorem gCell_len : (defScope sCell).names.lookup (Str.ofString "len") = some .globalImplicit := by decide +kernel
theorem ok_cell {f : Addr} {fd : FuncData} (F : Fun K "_law_cell_at" "_law_cell_at" sCell f fd) (m_len : mg "len" = none) : FnOk P w K mg base CX0 1 f fd ["script", "k"] (spCell K) := by
  refine F.ok scCell (fun vs H Q E h => ?_) (fun cdv A outer s H vs Q E hr h => ?_)
  · obtain ⟨a, ns, k, rfl, _⟩ := h
    rfl
  · obtain ⟨a, ns, k, rfl, hs, h0, q⟩ := h
    refine ⟨_, L3.run (L3.cons (L3.ifs (L3.cmp L3.o_lt (L3.v 1) (L3.callB L3.c_len gCell_len m_len PySem.boot_len (L3.k (L3.v 0) L3.n))) (L3.one (L3.ret (L3.ix L3.ixL (L3.v 0) (L3.v 1)))) L3.nil)
      (L3.one (L3.ret L3.int))), ?_⟩
    refine ⟨_, rfl, _, rfl, a, _, rfl, .inl hs, _, _, rfl, rfl, _, rfl, ?_⟩
    refine ite2 (fun c => ?_) (fun _ => q 0)
    have hk : k < ((ns.map V.int).length : Int) := of_decide_eq_true c
    rw [List.length_map] at hk
    obtain ⟨x, _, _, hat⟩ := atI_get V.int ns h0 hk
    exact ⟨_, rfl, _, rfl, a, _, _, _, rfl, rfl, hs, hat, q x⟩
theorem has_cell (s : Src K mg "_law_cell_at" sCell) (m_len : mg "len" = none) : Has P w K mg base "_law_cell_at" ["script", "k"] 1 (spCell K) :=
  let ⟨f, fd, F, m⟩ := s
  ⟨f, fd, ok_cell F m_len, F.kp, bnd2 F fun _ _ _ _ _ _ _ _ => rfl, m⟩
theorem cut1 {u1 u2 : TS} {D : L2.Ends} {σ : L2.St} {H : Hp} (h : ∀ R : L2.St → Hp → Prop, (∀ σ H, u2 D σ H → R σ H) → u1 { D with nx := R } σ H) : tSeq u1 u2 D σ H := h _ fun _ _ z => z
theorem cut2 {u1 u2 u3 : TS} {D : L2.Ends} {σ : L2.St} {H : Hp} (h : ∀ R : L2.St → Hp → Prop, (∀ σ H, u3 D σ H → R σ H) → tSeq u1 (tSeq u2 fun _ => R) D σ H) : tSeq u1 (tSeq u2 u3) D σ H := h (u3 D) fun _ _ z => z
theorem cut3 {u1 u2 u3 u4 : TS} {D : L2.Ends} {σ : L2.St} {H : Hp} (h : ∀ R : L2.St → Hp → Prop, (∀ σ H, u4 D σ H → R σ H) → tSeq u1 (tSeq u2 (tSeq u3 fun _ => R)) D σ H) : tSeq u1 (tSeq u2 (tSeq u3 u4)) D σ H := h (u4 D) fun _ _ z => z
theorem goL {X : Cx} {ss : List Stmt} {G : TS → Prop} (h : ∃ t, L3.SL X ss t ∧ G t) : ∃ t, PSs X ss t ∧ G t := let ⟨t, a, b⟩ := h; ⟨t, a.h, b⟩
theorem normS {F : L2.St → Hp → Prop} {σ : L2.St} {H : Hp} (σ' : L2.St) (e : σ = σ') (h : F σ' H) : F σ H := by subst e; exact h
theorem normH {F : L2.St → Hp → Prop} {σ : L2.St} {H : Hp} (H' : Hp) (e : H = H') (h : F σ H') : F σ H := by subst e; exact h
theorem mod_lo {k n : Int} (h : 0 < n) : 0 ≤ k % n := Int.emod_nonneg _ (by omega)
theorem mod_hi {k n : Int} (h : 0 < n) : k % n < n := Int.emod_lt_of_pos _ h
theorem int_ne {a b : Int} (c : ¬ decide (V.int a = V.int b) = true) : a ≠ b := fun z => c (decide_eq_true (by rw [z]))
theorem atI_all {P : V → Prop} {xs : List V} {r : Int} (h0 : 0 ≤ r) (h1 : r < (xs.length : Int)) (h : ∀ x ∈ xs, P x) : ∃ x, atI xs r = some x ∧ P x := let ⟨x, h2, h3⟩ := atI_v h0 h1; ⟨x, h3, h x (List.mem_of_getElem? h2)⟩
/-! ### nodes with picks -/
inductive Np where
  | put (x : Str) (s : E) (n : Int) | say (s : E) (n : Int) | test (c : E) (n o : Int) | pick (x : Str) (n : Int) | fin
def NpAt (H : Hp) : V → Np → Prop
  | v, .put x s n => ∃ u, Tp H v [.str "put", .str x, u, .int n] ∧ EAt H u s
  | v, .say s n => ∃ u, Tp H v [.str "say", u, .int n] ∧ EAt H u s
  | v, .test c n o => ∃ u, Tp H v [.str "test", u, .int n, .int o] ∧ EAt H u c
  | v, .pick x n => Tp H v [.str "pick", .str x, .int n]
  | v, .fin => Tp H v [.str "end"]
theorem NpAt.keep {H H' : Hp} (k : TK H H') : ∀ {e : Np} {v : V}, NpAt H v e → NpAt H' v e
  | .put _ _ _, _, ⟨u, h, a⟩ => ⟨u, h.keep k, a.keep k⟩
  | .say _ _, _, ⟨u, h, a⟩ => ⟨u, h.keep k, a.keep k⟩
  | .test _ _ _, _, ⟨u, h, a⟩ => ⟨u, h.keep k, a.keep k⟩
  | .pick _ _, _, h => Tp.keep k h
  | .fin, _, h => Tp.keep k h
/-! ### the reel -/
def Reel (H : Hp) (r : Addr) : Prop := ∃ a b : Int, H r = some (.lst [.int a, .int b]) ∧ 0 ≤ b ∧ b < 2147483647
structure Rl (r : Addr) (H H' : Hp) : Prop where
  rl : Reel H' r
  k : ∀ b o, b ≠ r → H b = some o → H' b = some o
section
variable {r p : Addr} {H H1 H2 : Hp} {o : HO}
theorem Reel.same (h : Reel H r) (s : Same H H1) : Reel H1 r := let ⟨a, b, h1, h2⟩ := h; ⟨a, b, s _ _ h1, h2⟩
theorem Reel.ne (h : Reel H r) (hp : H p = none) : p ≠ r := fun e => by
  obtain ⟨a, b, h1, _⟩ := h
  rw [e, h1] at hp
  cases hp
theorem Rl.refl (h : Reel H r) : Rl r H H := ⟨h, fun _ _ _ z => z⟩
theorem Rl.trans (a : Rl r H H1) (b : Rl r H1 H2) : Rl r H H2 := ⟨b.rl, fun c o n z => b.k c o n (a.k c o n z)⟩
theorem Rl.of (h : Reel H r) (s : Same H H1) : Rl r H H1 := ⟨h.same s, fun b o _ z => s b o z⟩
theorem Rl.new (h : Reel H r) (hp : H p = none) : Rl r H (upd H p o) := Rl.of h (same_new hp o)
theorem Rl.tk (h : Reel H r) (l : Rl r H H1) : TK H H1 := fun b xs z => l.k b _ (fun e => by
  obtain ⟨a, c, h1, _⟩ := h
  rw [e, h1] at z
  cases z) z
/-- a list that was laid since may be replaced -/
theorem Rl.put (l : Rl r H H1) (n : p ≠ r) (hp : H p = none) : Rl r H (upd H1 p o) := ⟨let ⟨a, b, h1, h2⟩ := l.rl; ⟨a, b, by rw [upd_ne n.symm]; exact h1, h2⟩, fun b ob nb z => by rw [upd_ne (ne_of_none z hp)]; exact l.k b ob nb z⟩
theorem Rl.no (l : Rl r H H1) (n : p ≠ r) (h : H1 p = none) : H p = none := by
  match e : H p with
  | none => rfl
  | some o => rw [l.k _ _ n e] at h; cases h
end
/-! ### _law_reel, _law_take -/
abbrev sReel : Stmt := top 28
abbrev sTake : Stmt := top 29
def spReel : Sp := fun vs H Q _ => ∃ c : Int, vs = [.int c] ∧ ∀ (r : Addr) (a b : Int), H r = none → 0 ≤ b → b < 2147483647 → Q (.ref r) (upd H r (.lst [.int a, .int b]))
theorem scReel : FnScope ["cell"] ["cell"] (defScope sReel) := ⟨rfl, rfl, rfl, by decide +kernel, rfl, by decide +kernel, by decide +kernel⟩
theorem gReel_abs : (defScope sReel).names.lookup (Str.ofString "abs") = some .globalImplicit := by decide +kernel
theorem ok_reel {f : Addr} {fd : FuncData} (F : Fun K "_law_reel" "_law_reel" sReel f fd) (m_abs : mg "abs" = none) : FnOk P w K mg base CX0 1 f fd ["cell"] spReel := by
  refine F.ok scReel (fun vs H Q E h => ?_) (fun cdv A outer s H vs Q E hr h => ?_)
  · obtain ⟨c, rfl, _⟩ := h
    rfl
  · obtain ⟨c, rfl, q⟩ := h
    refine goL ⟨_, (L3.one (L3.ret (L3.lst (L3.k (L3.callB L3.c_abs gReel_abs m_abs (by decide +kernel) (L3.k (L3.v 0) L3.n)) (L3.k (L3.op L3.o_mod (L3.op L3.o_mul (L3.op L3.o_add (L3.op L3.o_mod (L3.v 0) L3.int) L3.int) L3.int) L3.int) L3.n))))), ?_⟩
    exact ⟨_, rfl, _, rfl, _, rfl, _, _, rfl, rfl, (by show (0 : Int) < 2147483647; decide), _, _, rfl, rfl, _, _, rfl, rfl, .inr ⟨by decide, by decide⟩, _, _, rfl, rfl, (by show (0 : Int) < 2147483647; decide), (by show 2 ≤ sizeLine; decide), fun r hr => q r _ _ hr (mod_lo (by decide)) (mod_hi (by decide))⟩
theorem has_reel (s : Src K mg "_law_reel" sReel) (m_abs : mg "abs" = none) : Has P w K mg base "_law_reel" ["cell"] 1 spReel :=
  let ⟨f, fd, F, m⟩ := s
  ⟨f, fd, ok_reel F m_abs, F.kp, bnd1 F fun _ _ _ _ _ _ _ => rfl, m⟩
def spTake : Sp := fun vs H Q _ => ∃ (r : Addr) (m : Int), vs = [.ref r, .int m] ∧ Reel H r ∧ 0 < m ∧ m < 2 ^ 60 ∧ ∀ (k : Int) (H' : Hp), 0 ≤ k → k < m → Rl r H H' → Q (.int k) H'
theorem scTake : FnScope ["reel", "many", "found", "stir"] ["reel", "many"] (defScope sTake) := ⟨rfl, rfl, rfl, by decide +kernel, rfl, by decide +kernel, by decide +kernel⟩
theorem ok_take {f : Addr} {fd : FuncData} (F : Fun K "_law_take" "_law_take" sTake f fd) : FnOk P w K mg base CX0 1 f fd ["reel", "many"] spTake := by
  refine F.ok scTake (fun vs H Q E h => ?_) (fun cdv A outer s H vs Q E hr h => ?_)
  · obtain ⟨r, m, rfl, _⟩ := h
    rfl
  · obtain ⟨r, m, rfl, ⟨a, b, hr0, b0, b1⟩, m0, m1, q⟩ := h
    refine goL ⟨_, (L3.cons (L3.ifs (L3.cmp L3.o_ge (L3.ix L3.ixL (L3.v 0) L3.int) (L3.op L3.o_pow L3.int L3.int)) (L3.cons (L3.set 2 scTake.nd (L3.op L3.o_mod (L3.ix L3.ixL (L3.v 0) L3.int) (L3.v 1)))
      (L3.cons (L3.asg (L3.op L3.o_div (L3.ix L3.ixL (L3.v 0) L3.int) (L3.v 1)) (L3.gset (L3.v 0) L3.int))
      (L3.one (L3.ret (L3.v 2))))) L3.nil)
      (L3.cons (L3.asg (L3.op L3.o_mod (L3.op L3.o_add (L3.op L3.o_mul (L3.ix L3.ixL (L3.v 0) L3.int) L3.int) L3.int) L3.int) (L3.gset (L3.v 0) L3.int))
      (L3.cons (L3.set 3 scTake.nd (L3.op L3.o_mod (L3.op L3.o_mul (L3.ix L3.ixL (L3.v 0) L3.int) (L3.ix L3.ixL (L3.v 0) L3.int)) L3.int))
      (L3.one (L3.ret (L3.op L3.o_mod (L3.op L3.o_div (L3.op L3.o_mod (L3.op L3.o_mul (L3.v 3) L3.int) L3.int) L3.int) (L3.v 1))))))), ?_⟩
    have fin : ∀ (k a' b' : Int), 0 ≤ k → k < m → 0 ≤ b' → b' < 2147483647 → Q (.int k) (upd H r (.lst [.int a', .int b'])) := fun k a' b' k0 k1 c0 c1 => q k _ k0 k1 ⟨⟨a', b', upd_same, c0, c1⟩, fun c o n z => by rw [upd_ne n]; exact z⟩
    refine cut1 fun Rk kR => ?_
    refine ⟨_, rfl, r, _, _, _, rfl, rfl, SqL.of hr0, rfl, _, _, rfl, rfl, ⟨by decide, by decide, by decide⟩, _, _, rfl, rfl, _, rfl, ?_⟩
    refine ite2 (fun _ => ?_) (fun _ => ?_)
    · refine ⟨_, rfl, r, _, _, _, rfl, rfl, SqL.of hr0, rfl, _, rfl, _, _, rfl, rfl, m0, ?_⟩
      refine ⟨_, rfl, r, _, _, _, rfl, rfl, SqL.of hr0, rfl, _, rfl, _, _, rfl, rfl, ⟨m0, Int.lt_trans m1 (by decide +kernel)⟩, _, rfl, r, _, _, _, rfl, rfl, hr0, rfl, ?_⟩
      exact ⟨_, rfl, fin _ _ b (mod_lo m0) (mod_hi m0) b0 b1⟩
    refine kR _ _ ?_
    refine cut1 fun Rk kR => ?_
    refine ⟨_, rfl, r, _, _, _, rfl, rfl, SqL.of hr0, rfl, _, _, rfl, rfl, .inr ⟨by decide, by decide⟩, _, _, rfl, rfl, _, _, rfl, rfl, (by show (0 : Int) < 2147483647; decide), _, rfl, r, _, _, _, rfl, rfl, hr0, rfl, ?_⟩
    obtain ⟨b', eb, c0, c1⟩ : ∃ b', b' = (b * 48271 + 11) % 2147483647 ∧ 0 ≤ b' ∧ b' < 2147483647 := ⟨_, rfl, mod_lo (by decide), mod_hi (by decide)⟩
    refine kR _ _ ?_
    refine normH (upd H r (.lst [.int a, .int b'])) (by subst eb; rfl) ?_
    have hr1 : (upd H r (.lst [.int a, .int b'])) r = some (.lst [.int a, .int b']) := upd_same
    refine ⟨_, rfl, r, _, _, _, rfl, rfl, SqL.of hr1, rfl, _, rfl, r, _, _, _, rfl, rfl, SqL.of hr1, rfl, _, _, rfl, rfl, .inl ⟨by omega, by omega⟩, _, _, rfl, rfl, (by show (0 : Int) < 2147483629; decide), ?_⟩
    refine ⟨_, rfl, _, _, rfl, rfl, .inr ⟨by decide, by decide⟩, _, _, rfl, rfl, (by show (0 : Int) < 2147483587; decide), _, _, rfl, rfl, ⟨by decide, by decide +kernel⟩, _, rfl, _, _, rfl, rfl, m0, ?_⟩
    exact fin _ _ b' (mod_lo m0) (mod_hi m0) c0 c1
theorem has_take (s : Src K mg "_law_take" sTake)  : Has P w K mg base "_law_take" ["reel", "many"] 1 spTake :=
  let ⟨f, fd, F, m⟩ := s
  ⟨f, fd, ok_take F , F.kp, bnd2 F fun _ _ _ _ _ _ _ _ => rfl, m⟩
end
end TW
set_option Elab.async false
set_option linter.all false
set_option maxRecDepth 100000
namespace TW
open PySem L2
/-! ### a def with defaults: dV is the tuple of them -/
/-- a tuple of texts at the top -/
def TupC (K : PySem.W.Frag) (mg : Str → Option Value) (x : Str) (xs : List Str) : Prop := ∃ t, mg x = some (.ref t) ∧ ∀ H : Hp, SqT K H t (xs.map V.str)
theorem clsMro_of {K : PySem.W.Frag} {C : Addr} {cd : ClassData} {l : List Value} (h : PySem.W.clsIn K C = some cd) (m : cd.mro = l) : clsMro K C = some l := by
  unfold PySem.W.clsIn at h
  unfold clsMro
  split at h
  · rename_i e
    cases h
    rw [e, ← m]
  · cases h
structure Rfs (K : PySem.W.Frag) (mg : Str → Option Value) (T cNoProgram dNoChange dNoForm dNoNode dNoPair dNoPaper dNoPicks dNoRow dNoWorths dNoneYet dTooMany : Addr) : Prop where
  t : Xc K mg "TwinError" T vE
  x_NoProgram : Xc K mg "NoProgram" cNoProgram (.ref T :: vE)
  k_NoProgram : XcK K cNoProgram
  o_NoProgram : PySem.W.kitAny K (.ref cNoProgram) [.ref dNoChange, .ref dNoForm, .ref dNoNode, .ref dNoPair, .ref dNoPaper, .ref dNoPicks, .ref dNoRow, .ref dNoWorths, .ref dNoneYet, .ref dTooMany] = some false
  v_NoProgram : PySem.W.kitOne K (.ref cNoProgram) (.type "ValueError") = some true
  i_NoProgram_NoProgram : PySem.W.kitOne K (.ref cNoProgram) (.ref cNoProgram) = some true
  tn : PySem.W.kitAny K (.type "tuple") [.ref dNoChange, .ref dNoForm, .ref dNoNode, .ref dNoPair, .ref dNoPaper, .ref dNoPicks, .ref dNoRow, .ref dNoWorths, .ref dNoneYet, .ref dTooMany] = some false
  tn_NoProgram : PySem.W.kitOne K (.type "tuple") (.ref cNoProgram) = some false
  m_NoChange : mg "NoChange" = some (.ref dNoChange)
  m_NoForm : mg "NoForm" = some (.ref dNoForm)
  m_NoNode : mg "NoNode" = some (.ref dNoNode)
  m_NoPair : mg "NoPair" = some (.ref dNoPair)
  m_NoPaper : mg "NoPaper" = some (.ref dNoPaper)
  m_NoPicks : mg "NoPicks" = some (.ref dNoPicks)
  m_NoRow : mg "NoRow" = some (.ref dNoRow)
  m_NoWorths : mg "NoWorths" = some (.ref dNoWorths)
  m_NoneYet : mg "NoneYet" = some (.ref dNoneYet)
  m_TooMany : mg "TooMany" = some (.ref dTooMany)
theorem xc_mk {K : PySem.W.Frag} {h : Heap} {mg : Str → Option Value} {x : Str} {C : Addr} {cd : ClassData} {tl : List Value} (X : K.In h) (G : h.Ns mainGlobals mg) (a : PySem.W.nsIn K mainGlobals x = some (some (.ref C))) (e : PySem.W.excIn K C vE "ValueError.__new__" = true) (l : PySem.W.clsIn K C = some cd) (m : cd.mro = .ref C :: tl) : Xc K mg x C tl := ⟨PySem.W.mg_of X G a, e, clsMro_of l m⟩
theorem xck_mk {K : PySem.W.Frag} {C : Addr} {cd : ClassData} (ga : PySem.W.findIn K (.ref C) "__getattribute__" = some (some (.builtin "BaseException.__getattribute__"))) (gn : PySem.W.findIn K (.ref C) "__getattr__" = some none) (ha : PySem.W.findIn K (.ref C) "__class__" = some (some (.builtin "object.__class__"))) (hn : PySem.W.specialIn K (.builtin "object.__class__") "__get__" = some (some (.builtin "getset_descriptor.__get__"))) (htk : PySem.W.takesIn K (.builtin "object.__class__") = some true) (hm : PySem.W.mroIn K C (.type "object") = some true) (hb : PySem.W.mroIn K C (.type "BaseException") = some true) (l : PySem.W.clsIn K C = some cd) : XcK K C := ⟨ga, gn, ha, hn, htk, hm, hb, by rw [l]; rfl⟩
theorem tupC_mk {K : PySem.W.Frag} {h : Heap} {mg : Str → Option Value} {x : Str} {t : Addr} {od : Option Addr} {sl : Array (Option Value)} {n : Nat} {us : Array Value} {xs : List Str} (X : K.In h) (G : h.Ns mainGlobals mg) (a : PySem.W.nsIn K mainGlobals x = some (some (.ref t))) (l : K.lookup t = some ⟨.type "tuple", od, .seq us n, sl⟩) (b : us.size ≤ sizeLine) (e : us.toList.length = xs.length) (r : Vals (xs.map V.str) us.toList) : TupC K mg x xs := ⟨_, PySem.W.mg_of X G a, fun _ => .inr ⟨_, _, _, l, rfl, rfl, b, r⟩⟩
theorem src_mk {K : PySem.W.Frag} {h : Heap} {mg : Str → Option Value} {x : Str} {st : Stmt} {od an : Option Addr} {sl : Array (Option Value)} {oc kV dc pm cd ct : Value} {f : Addr} (X : K.In h) (G : h.Ns mainGlobals mg) (a : PySem.W.nsIn K mainGlobals x = some (some (.ref f)))
    (l : K.lookup f = some ⟨oc, od, .func (PySem.W.fnOf x x (defArgs st) (defBody st) (defScope st) .none kV dc pm an cd ct), sl⟩) (c : PySem.W.codeIn K cd x = true) (k : PySem.W.keepIn K (.ref f) = true) : Src K mg x st := ⟨_, _, fun_mk l c k, PySem.W.mg_of X G a⟩
structure Tops (K : PySem.W.Frag) (mg : Str → Option Value) : Prop where
  s_program_of : Src K mg "program_of" (top 16)
  s_refuse_boxes : Src K mg "refuse_boxes" (top 17)
  s_refuse_inputs : Src K mg "refuse_inputs" (top 18)
  s_refuse_nodes : Src K mg "refuse_nodes" (top 19)
  s_leads_of : Src K mg "leads_of" (top 20)
  s_told_by : Src K mg "told_by" (top 21)
  s_refuse_unknown : Src K mg "refuse_unknown" (top 22)
  s_all_known : Src K mg "all_known" (top 23)
  s_picked_program : Src K mg "picked_program" (top 25)
  s_law_cell_at : Src K mg "_law_cell_at" (top 27)
  s_law_reel : Src K mg "_law_reel" (top 28)
  s_law_take : Src K mg "_law_take" (top 29)
  s_law_names : Src K mg "_law_names" (top 30)
  s_law_sum : Src K mg "_law_sum" (top 31)
  s_law_condition : Src K mg "_law_condition" (top 32)
  s_law_node : Src K mg "_law_node" (top 33)
  s_law_boxes : Src K mg "_law_boxes" (top 34)
  s_law_alike : Src K mg "_law_alike" (top 35)
  s_law_bent : Src K mg "_law_bent" (top 36)
  s_law_told : Src K mg "_law_told" (top 37)
  s_law_is_refusal : Src K mg "_law_is_refusal" (top 38)
  s_law : Src K mg "law" (top 39)
  c_PARTED : TupC K mg "PARTED" ["plus", "less", "same", "under", "not", "both"]
  c_NAMELESS : TupC K mg "NAMELESS" ["number", "yes"]
  cl : ∃ T cNoProgram dNoChange dNoForm dNoNode dNoPair dNoPaper dNoPicks dNoRow dNoWorths dNoneYet dTooMany, Rfs K mg T cNoProgram dNoChange dNoForm dNoNode dNoPair dNoPaper dNoPicks dNoRow dNoWorths dNoneYet dTooMany
  m_len : mg "len" = none
  m_list : mg "list" = none
  m_range : mg "range" = none
  m_int : mg "int" = none
  m_isinstance : mg "isinstance" = none
  m_bool : mg "bool" = none
  m_set : mg "set" = none
  m_tuple : mg "tuple" = none
  m_min : mg "min" = none
  m_abs : mg "abs" = none
  m_str : mg "str" = none
  m_ValueError : mg "ValueError" = none
end TW
set_option Elab.async false
set_option linter.all false
set_option maxRecDepth 100000
set_option exponentiation.threshold 4000
set_option maxHeartbeats 1000000
namespace TW
open PySem L2
section
variable {P : Program} {w : World} {K : PySem.W.Frag} {mg : Str → Option Value} {base : Heap}
theorem map_get {α β : Type} {f : α → β} {l : List α} {i : Nat} {y : β} (h : (l.map f)[i]? = some y) : ∃ x, l[i]? = some x ∧ y = f x := by
  rw [List.getElem?_map] at h
  obtain ⟨x, h1, h2⟩ := Option.map_eq_some_iff.mp h
  exact ⟨x, h1, h2.symm⟩
def wOf : List (Str × Int) → List Int → Str → Int
  | b :: bs, w :: ws, x => if b.1 = x then w else wOf bs ws x
  | _, _, _ => 0
def knKvs (side : Str) : List (Str × Int) → List Int → List (List Key × V)
  | b :: bs, w :: ws => ([.inr side, .inr b.1], .int w) :: knKvs side bs ws
  | _, _ => []
theorem knKvs_len (side : Str) : ∀ (bs : List (Str × Int)) (ws : List Int), (knKvs side bs ws).length ≤ bs.length
  | [], _ => by simp [knKvs]
  | _ :: _, [] => by simp [knKvs]
  | _ :: bs, _ :: ws => by simp [knKvs]; exact knKvs_len side bs ws
theorem knKvs_val (side : Str) : ∀ (bs : List (Str × Int)) (ws : List Int) (x : Str), bs.length = ws.length → x ∈ bs.map (·.1) → valV (knKvs side bs ws) [.inr side, .inr x] = some (.int (wOf bs ws x))
  | [], _, _, _, h => by simp at h
  | _ :: _, [], _, h, _ => by simp at h
  | b :: bs, w :: ws, x, hl, hx => by
    show valV (([.inr side, .inr b.1], V.int w) :: knKvs side bs ws) _ = some (.int (if b.1 = x then w else wOf bs ws x))
    by_cases e : b.1 = x
    · rw [if_pos e, valV_pos (p := (([.inr side, .inr b.1] : List Key), V.int w)) (by rw [← e])]
    · rw [if_neg e, valV_neg (p := (([.inr side, .inr b.1] : List Key), V.int w)) (fun z => by injection z with _ z; injection z with z _; injection z with z; exact e z)]
      refine knKvs_val side bs ws x (by simpa using hl) ?_
      rcases List.mem_cons.mp hx with z | z
      · exact absurd z.symm e
      · exact z
theorem knKvs_none (side : Str) : ∀ (bs : List (Str × Int)) (ws : List Int) (s x : Str), (s = side → x ∉ bs.map (·.1)) → valV (knKvs side bs ws) [.inr s, .inr x] = none
  | [], _, _, _, _ => rfl
  | _ :: _, [], _, _, _ => rfl
  | b :: bs, w :: ws, s, x, h => by
    show valV (([.inr side, .inr b.1], V.int w) :: knKvs side bs ws) _ = none
    rw [valV_neg (p := (([.inr side, .inr b.1] : List Key), V.int w)) (fun z => by injection z with z1 z; injection z1 with z1; injection z with z _; injection z with z; exact h z1.symm (List.mem_cons.mpr (.inl z.symm)))]
    exact knKvs_none side bs ws s x fun e z => h e (List.mem_cons.mpr (.inr z))
theorem putK_new {κ : Type} [DecidableEq κ] {kvs : List (κ × V)} {k : κ} {v : V} (h : valV kvs k = none) : putK kvs k v = kvs ++ [(k, v)] := by
  unfold putK
  rw [valV_any, h]
  rfl
theorem knKvs_snoc (side : Str) : ∀ (bs : List (Str × Int)) (ws : List Int) (b : Str × Int) (w : Int), bs.length = ws.length → knKvs side (bs ++ [b]) (ws ++ [w]) = knKvs side bs ws ++ [([.inr side, .inr b.1], .int w)]
  | [], [], _, _, _ => rfl
  | [], _ :: _, _, _, h => by simp at h
  | _ :: _, [], _, _, h => by simp at h
  | b :: bs, w :: ws, c, v, h => by
    show _ :: knKvs side (bs ++ [c]) (ws ++ [v]) = _
    rw [knKvs_snoc side bs ws c v (by simpa using h)]
    rfl
theorem nd_take {bs : List (Str × Int)} (nd : (bs.map (·.1)).Nodup) {i : Nat} {b : Str × Int} (h : bs[i]? = some b) : b.1 ∉ (bs.take i).map (·.1) := by
  intro z
  have hi : i < bs.length := (List.getElem?_eq_some_iff.mp h).1
  have e : bs[i] = b := (List.getElem?_eq_some_iff.mp h).2
  obtain ⟨c, hc, e2⟩ := List.mem_map.mp z
  obtain ⟨j, hj, e3⟩ := List.getElem_of_mem hc
  have hj' : j < i := by rw [List.length_take] at hj; omega
  rw [List.getElem_take] at e3
  have k1 : (bs.map (·.1))[j]'(by rw [List.length_map]; omega) = (bs.map (·.1))[i]'(by rw [List.length_map]; omega) := by
    rw [List.getElem_map, List.getElem_map, e3, e, e2]
  exact (List.pairwise_iff_getElem.mp nd) j i _ _ hj' k1
abbrev bxP (bs : List (Str × Int)) : Str → Str → Prop := fun t y => t = "box" ∧ y ∈ bs.map (·.1)
end
end TW
set_option Elab.async false
set_option linter.all false
set_option maxRecDepth 100000
set_option exponentiation.threshold 4000
set_option maxHeartbeats 1000000
namespace TW
open PySem L2
section
variable {P : Program} {w : World} {K : PySem.W.Frag} {mg : Str → Option Value} {base : Heap}
theorem EAt.same {H H' : Hp} {v : V} {e : E} (h : EAt H v e) (s : Same H H') : EAt H' v e := EAt.keep (Same.tk s) h
/-! ### all_known -/
/-! ### refuse_unknown -/
end
end TW
set_option Elab.async false
set_option linter.all false
set_option maxRecDepth 100000
set_option exponentiation.threshold 4000
set_option maxHeartbeats 1000000
namespace TW
open PySem L2
end TW
set_option Elab.async false
set_option linter.all false
set_option maxRecDepth 100000
set_option exponentiation.threshold 4000
set_option maxHeartbeats 1000000
namespace TW
open PySem L2
section
variable {P : Program} {w : World} {K : PySem.W.Frag} {mg : Str → Option Value} {base : Heap}
abbrev sAllKnownB : Stmt := top 23
abbrev sRefUnkX : Stmt := top 22
/-! ### all_known, either answer -/
def E.knows (f : Str → Str → Bool) : E → Bool
  | .num _ => true | .box t x => f t x | .yes => true | .nt a => a.knows f | .two _ a b => a.knows f && b.knows f
def inKv (kvs : List (List Key × V)) (t x : Str) : Bool := (valV kvs [.inr t, .inr x]).isSome
abbrev tagB : Str → Str → Prop := fun t _ => t = "box"
def spKnownB (n : Nat) : Sp := fun vs H Q _ => ∃ (a : Addr) (v : V) (e : E) (kvs : List (List Key × V)), vs = [.ref a, v] ∧ H a = some (.dT kvs) ∧ EAt H v e ∧ e.okIn tagB ∧ e.dep < n ∧ ∀ H', Same H H' → Q (.bl (e.knows (inKv kvs))) H'
theorem scAllKnownB : FnScope ["known", "told", "part"] ["known", "told"] (defScope sAllKnownB) := ⟨rfl, rfl, rfl, by decide +kernel, rfl, by decide +kernel, by decide +kernel⟩
theorem gAllKnownB_all_known : (defScope sAllKnownB).names.lookup (Str.ofString "all_known") = some .globalImplicit := by decide +kernel
theorem gAllKnownB_NAMELESS : (defScope sAllKnownB).names.lookup (Str.ofString "NAMELESS") = some .globalImplicit := by decide +kernel
theorem gAllKnownB_PARTED : (defScope sAllKnownB).names.lookup (Str.ofString "PARTED") = some .globalImplicit := by decide +kernel
theorem ok_knownB {n : Nat} {f : Addr} {fd : FuncData} (F : Fun K "all_known" "all_known" sAllKnownB f fd) (N : TupC K mg "NAMELESS" ["number", "yes"]) (PT : TupC K mg "PARTED" ["plus", "less", "same", "under", "not", "both"])
    (G : Has P w K mg base "all_known" ["known", "told"] (n + 1) (spKnownB n)) : FnOk P w K mg base CX0 (n + 2) f fd ["known", "told"] (spKnownB (n + 1)) := by
  obtain ⟨tn, mN, cN⟩ := N
  obtain ⟨tp, mP, cP⟩ := PT
  refine F.ok scAllKnownB (fun vs H Q E h => ?_) (fun cdv A outer s H vs Q E hr h => ?_)
  · obtain ⟨a, v, e, kvs, rfl, _⟩ := h
    rfl
  · obtain ⟨a, v, e, kvs, rfl, hk, ev, ok, hd, q⟩ := h
    refine ⟨_, L3.run (L3.cons (L3.ifs (L3.cmp L3.o_in (L3.ix L3.ixT (L3.v 1) L3.int) (L3.glob (w := .ref tn) gAllKnownB_NAMELESS mN rfl) (by rfl)) (L3.one (L3.ret L3.bl)) L3.nil)
      (L3.cons (L3.ifs (L3.cmp L3.o_notIn (L3.ix L3.ixT (L3.v 1) L3.int) (L3.glob (w := .ref tp) gAllKnownB_PARTED mP rfl) (by rfl)) (L3.one (L3.ret (L3.dinE (up_ne hr _ (by decide)) (L3.v 1) (L3.v 0)))) L3.nil)
      (L3.cons (L3.for_ (L3.iT (L3.slT1 (L3.v 1) L3.int)) (L3.gn 2 scAllKnownB.nd) (L3.one (L3.ifs (L3.nt (L3.tval (L3.own G hr gAllKnownB_all_known (L3.k (L3.v 0) (L3.k (L3.v 2) L3.n))))) (L3.one (L3.ret L3.bl)) L3.nil)))
      (L3.one (L3.ret L3.bl))))), ?_⟩
    cases e with
    | num m =>
      obtain ⟨p, rfl, hp⟩ := ev
      refine ⟨_, rfl, p, _, _, _, rfl, rfl, SqT.of hp, rfl, tn, _, rfl, .inr (cN _), rfl, rfl, _, rfl, ?_⟩
      refine ite2 (fun _ => ?_) (fun c => absurd (show inV (.str "number") _ = true by decide) c)
      exact q _ (same_refl _)
    | yes =>
      obtain ⟨p, rfl, hp⟩ := ev
      refine ⟨_, rfl, p, _, _, _, rfl, rfl, SqT.of hp, rfl, tn, _, rfl, .inr (cN _), rfl, rfl, _, rfl, ?_⟩
      refine ite2 (fun _ => ?_) (fun c => absurd (show inV (.str "yes") _ = true by decide) c)
      exact q _ (same_refl _)
    | box t x =>
      obtain ⟨p, rfl, hp⟩ := ev
      have ht : t = "box" := ok
      subst ht
      have g := DGet.t (k := [.inr "box", .inr x]) hk hp
      refine ⟨_, rfl, p, _, _, _, rfl, rfl, SqT.of hp, rfl, tn, _, rfl, .inr (cN _), rfl, rfl, _, rfl, ?_⟩
      refine ite2 (fun c => absurd c (by decide)) (fun _ => ?_)
      refine ⟨_, rfl, p, _, _, _, rfl, rfl, SqT.of hp, rfl, tp, _, rfl, .inr (cP _), rfl, rfl, _, rfl, ?_⟩
      refine ite2 (fun _ => ?_) (fun c => absurd (by decide) c)
      exact ⟨_, rfl, _, rfl, a, _, rfl, g, q _ (same_refl _)⟩
    | nt e1 =>
      obtain ⟨x, ⟨p, rfl, hp⟩, ax⟩ := ev
      have hd' : e1.dep + 1 < n + 1 := hd
      have ok1 : e1.okIn tagB := ok
      refine ⟨_, rfl, p, _, _, _, rfl, rfl, SqT.of hp, rfl, tn, _, rfl, .inr (cN _), rfl, rfl, _, rfl, ?_⟩
      refine ite2 (fun c => absurd c (by decide)) (fun _ => ?_)
      refine ⟨_, rfl, p, _, _, _, rfl, rfl, SqT.of hp, rfl, tp, _, rfl, .inr (cP _), rfl, rfl, _, rfl, ?_⟩
      refine ite2 (fun c => absurd c (by decide)) (fun _ => ?_)
      refine ⟨_, rfl, _, rfl, p, _, rfl, SqT.of hp, (fun z => absurd z.1 (show ¬ HT.sIx 2 0 (some 1) = 0 by decide)), fun l hl => ⟨l, rfl, ⟨_, SqT.of upd_same⟩, ?_⟩⟩
      refine for_tup (xs := [x]) (fun i σ H2 => (∃ pv, σ = [some (.ref a), some (.ref p), pv]) ∧ Same (upd H l (.tup [x])) H2 ∧ (1 ≤ i → e1.knows (inKv kvs) = true)) ⟨⟨_, rfl⟩, same_refl _, fun z => absurd z (by decide)⟩ (fun i σ H2 _ z => SqT.of (z.2.1 _ _ upd_same)) (fun i x0 σ H2 hx z => ?_) (fun σ H2 z => ?_)
      · obtain ⟨⟨pv, rfl⟩, z, _⟩ := z
        have s2 := same_trans (same_new hl _) z
        have hx0 : x0 = x := by
          match i, hx with
          | 0, hx => exact (Option.some.inj hx).symm
        subst hx0
        refine ⟨_, rfl, _, rfl, a, x0, e1, kvs, rfl, s2 _ _ hk, ax.same s2, ok1, by omega, fun H3 s3 => ⟨_, rfl, ?_⟩⟩
        refine ite2 (fun c => ?_) (fun c => ?_)
        · have c' : e1.knows (inKv kvs) = false := by cases zz : e1.knows (inKv kvs) <;> simp_all
          have q' := q H3 (same_trans s2 s3)
          rw [show (TW.E.nt e1).knows (inKv kvs) = false from c'] at q'
          exact q'
        · have c' : e1.knows (inKv kvs) = true := by cases zz : e1.knows (inKv kvs) <;> simp_all
          exact ⟨⟨_, rfl⟩, same_trans z s3, fun _ => c'⟩
      · have q' := q H2 (same_trans (same_new hl _) z.2.1)
        rw [show (TW.E.nt e1).knows (inKv kvs) = true from z.2.2 (by show 1 ≤ 1; decide)] at q'
        exact q'
    | two k e1 e2 =>
      obtain ⟨x, y, ⟨p, rfl, hp⟩, ax, ay⟩ := ev
      have hd' : max e1.dep e2.dep + 1 < n + 1 := hd
      have ok1 : e1.okIn tagB := ok.1
      have ok2 : e2.okIn tagB := ok.2
      refine ⟨_, rfl, p, _, _, _, rfl, rfl, SqT.of hp, rfl, tn, _, rfl, .inr (cN _), rfl, rfl, _, rfl, ?_⟩
      refine ite2 (fun c => absurd c (by cases k <;> decide)) (fun _ => ?_)
      refine ⟨_, rfl, p, _, _, _, rfl, rfl, SqT.of hp, rfl, tp, _, rfl, .inr (cP _), rfl, rfl, _, rfl, ?_⟩
      refine ite2 (fun c => absurd c (by cases k <;> decide)) (fun _ => ?_)
      refine ⟨_, rfl, _, rfl, p, _, rfl, SqT.of hp, (fun z => absurd z.1 (show ¬ HT.sIx 3 0 (some 1) = 0 by decide)), fun l hl => ⟨l, rfl, ⟨_, SqT.of upd_same⟩, ?_⟩⟩
      refine for_tup (xs := [x, y]) (fun i σ H2 => (∃ pv, σ = [some (.ref a), some (.ref p), pv]) ∧ Same (upd H l (.tup [x, y])) H2 ∧ (1 ≤ i → e1.knows (inKv kvs) = true) ∧ (2 ≤ i → e2.knows (inKv kvs) = true)) ⟨⟨_, rfl⟩, same_refl _, (fun z => absurd z (by decide)), fun z => absurd z (by decide)⟩ (fun i σ H2 _ z => SqT.of (z.2.1 _ _ upd_same)) (fun i x0 σ H2 hx z => ?_) (fun σ H2 z => ?_)
      · obtain ⟨⟨pv, rfl⟩, z, z1, z2⟩ := z
        have s2 := same_trans (same_new hl _) z
        have hx0 : ∃ e0, EAt H x0 e0 ∧ e0.okIn tagB ∧ e0.dep < n ∧ (e0.knows (inKv kvs) = false → (TW.E.two k e1 e2).knows (inKv kvs) = false) ∧ (e0.knows (inKv kvs) = true → (1 ≤ i + 1 → e1.knows (inKv kvs) = true) ∧ (2 ≤ i + 1 → e2.knows (inKv kvs) = true)) := by
          match i, hx, z1 with
          | 0, hx, _ => exact ⟨e1, (Option.some.inj hx) ▸ ax, ok1, by omega, fun c => by show (e1.knows _ && e2.knows _) = false; rw [c]; rfl, fun c => ⟨fun _ => c, fun z => absurd z (by decide)⟩⟩
          | 1, hx, z1 => exact ⟨e2, (Option.some.inj hx) ▸ ay, ok2, by omega, fun c => by show (e1.knows _ && e2.knows _) = false; rw [c, Bool.and_false], fun c => ⟨fun _ => z1 (by decide), fun _ => c⟩⟩
        obtain ⟨e0, a0, o0, d0, f0, t0⟩ := hx0
        refine ⟨_, rfl, _, rfl, a, x0, e0, kvs, rfl, s2 _ _ hk, a0.same s2, o0, d0, fun H3 s3 => ⟨_, rfl, ?_⟩⟩
        refine ite2 (fun c => ?_) (fun c => ?_)
        · have c' : e0.knows (inKv kvs) = false := by cases zz : e0.knows (inKv kvs) <;> simp_all
          have q' := q H3 (same_trans s2 s3)
          rw [f0 c'] at q'
          exact q'
        · have c' : e0.knows (inKv kvs) = true := by cases zz : e0.knows (inKv kvs) <;> simp_all
          exact ⟨⟨_, rfl⟩, same_trans z s3, t0 c'⟩
      · have q' := q H2 (same_trans (same_new hl _) z.2.1)
        rw [show (TW.E.two k e1 e2).knows (inKv kvs) = true by show (e1.knows _ && e2.knows _) = true; rw [z.2.2.1 (by show 1 ≤ 2; decide), z.2.2.2 (by show 2 ≤ 2; decide)]; rfl] at q'
        exact q'
theorem none_knownB {f : Addr} {fd : FuncData} : FnOk P w K mg base CX0 1 f fd ["known", "told"] (spKnownB 0) := by
  have no : ∀ vs H Q E, ¬ spKnownB 0 vs H Q E := fun vs H Q E h => by
    obtain ⟨_, _, _, _, _, _, _, _, h1, _⟩ := h
    omega
  exact ⟨fun vs H Q E h => absurd h (no vs H Q E), fun A outer s H args us vs Q E _ _ _ _ h => absurd h (no vs H Q E)⟩
theorem has_knownB (s : Src K mg "all_known" sAllKnownB) (N : TupC K mg "NAMELESS" ["number", "yes"]) (PT : TupC K mg "PARTED" ["plus", "less", "same", "under", "not", "both"]) : ∀ n : Nat, Has P w K mg base "all_known" ["known", "told"] (n + 1) (spKnownB n) := by
  obtain ⟨f, fd, F, m⟩ := s
  have b : Binds K fd ["known", "told"] [] := bnd2 F fun _ _ _ _ _ _ _ _ => rfl
  intro n
  have all : FnOk P w K mg base CX0 (n + 1) f fd ["known", "told"] (spKnownB n) := by
    induction n with
    | zero => exact none_knownB
    | succ n ih => exact ok_knownB F N PT ⟨f, fd, ih, F.kp, b, m⟩
  exact ⟨f, fd, all, F.kp, b, m⟩
/-! ### refuse_unknown, either way -/
def spRefUnkX (C : Addr) (n : Nat) : Sp := fun vs H Q X => ∃ (a : Addr) (v : V) (e : E) (kvs : List (List Key × V)), vs = [.ref a, v] ∧ H a = some (.dT kvs) ∧ EAt H v e ∧ e.okIn tagB ∧ e.dep < n ∧
  (e.knows (inKv kvs) = true → ∀ H', Same H H' → Q .non H') ∧ (e.knows (inKv kvs) = false → ∀ H', Same H H' → X (.ref C) none H')
theorem scRefUnkX : FnScope ["known", "told"] ["known", "told"] (defScope sRefUnkX) := ⟨rfl, rfl, rfl, by decide +kernel, rfl, by decide +kernel, by decide +kernel⟩
theorem gRefUnkX_all_known : (defScope sRefUnkX).names.lookup (Str.ofString "all_known") = some .globalImplicit := by decide +kernel
theorem gRefUnkX_NoProgram : (defScope sRefUnkX).names.lookup (Str.ofString "NoProgram") = some .globalImplicit := by decide +kernel
theorem ok_refUnkX {n : Nat} {C T : Addr} {f : Addr} {fd : FuncData} (F : Fun K "refuse_unknown" "refuse_unknown" sRefUnkX f fd) (cP : Xc K mg "NoProgram" C (.ref T :: vE)) (G : Has P w K mg base "all_known" ["known", "told"] (n + 1) (spKnownB n)) : FnOk P w K mg base (CX1 P w base) (n + 2) f fd ["known", "told"] (spRefUnkX C n) := by
  refine F.okX scRefUnkX (fun vs H Q E h => ?_) (fun cdv A outer s H vs Q E hr h => ?_)
  · obtain ⟨a, v, e, kvs, rfl, _⟩ := h
    rfl
  · obtain ⟨a, v, e, kvs, rfl, hk, ev, ok, hd, q1, q2⟩ := h
    refine ⟨_, L3.run (L3.one (L3.ifs (L3.nt (L3.tval (L3.own G hr gRefUnkX_all_known (L3.k (L3.v 0) (L3.k (L3.v 1) L3.n))))) (L3.one (L3.raise_ raisesX cP (by rfl) gRefUnkX_NoProgram (L3.k L3.str L3.n))) L3.nil)), ?_⟩
    refine ⟨_, rfl, _, rfl, a, v, e, kvs, rfl, hk, ev, ok, hd, fun H3 s3 => ⟨_, rfl, ?_⟩⟩
    refine ite2 (fun c => ?_) (fun c => ?_)
    · have c' : e.knows (inKv kvs) = false := by cases zz : e.knows (inKv kvs) <;> simp_all
      exact ⟨_, rfl, q2 c' _ s3⟩
    · have c' : e.knows (inKv kvs) = true := by cases zz : e.knows (inKv kvs) <;> simp_all
      exact q1 c' _ s3
theorem has_refUnkX {n : Nat} {C T : Addr} (s : Src K mg "refuse_unknown" sRefUnkX) (cP : Xc K mg "NoProgram" C (.ref T :: vE)) (G : Has P w K mg base "all_known" ["known", "told"] (n + 1) (spKnownB n)) : HasX P w K mg base "refuse_unknown" ["known", "told"] (n + 2) (spRefUnkX C n) :=
  let ⟨f, fd, F, m⟩ := s
  ⟨f, fd, ok_refUnkX F cP G, F.kp, bnd2 F fun _ _ _ _ _ _ _ _ => rfl, m⟩
end
end TW
set_option Elab.async false
set_option linter.all false
set_option maxRecDepth 100000
set_option exponentiation.threshold 4000
set_option maxHeartbeats 1000000
namespace TW
open PySem L2
section
variable {P : Program} {w : World} {K : PySem.W.Frag} {mg : Str → Option Value} {base : Heap}
abbrev sLeads : Stmt := top 20
abbrev sToldBy : Stmt := top 21
/-! ### leads_of, told_by -/
def Np.leads : Np → List Int
  | .put _ _ n => [n] | .say _ n => [n] | .test _ n o => [n, o] | .pick _ n => [n] | .fin => []
def Np.tolds : Np → List E
  | .put x s _ => [.box "box" x, s] | .say s _ => [s] | .test c _ _ => [c] | .pick x _ => [.box "box" x] | .fin => []
def spLeads : Sp := fun vs H Q _ => ∃ (v : V) (nd : Np), vs = [v] ∧ NpAt H v nd ∧ ∀ l H', Same H H' → H' l = some (.lst (nd.leads.map V.int)) → Q (.ref l) H'
theorem scLeads : FnScope ["node"] ["node"] (defScope sLeads) := ⟨rfl, rfl, rfl, by decide +kernel, rfl, by decide +kernel, by decide +kernel⟩
theorem ok_leads {f : Addr} {fd : FuncData} (F : Fun K "leads_of" "leads_of" sLeads f fd) : FnOk P w K mg base CX0 1 f fd ["node"] spLeads := by
  refine F.ok scLeads (fun vs H Q E h => ?_) (fun cdv A outer s H vs Q E hr h => ?_)
  · obtain ⟨v, nd, rfl, _⟩ := h
    rfl
  · obtain ⟨v, nd, rfl, hn, q⟩ := h
    refine ⟨_, L3.run (L3.cons (L3.ifs (L3.cmp L3.o_eq (L3.ix L3.ixT (L3.v 0) L3.int) L3.str) (L3.one (L3.ret (L3.lst L3.n))) L3.nil)
      (L3.cons (L3.ifs (L3.cmp L3.o_eq (L3.ix L3.ixT (L3.v 0) L3.int) L3.str) (L3.one (L3.ret (L3.lst (L3.k (L3.ix L3.ixT (L3.v 0) L3.int) L3.n)))) L3.nil)
      (L3.cons (L3.ifs (L3.cmp L3.o_in (L3.ix L3.ixT (L3.v 0) L3.int) (L3.tup (L3.k L3.str (L3.k L3.str L3.n))) (by rfl)) (L3.one (L3.ret (L3.lst (L3.k (L3.ix L3.ixT (L3.v 0) L3.int) L3.n)))) L3.nil)
      (L3.one (L3.ret (L3.lst (L3.k (L3.ix L3.ixT (L3.v 0) L3.int) (L3.k (L3.ix L3.ixT (L3.v 0) L3.int) L3.n)))))))), ?_⟩
    cases nd with
    | fin =>
      obtain ⟨x, rfl, hx⟩ := hn
      refine ⟨_, rfl, x, _, _, _, rfl, rfl, SqT.of hx, rfl, rfl, _, rfl, ?_⟩
      refine ite2 (fun _ => ?_) (fun c => absurd (decide_eq_true rfl) c)
      exact ⟨(by show 0 ≤ sizeLine; decide), fun l hl => q l _ (same_new hl _) upd_same⟩
    | put nm e n =>
      obtain ⟨u, ⟨x, rfl, hx⟩, eu⟩ := hn
      refine ⟨_, rfl, x, _, _, _, rfl, rfl, SqT.of hx, rfl, rfl, _, rfl, ?_⟩
      refine ite2 (fun c => absurd (of_decide_eq_true c) (by decide)) (fun _ => ?_)
      refine ⟨_, rfl, x, _, _, _, rfl, rfl, SqT.of hx, rfl, rfl, _, rfl, ?_⟩
      refine ite2 (fun _ => ?_) (fun c => absurd (decide_eq_true rfl) c)
      exact ⟨_, rfl, x, _, _, _, rfl, rfl, SqT.of hx, rfl, (by show 1 ≤ sizeLine; decide), fun l hl => q l _ (same_new hl _) upd_same⟩
    | say e n =>
      obtain ⟨u, ⟨x, rfl, hx⟩, eu⟩ := hn
      refine ⟨_, rfl, x, _, _, _, rfl, rfl, SqT.of hx, rfl, rfl, _, rfl, ?_⟩
      refine ite2 (fun c => absurd (of_decide_eq_true c) (by decide)) (fun _ => ?_)
      refine ⟨_, rfl, x, _, _, _, rfl, rfl, SqT.of hx, rfl, rfl, _, rfl, ?_⟩
      refine ite2 (fun c => absurd (of_decide_eq_true c) (by decide)) (fun _ => ?_)
      refine ⟨_, rfl, x, _, _, _, rfl, rfl, SqT.of hx, rfl, (by show 2 ≤ sizeLine; decide), fun t0 ht0 => ⟨t0, _, rfl, .inr (SqT.of upd_same), rfl, rfl, _, rfl, ?_⟩⟩
      have s0 := same_new ht0 (.tup [.str "say", .str "pick"])
      generalize upd H t0 (.tup [.str "say", .str "pick"]) = H0 at s0 ⊢
      have hx := s0 _ _ hx
      refine ite2 (fun _ => ?_) (fun c => absurd (show inV (.str "say") _ = true by decide) c)
      exact ⟨_, rfl, x, _, _, _, rfl, rfl, SqT.of hx, rfl, (by show 1 ≤ sizeLine; decide), fun l hl => q l _ (same_trans s0 (same_new hl _)) upd_same⟩
    | pick nm n =>
      obtain ⟨x, rfl, hx⟩ := hn
      refine ⟨_, rfl, x, _, _, _, rfl, rfl, SqT.of hx, rfl, rfl, _, rfl, ?_⟩
      refine ite2 (fun c => absurd (of_decide_eq_true c) (by decide)) (fun _ => ?_)
      refine ⟨_, rfl, x, _, _, _, rfl, rfl, SqT.of hx, rfl, rfl, _, rfl, ?_⟩
      refine ite2 (fun c => absurd (of_decide_eq_true c) (by decide)) (fun _ => ?_)
      refine ⟨_, rfl, x, _, _, _, rfl, rfl, SqT.of hx, rfl, (by show 2 ≤ sizeLine; decide), fun t0 ht0 => ⟨t0, _, rfl, .inr (SqT.of upd_same), rfl, rfl, _, rfl, ?_⟩⟩
      have s0 := same_new ht0 (.tup [.str "say", .str "pick"])
      generalize upd H t0 (.tup [.str "say", .str "pick"]) = H0 at s0 ⊢
      have hx := s0 _ _ hx
      refine ite2 (fun _ => ?_) (fun c => absurd (show inV (.str "pick") _ = true by decide) c)
      exact ⟨_, rfl, x, _, _, _, rfl, rfl, SqT.of hx, rfl, (by show 1 ≤ sizeLine; decide), fun l hl => q l _ (same_trans s0 (same_new hl _)) upd_same⟩
    | test c n o =>
      obtain ⟨u, ⟨x, rfl, hx⟩, eu⟩ := hn
      refine ⟨_, rfl, x, _, _, _, rfl, rfl, SqT.of hx, rfl, rfl, _, rfl, ?_⟩
      refine ite2 (fun c => absurd (of_decide_eq_true c) (by decide)) (fun _ => ?_)
      refine ⟨_, rfl, x, _, _, _, rfl, rfl, SqT.of hx, rfl, rfl, _, rfl, ?_⟩
      refine ite2 (fun c => absurd (of_decide_eq_true c) (by decide)) (fun _ => ?_)
      refine ⟨_, rfl, x, _, _, _, rfl, rfl, SqT.of hx, rfl, (by show 2 ≤ sizeLine; decide), fun t0 ht0 => ⟨t0, _, rfl, .inr (SqT.of upd_same), rfl, rfl, _, rfl, ?_⟩⟩
      have s0 := same_new ht0 (.tup [.str "say", .str "pick"])
      generalize upd H t0 (.tup [.str "say", .str "pick"]) = H0 at s0 ⊢
      have hx := s0 _ _ hx
      refine ite2 (fun c => absurd c (by decide)) (fun _ => ?_)
      exact ⟨_, rfl, x, _, _, _, rfl, rfl, SqT.of hx, rfl, _, rfl, x, _, _, _, rfl, rfl, SqT.of hx, rfl, (by show 2 ≤ sizeLine; decide), fun l hl => q l _ (same_trans s0 (same_new hl _)) upd_same⟩
theorem has_leads (s : Src K mg "leads_of" sLeads)  : Has P w K mg base "leads_of" ["node"] 1 spLeads :=
  let ⟨f, fd, F, m⟩ := s
  ⟨f, fd, ok_leads F , F.kp, bnd1 F fun _ _ _ _ _ _ _ => rfl, m⟩
def spToldBy : Sp := fun vs H Q _ => ∃ (v : V) (nd : Np), vs = [v] ∧ NpAt H v nd ∧ ∀ l H' us, Same H H' → H' l = some (.lst us) → Paired (EAt H') us nd.tolds → Q (.ref l) H'
theorem scToldBy : FnScope ["node"] ["node"] (defScope sToldBy) := ⟨rfl, rfl, rfl, by decide +kernel, rfl, by decide +kernel, by decide +kernel⟩
theorem ok_toldBy {f : Addr} {fd : FuncData} (F : Fun K "told_by" "told_by" sToldBy f fd) : FnOk P w K mg base CX0 1 f fd ["node"] spToldBy := by
  refine F.ok scToldBy (fun vs H Q E h => ?_) (fun cdv A outer s H vs Q E hr h => ?_)
  · obtain ⟨v, nd, rfl, _⟩ := h
    rfl
  · obtain ⟨v, nd, rfl, hn, q⟩ := h
    refine ⟨_, L3.run (L3.cons (L3.ifs (L3.cmp L3.o_eq (L3.ix L3.ixT (L3.v 0) L3.int) L3.str) (L3.one (L3.ret (L3.lst L3.n))) L3.nil)
      (L3.cons (L3.ifs (L3.cmp L3.o_eq (L3.ix L3.ixT (L3.v 0) L3.int) L3.str) (L3.one (L3.ret (L3.lst (L3.k (L3.tup (L3.k L3.str (L3.k (L3.ix L3.ixT (L3.v 0) L3.int) L3.n))) (L3.k (L3.ix L3.ixT (L3.v 0) L3.int) L3.n))))) L3.nil)
      (L3.cons (L3.ifs (L3.cmp L3.o_eq (L3.ix L3.ixT (L3.v 0) L3.int) L3.str) (L3.one (L3.ret (L3.lst (L3.k (L3.tup (L3.k L3.str (L3.k (L3.ix L3.ixT (L3.v 0) L3.int) L3.n))) L3.n)))) L3.nil)
      (L3.one (L3.ret (L3.lst (L3.k (L3.ix L3.ixT (L3.v 0) L3.int) L3.n))))))), ?_⟩
    cases nd with
    | fin =>
      obtain ⟨x, rfl, hx⟩ := hn
      refine ⟨_, rfl, x, _, _, _, rfl, rfl, SqT.of hx, rfl, rfl, _, rfl, ?_⟩
      refine ite2 (fun _ => ?_) (fun c => absurd (decide_eq_true rfl) c)
      exact ⟨(by show 0 ≤ sizeLine; decide), fun l hl => q l _ [] (same_new hl _) upd_same .nil⟩
    | put nm e n =>
      obtain ⟨u, ⟨x, rfl, hx⟩, eu⟩ := hn
      refine ⟨_, rfl, x, _, _, _, rfl, rfl, SqT.of hx, rfl, rfl, _, rfl, ?_⟩
      refine ite2 (fun c => absurd (of_decide_eq_true c) (by decide)) (fun _ => ?_)
      refine ⟨_, rfl, x, _, _, _, rfl, rfl, SqT.of hx, rfl, rfl, _, rfl, ?_⟩
      refine ite2 (fun _ => ?_) (fun c => absurd (decide_eq_true rfl) c)
      refine ⟨_, rfl, x, _, _, _, rfl, rfl, SqT.of hx, rfl, (by show 2 ≤ sizeLine; decide), fun t0 ht0 => ?_⟩
      have s1 := same_new ht0 (.tup [.str "box", .str nm])
      have e1 : (upd H t0 (.tup [.str "box", .str nm])) t0 = some (.tup [.str "box", .str nm]) := upd_same
      generalize upd H t0 (.tup [.str "box", .str nm]) = H1 at s1 e1 ⊢
      refine ⟨_, rfl, x, _, _, _, rfl, rfl, SqT.of (s1 _ _ hx), rfl, (by show 2 ≤ sizeLine; decide), fun l hl => ?_⟩
      have s2 := same_new hl (.lst [.ref t0, u])
      exact q l _ _ (same_trans s1 s2) upd_same (.cons ⟨t0, rfl, s2 _ _ e1⟩ (.cons (eu.same (same_trans s1 s2)) .nil))
    | say e n =>
      obtain ⟨u, ⟨x, rfl, hx⟩, eu⟩ := hn
      refine ⟨_, rfl, x, _, _, _, rfl, rfl, SqT.of hx, rfl, rfl, _, rfl, ?_⟩
      refine ite2 (fun c => absurd (of_decide_eq_true c) (by decide)) (fun _ => ?_)
      refine ⟨_, rfl, x, _, _, _, rfl, rfl, SqT.of hx, rfl, rfl, _, rfl, ?_⟩
      refine ite2 (fun c => absurd (of_decide_eq_true c) (by decide)) (fun _ => ?_)
      refine ⟨_, rfl, x, _, _, _, rfl, rfl, SqT.of hx, rfl, rfl, _, rfl, ?_⟩
      refine ite2 (fun c => absurd (of_decide_eq_true c) (by decide)) (fun _ => ?_)
      exact ⟨_, rfl, x, _, _, _, rfl, rfl, SqT.of hx, rfl, (by show 1 ≤ sizeLine; decide), fun l hl => q l _ _ (same_new hl _) upd_same (.cons (eu.same (same_new hl _)) .nil)⟩
    | pick nm n =>
      obtain ⟨x, rfl, hx⟩ := hn
      refine ⟨_, rfl, x, _, _, _, rfl, rfl, SqT.of hx, rfl, rfl, _, rfl, ?_⟩
      refine ite2 (fun c => absurd (of_decide_eq_true c) (by decide)) (fun _ => ?_)
      refine ⟨_, rfl, x, _, _, _, rfl, rfl, SqT.of hx, rfl, rfl, _, rfl, ?_⟩
      refine ite2 (fun c => absurd (of_decide_eq_true c) (by decide)) (fun _ => ?_)
      refine ⟨_, rfl, x, _, _, _, rfl, rfl, SqT.of hx, rfl, rfl, _, rfl, ?_⟩
      refine ite2 (fun _ => ?_) (fun c => absurd (decide_eq_true rfl) c)
      refine ⟨_, rfl, x, _, _, _, rfl, rfl, SqT.of hx, rfl, (by show 2 ≤ sizeLine; decide), fun t0 ht0 => ?_⟩
      have s1 := same_new ht0 (.tup [.str "box", .str nm])
      have e1 : (upd H t0 (.tup [.str "box", .str nm])) t0 = some (.tup [.str "box", .str nm]) := upd_same
      generalize upd H t0 (.tup [.str "box", .str nm]) = H1 at s1 e1 ⊢
      refine ⟨(by show 1 ≤ sizeLine; decide), fun l hl => ?_⟩
      have s2 := same_new hl (.lst [.ref t0])
      exact q l _ _ (same_trans s1 s2) upd_same (.cons ⟨t0, rfl, s2 _ _ e1⟩ .nil)
    | test c n o =>
      obtain ⟨u, ⟨x, rfl, hx⟩, eu⟩ := hn
      refine ⟨_, rfl, x, _, _, _, rfl, rfl, SqT.of hx, rfl, rfl, _, rfl, ?_⟩
      refine ite2 (fun c => absurd (of_decide_eq_true c) (by decide)) (fun _ => ?_)
      refine ⟨_, rfl, x, _, _, _, rfl, rfl, SqT.of hx, rfl, rfl, _, rfl, ?_⟩
      refine ite2 (fun c => absurd (of_decide_eq_true c) (by decide)) (fun _ => ?_)
      refine ⟨_, rfl, x, _, _, _, rfl, rfl, SqT.of hx, rfl, rfl, _, rfl, ?_⟩
      refine ite2 (fun c => absurd (of_decide_eq_true c) (by decide)) (fun _ => ?_)
      exact ⟨_, rfl, x, _, _, _, rfl, rfl, SqT.of hx, rfl, (by show 1 ≤ sizeLine; decide), fun l hl => q l _ _ (same_new hl _) upd_same (.cons (eu.same (same_new hl _)) .nil)⟩
theorem has_toldBy (s : Src K mg "told_by" sToldBy)  : Has P w K mg base "told_by" ["node"] 1 spToldBy :=
  let ⟨f, fd, F, m⟩ := s
  ⟨f, fd, ok_toldBy F , F.kp, bnd1 F fun _ _ _ _ _ _ _ => rfl, m⟩
def bxB (bs : List (Str × Int)) (t y : Str) : Bool := decide (t = "box" ∧ y ∈ bs.map (·.1))
theorem inKv_kn {bs : List (Str × Int)} {ws : List Int} (h : bs.length = ws.length) (x : Str) : inKv (knKvs "box" bs ws) "box" x = bxB bs "box" x := by
  unfold inKv bxB
  by_cases hx : x ∈ bs.map (·.1)
  · rw [knKvs_val "box" bs ws x h hx, decide_eq_true ⟨rfl, hx⟩]
    rfl
  · rw [knKvs_none "box" bs ws "box" x fun _ => hx, decide_eq_false fun z => hx z.2]
    rfl
theorem knows_eq {f g : Str → Str → Bool} (h : ∀ x, f "box" x = g "box" x) : ∀ {e : E}, e.okIn tagB → e.knows f = e.knows g
  | .num _, _ => rfl
  | .box t x, ok => by
    have ht : t = "box" := ok
    subst ht
    exact h x
  | .yes, _ => rfl
  | .nt a, ok => knows_eq h (e := a) ok
  | .two _ a b, ok => by
    show (a.knows f && b.knows f) = (a.knows g && b.knows g)
    rw [knows_eq h (e := a) ok.1, knows_eq h (e := b) ok.2]
theorem knows_okIn {bs : List (Str × Int)} : ∀ {e : E}, e.okIn (bxP bs) → e.knows (bxB bs) = true
  | .num _, _ => rfl
  | .box t x, h => decide_eq_true (show t = "box" ∧ x ∈ bs.map (·.1) from h)
  | .yes, _ => rfl
  | .nt a, ok => knows_okIn (e := a) ok
  | .two _ a b, ok => by
    show (a.knows (bxB bs) && b.knows (bxB bs)) = true
    rw [knows_okIn (e := a) ok.1, knows_okIn (e := b) ok.2]
    rfl
theorem flat_strs {xs : List Str} : (xs.map V.str).all flatV = true := by
  rw [List.all_eq_true]
  intro v hv
  obtain ⟨x, _, rfl⟩ := List.mem_map.mp hv
  rfl
theorem fok_int {i : Int} (h : i.natAbs < 2 ^ 1900) : fOk (.int i) := .inl ⟨i, rfl, by
  by_cases z : i.natAbs = 0
  · rw [z]; decide
  · exact (Nat.log2_lt z).mpr (Nat.lt_of_lt_of_le h (Nat.pow_le_pow_right (by decide) (by decide)))⟩
/-! ### what is a program -/
theorem inV_iff {xs : List Str} {x : Str} : inV (.str x) (xs.map V.str) = decide (x ∈ xs) := by
  unfold inV
  by_cases h : x ∈ xs
  · rw [decide_eq_true h, List.any_eq_true]
    exact ⟨.str x, List.mem_map.mpr ⟨x, h, rfl⟩, by simp [eqV]⟩
  · rw [decide_eq_false h, List.any_eq_false]
    intro v hv
    obtain ⟨y, hy, rfl⟩ := List.mem_map.mp hv
    intro e
    have : y = x := by simpa [eqV] using e
    exact h (this ▸ hy)
theorem fok_str {x : Str} (h : x.length ≤ 2000) : fOk (.str x) := .inr ⟨x, rfl, h⟩
def BoxG (bs : List (Str × Int)) : Prop := (∀ b ∈ bs, 1 ≤ b.2) ∧ (bs.map (·.1)).Nodup
def InG (bs : List (Str × Int)) (ins : List Str) : Prop := (∀ x ∈ ins, x ∈ bs.map (·.1)) ∧ ins.Nodup
def NodeG (bs : List (Str × Int)) (m : Nat) (nd : Np) : Prop := (∀ l ∈ nd.leads, 0 ≤ l ∧ l < (m : Int)) ∧ ∀ e ∈ nd.tolds, e.knows (bxB bs) = true
def NdsG (bs : List (Str × Int)) (nds : List Np) : Prop := 1 ≤ nds.length ∧ ∀ nd ∈ nds, NodeG bs nds.length nd
/-- what may be asked of a program that is perhaps none -/
structure AskP (H : Hp) (B I N : Addr) (vb vn : List V) (bs : List (Str × Int)) (ins : List Str) (nds : List Np) : Prop where
  hB : H B = some (.lst vb)
  pb : Paired (BoxAt H) vb bs
  hI : H I = some (.lst (ins.map V.str))
  hN : H N = some (.lst vn)
  pn : Paired (NpAt H) vn nds
  b9 : bs.length ≤ 900
  i9 : ins.length ≤ 900
  n9 : nds.length ≤ 900
  bs2 : ∀ b ∈ bs, b.1.length ≤ 2000
  is2 : ∀ x ∈ ins, x.length ≤ 2000
  ld : ∀ nd ∈ nds, ∀ l ∈ nd.leads, l.natAbs < 2 ^ 1900
  td : ∀ nd ∈ nds, ∀ e ∈ nd.tolds, e.okIn tagB ∧ e.dep < 20
theorem AskP.same {H H' : Hp} {B I N : Addr} {vb vn : List V} {bs : List (Str × Int)} {ins : List Str} {nds : List Np} (h : AskP H B I N vb vn bs ins nds) (s : Same H H') : AskP H' B I N vb vn bs ins nds :=
  ⟨s _ _ h.hB, Paired.mapP h.pb fun _ _ z => Tp.keep (Same.tk s) z, s _ _ h.hI, s _ _ h.hN, Paired.mapP h.pn fun _ _ z => NpAt.keep (Same.tk s) z, h.b9, h.i9, h.n9, h.bs2, h.is2, h.ld, h.td⟩
abbrev sRefBX : Stmt := top 17
abbrev sRefIX : Stmt := top 18
def spRefBX (C : Addr) : Sp := fun vs H Q X => ∃ (ba : Addr) (vb : List V) (bs : List (Str × Int)), vs = [.ref ba] ∧ H ba = some (.lst vb) ∧ Paired (BoxAt H) vb bs ∧ bs.length ≤ 900 ∧ (∀ b ∈ bs, b.1.length ≤ 2000) ∧ (BoxG bs → ∀ H', Same H H' → Q .non H') ∧ (¬ BoxG bs → ∀ H', Same H H' → X (.ref C) none H')
theorem scRefBX : FnScope ["boxes", "name", "size", "names"] ["boxes"] (defScope sRefBX) := ⟨rfl, rfl, rfl, by decide +kernel, rfl, by decide +kernel, by decide +kernel⟩
theorem gRefBX_NoProgram : (defScope sRefBX).names.lookup (Str.ofString "NoProgram") = some .globalImplicit := by decide +kernel
theorem gRefBX_len : (defScope sRefBX).names.lookup (Str.ofString "len") = some .globalImplicit := by decide +kernel
theorem gRefBX_set : (defScope sRefBX).names.lookup (Str.ofString "set") = some .globalImplicit := by decide +kernel
theorem ok_refBX {C T : Addr} {f : Addr} {fd : FuncData} (F : Fun K "refuse_boxes" "refuse_boxes" sRefBX f fd) (cP : Xc K mg "NoProgram" C (.ref T :: vE)) (m_len : mg "len" = none) (m_set : mg "set" = none) : FnOk P w K mg base (CX1 P w base) 1 f fd ["boxes"] (spRefBX C) := by
  refine F.okX scRefBX (fun vs H Q E h => ?_) (fun cdv A outer s H vs Q E hr h => ?_)
  · obtain ⟨ba, vb, bs, rfl, _⟩ := h
    rfl
  · obtain ⟨ba, vb, bs, rfl, hB, pb, h900, n2, q1, q2⟩ := h
    refine ⟨_, L3.run (L3.cons (L3.for_ (L3.iL (L3.v 0)) (L3.gtup 2 (L3.gsk (L3.gn 1 scRefBX.nd) (L3.gsk (L3.gn 2 scRefBX.nd) L3.gsn))) (L3.one (L3.ifs (L3.cmp L3.o_lt (L3.v 2) L3.int) (L3.one (L3.raise_ raisesX cP (by rfl) gRefBX_NoProgram (L3.k (L3.fstr (L3.fs (L3.fv (L3.v 1) (L3.fs L3.fn)))) L3.n ns_joined))) L3.nil)) (hp := PySem.PassesOwn.leaving))
      (L3.cons (L3.slc (i := 3) [none, none] ["name", "size"] (show CompScope _ (defScope sRefBX) from ⟨rfl, by decide +kernel, by decide +kernel, by decide +kernel⟩) (by rfl) (L3.iL (L3.v 0)) (fun _ _ _ _ _ => ⟨(L3.gtup 2 (L3.gsk (L3.gn 0 (show (["name", "size"] : List Str).Nodup from by decide +kernel)) (L3.gsk (L3.gn 1 (show (["name", "size"] : List Str).Nodup from by decide +kernel)) L3.gsn))), L3.if0, (L3.v 0)⟩) scRefBX.nd)
      (L3.one (L3.ifs (L3.cmp L3.o_ne (L3.lensetD gRefBX_len m_len gRefBX_set m_set (L3.k (L3.v 3) L3.n)) (L3.callB L3.c_len gRefBX_len m_len PySem.boot_len (L3.k (L3.v 3) L3.n))) (L3.one (L3.raise_ raisesX cP (by rfl) gRefBX_NoProgram (L3.k L3.str L3.n))) L3.nil)))), ?_⟩
    have hvl : vb.length = bs.length := Paired.length pb
    refine ⟨_, rfl, ba, rfl, ⟨_, SqL.of hB⟩, ?_⟩
    refine for_list (xs := vb) (fun i σ H2 => (∃ nv sv, σ = [some (.ref ba), nv, sv, none]) ∧ H2 = H ∧ ∀ b ∈ bs.take i, 1 ≤ b.2) ⟨⟨_, _, rfl⟩, rfl, fun b hb => by simp at hb⟩ (fun i σ H2 _ z => by rw [z.2.1]; exact SqL.of hB) (fun i x0 σ H2 hx z => ?_) (fun σ H2 z => ?_)
    · obtain ⟨⟨nv, sv, rfl⟩, rfl, gs⟩ := z
      obtain ⟨b, hbi, p, rfl, hp⟩ := Paired.get pb hx
      have hbm := List.mem_of_getElem? hbi
      refine ⟨p, _, rfl, SqT.of hp, rfl, _, _, rfl, _, _, rfl, rfl, ?_⟩
      refine ⟨_, rfl, _, _, rfl, rfl, _, rfl, ?_⟩
      refine ite2 (fun c => ?_) (fun c => ?_)
      · have c' : b.2 < 1 := of_decide_eq_true c
        exact ⟨_, rfl, fok_str (n2 b hbm), fun x => ⟨_, rfl, q2 (fun g => by have := g.1 b hbm; omega) _ (same_refl _)⟩⟩
      · have c' : ¬ b.2 < 1 := fun z => c (decide_eq_true z)
        refine ⟨⟨_, _, rfl⟩, rfl, fun b' hb' => ?_⟩
        rw [List.take_add_one, hbi] at hb'
        rcases List.mem_append.mp hb' with z | z
        · exact gs b' z
        · have e : b' = b := by simpa using z
          subst e
          omega
    obtain ⟨⟨nv, sv, rfl⟩, hH, gs⟩ := z
    have hH' := hH.symm
    subst hH'
    rw [hvl, List.take_length] at gs
    refine ⟨_, rfl, ba, rfl, ⟨_, SqL.of hB⟩, fun na hna => ?_⟩
    have nBa : ba ≠ na := ne_of_none hB hna
    refine comp_list (xs := vb) (fun i H2 => H2 = upd H na (.lst ((bs.take i).map fun b => V.str b.1))) rfl (fun i H2 _ e => ?_) (fun i x H2 hx e => ?_) (fun H2 e => ?_)
    · subst e
      exact SqL.of (by rw [upd_ne nBa]; exact hB)
    · subst e
      obtain ⟨b, hbi, p, rfl, hp⟩ := Paired.get pb hx
      have hil : i < vb.length := (List.getElem?_eq_some_iff.mp hx).1
      refine ⟨p, _, rfl, SqT.of (by rw [upd_ne (ne_of_none hp hna)]; exact hp), rfl, _, _, rfl, _, _, rfl, rfl, ?_⟩
      refine turn0 (A := fun H3 => mApp (tVar 0) na _ H3 _) ⟨_, rfl, _, upd_same, Nat.lt_of_le_of_lt (show _ ≤ 1000 by rw [List.length_map, List.length_take]; omega) (by decide), comp_end (Pv := fun i H2 => H2 = upd H na (.lst ((bs.take i).map fun b => V.str b.1))) (by repeat' constructor) hil ?_⟩
      rw [upd_upd]
      congr 2
      rw [List.take_add_one, hbi, List.map_append]
      rfl
    subst e
    have et : (bs.take vb.length).map (fun b => V.str b.1) = (bs.map (·.1)).map V.str := by rw [hvl, List.take_length, List.map_map]; rfl
    rw [et]
    have sN := same_new hna (.lst ((bs.map (·.1)).map V.str))
    have hn1 : (upd H na (.lst ((bs.map (·.1)).map V.str))) na = some (.lst ((bs.map (·.1)).map V.str)) := upd_same
    generalize upd H na (.lst ((bs.map (·.1)).map V.str)) = H1 at sN hn1 ⊢
    refine ⟨_, rfl, na, _, rfl, SqL.of hn1, by rw [List.length_map]; omega, fun n e1 e2 => ⟨_, rfl, na, _, rfl, .inl (SqL.of hn1), rfl, _, rfl, ?_⟩⟩
    rw [List.length_map]
    by_cases nd : (bs.map (·.1)).Nodup
    · have e := e1 nd
      subst e
      refine ite2 (fun c => ?_) (fun _ => ?_)
      · simp at c
      exact q1 ⟨gs, nd⟩ _ sN
    · have e := e2 nd
      refine ite2 (fun _ => ?_) (fun c => ?_)
      · exact ⟨_, rfl, q2 (fun g => nd g.2) _ sN⟩
      · exfalso
        apply c
        simp at e ⊢
        omega
theorem has_refBX {C T : Addr} (s : Src K mg "refuse_boxes" sRefBX) (cP : Xc K mg "NoProgram" C (.ref T :: vE)) (m_len : mg "len" = none) (m_set : mg "set" = none) : HasX P w K mg base "refuse_boxes" ["boxes"] 1 (spRefBX C) :=
  let ⟨f, fd, F, m⟩ := s
  ⟨f, fd, ok_refBX F cP m_len m_set, F.kp, bnd1 F fun _ _ _ _ _ _ _ => rfl, m⟩
def spRefIX (C : Addr) : Sp := fun vs H Q X => ∃ (ba ia : Addr) (vb : List V) (bs : List (Str × Int)) (ins : List Str), vs = [.ref ba, .ref ia] ∧ H ba = some (.lst vb) ∧ Paired (BoxAt H) vb bs ∧ H ia = some (.lst (ins.map V.str)) ∧ bs.length ≤ 900 ∧ ins.length ≤ 900 ∧ (∀ x ∈ ins, x.length ≤ 2000) ∧
  (InG bs ins → ∀ H', Same H H' → Q .non H') ∧ (¬ InG bs ins → ∀ H', Same H H' → X (.ref C) none H')
theorem scRefIX : FnScope ["boxes", "inputs", "names", "name"] ["boxes", "inputs"] (defScope sRefIX) := ⟨rfl, rfl, rfl, by decide +kernel, rfl, by decide +kernel, by decide +kernel⟩
theorem gRefIX_NoProgram : (defScope sRefIX).names.lookup (Str.ofString "NoProgram") = some .globalImplicit := by decide +kernel
theorem gRefIX_len : (defScope sRefIX).names.lookup (Str.ofString "len") = some .globalImplicit := by decide +kernel
theorem gRefIX_set : (defScope sRefIX).names.lookup (Str.ofString "set") = some .globalImplicit := by decide +kernel
theorem ok_refIX {C T : Addr} {f : Addr} {fd : FuncData} (F : Fun K "refuse_inputs" "refuse_inputs" sRefIX f fd) (cP : Xc K mg "NoProgram" C (.ref T :: vE)) (m_len : mg "len" = none) (m_set : mg "set" = none) : FnOk P w K mg base (CX1 P w base) 1 f fd ["boxes", "inputs"] (spRefIX C) := by
  refine F.okX scRefIX (fun vs H Q E h => ?_) (fun cdv A outer s H vs Q E hr h => ?_)
  · obtain ⟨ba, ia, vb, bs, ins, rfl, _⟩ := h
    rfl
  · obtain ⟨ba, ia, vb, bs, ins, rfl, hB, pb, hI, h900, i900, n2, q1, q2⟩ := h
    refine ⟨_, L3.run (L3.cons (L3.slc (i := 2) [none, none] ["name", "size"] (show CompScope _ (defScope sRefIX) from ⟨rfl, by decide +kernel, by decide +kernel, by decide +kernel⟩) (by rfl) (L3.iL (L3.v 0)) (fun _ _ _ _ _ => ⟨(L3.gtup 2 (L3.gsk (L3.gn 0 (show (["name", "size"] : List Str).Nodup from by decide +kernel)) (L3.gsk (L3.gn 1 (show (["name", "size"] : List Str).Nodup from by decide +kernel)) L3.gsn))), L3.if0, (L3.v 0)⟩) scRefIX.nd)
      (L3.cons (L3.for_ (L3.iL (L3.v 1)) (L3.gn 3 scRefIX.nd) (L3.one (L3.ifs (L3.cmp L3.o_notIn (L3.v 3) (L3.v 2) (by rfl)) (L3.one (L3.raise_ raisesX cP (by rfl) gRefIX_NoProgram (L3.k (L3.fstr (L3.fs (L3.fv (L3.v 3) (L3.fs L3.fn)))) L3.n ns_joined))) L3.nil)) (hp := PySem.PassesOwn.leaving))
      (L3.one (L3.ifs (L3.cmp L3.o_ne (L3.lensetD gRefIX_len m_len gRefIX_set m_set (L3.k (L3.v 1) L3.n)) (L3.callB L3.c_len gRefIX_len m_len PySem.boot_len (L3.k (L3.v 1) L3.n))) (L3.one (L3.raise_ raisesX cP (by rfl) gRefIX_NoProgram (L3.k L3.str L3.n))) L3.nil)))), ?_⟩
    have hvl : vb.length = bs.length := Paired.length pb
    refine ⟨_, rfl, ba, rfl, ⟨_, SqL.of hB⟩, fun na hna => ?_⟩
    have nBa : ba ≠ na := ne_of_none hB hna
    refine comp_list (xs := vb) (fun i H2 => H2 = upd H na (.lst ((bs.take i).map fun b => V.str b.1))) rfl (fun i H2 _ e => ?_) (fun i x H2 hx e => ?_) (fun H2 e => ?_)
    · subst e
      exact SqL.of (by rw [upd_ne nBa]; exact hB)
    · subst e
      obtain ⟨b, hbi, p, rfl, hp⟩ := Paired.get pb hx
      have hil : i < vb.length := (List.getElem?_eq_some_iff.mp hx).1
      refine ⟨p, _, rfl, SqT.of (by rw [upd_ne (ne_of_none hp hna)]; exact hp), rfl, _, _, rfl, _, _, rfl, rfl, ?_⟩
      refine turn0 (A := fun H3 => mApp (tVar 0) na _ H3 _) ⟨_, rfl, _, upd_same, Nat.lt_of_le_of_lt (show _ ≤ 1000 by rw [List.length_map, List.length_take]; omega) (by decide), comp_end (Pv := fun i H2 => H2 = upd H na (.lst ((bs.take i).map fun b => V.str b.1))) (by repeat' constructor) hil ?_⟩
      rw [upd_upd]
      congr 2
      rw [List.take_add_one, hbi, List.map_append]
      rfl
    subst e
    have et : (bs.take vb.length).map (fun b => V.str b.1) = (bs.map (·.1)).map V.str := by rw [hvl, List.take_length, List.map_map]; rfl
    rw [et]
    have sN := same_new hna (.lst ((bs.map (·.1)).map V.str))
    have hn1 : (upd H na (.lst ((bs.map (·.1)).map V.str))) na = some (.lst ((bs.map (·.1)).map V.str)) := upd_same
    generalize upd H na (.lst ((bs.map (·.1)).map V.str)) = H1 at sN hn1 ⊢
    have hI1 := sN _ _ hI
    refine ⟨_, rfl, ia, rfl, ⟨_, SqL.of hI1⟩, ?_⟩
    refine for_list (xs := ins.map V.str) (fun i σ H2 => (∃ nv, σ = [some (.ref ba), some (.ref ia), some (.ref na), nv]) ∧ H2 = H1 ∧ ∀ x ∈ ins.take i, x ∈ bs.map (·.1)) ⟨⟨_, rfl⟩, rfl, fun b hb => by simp at hb⟩ (fun i σ H2 _ z => by rw [z.2.1]; exact SqL.of hI1) (fun i x0 σ H2 hx z => ?_) (fun σ H2 z => ?_)
    · obtain ⟨⟨nv, rfl⟩, rfl, gs⟩ := z
      obtain ⟨x, hxi, rfl⟩ := map_get hx
      have hxm := List.mem_of_getElem? hxi
      refine ⟨_, rfl, _, rfl, na, _, rfl, .inl (SqL.of hn1), rfl, flat_strs, _, rfl, ?_⟩
      refine ite2 (fun c => ?_) (fun c => ?_)
      · have c' : ¬ x ∈ bs.map (·.1) := fun z => by
          have e := inV_iff (xs := bs.map (·.1)) (x := x)
          rw [decide_eq_true z] at e
          rw [e] at c
          exact absurd c (by decide)
        exact ⟨_, rfl, fok_str (n2 x hxm), fun y => ⟨_, rfl, q2 (fun g => c' (g.1 x hxm)) _ sN⟩⟩
      · have c' : x ∈ bs.map (·.1) := Classical.byContradiction fun z => by
          have e := inV_iff (xs := bs.map (·.1)) (x := x)
          rw [decide_eq_false z] at e
          rw [e] at c
          exact c (by decide)
        refine ⟨⟨_, rfl⟩, rfl, fun b' hb' => ?_⟩
        rw [List.take_add_one, hxi] at hb'
        rcases List.mem_append.mp hb' with z | z
        · exact gs b' z
        · have e : b' = x := by simpa using z
          subst e
          exact c'
    obtain ⟨⟨nv, rfl⟩, rfl, gs⟩ := z
    rw [List.length_map, List.take_length] at gs
    refine ⟨_, rfl, ia, _, rfl, SqL.of hI1, by omega, fun n e1 e2 => ⟨_, rfl, ia, _, rfl, .inl (SqL.of hI1), rfl, _, rfl, ?_⟩⟩
    rw [List.length_map]
    by_cases nd : ins.Nodup
    · have e := e1 nd
      subst e
      refine ite2 (fun c => ?_) (fun _ => ?_)
      · simp at c
      exact q1 ⟨gs, nd⟩ _ sN
    · have e := e2 nd
      refine ite2 (fun _ => ?_) (fun c => ?_)
      · exact ⟨_, rfl, q2 (fun g => nd g.2) _ sN⟩
      · exfalso
        apply c
        simp at e ⊢
        omega
theorem has_refIX {C T : Addr} (s : Src K mg "refuse_inputs" sRefIX) (cP : Xc K mg "NoProgram" C (.ref T :: vE)) (m_len : mg "len" = none) (m_set : mg "set" = none) : HasX P w K mg base "refuse_inputs" ["boxes", "inputs"] 1 (spRefIX C) :=
  let ⟨f, fd, F, m⟩ := s
  ⟨f, fd, ok_refIX F cP m_len m_set, F.kp, bnd2 F fun _ _ _ _ _ _ _ _ => rfl, m⟩
end
end TW
set_option Elab.async false
set_option linter.all false
set_option maxRecDepth 100000
set_option exponentiation.threshold 4000
set_option maxHeartbeats 1000000
namespace TW
open PySem L2
section
variable {P : Program} {w : World} {K : PySem.W.Frag} {mg : Str → Option Value} {base : Heap}
abbrev sRefNX : Stmt := top 19
abbrev sProgOfX : Stmt := top 16
/-! ### refuse_nodes, program_of, either way -/
def spRefNX (C : Addr) : Sp := fun vs H Q X => ∃ (B I N : Addr) (vb vn : List V) (bs : List (Str × Int)) (ins : List Str) (nds : List Np), vs = [.ref B, .ref N] ∧ AskP H B I N vb vn bs ins nds ∧ (bs.map (·.1)).Nodup ∧ (NdsG bs nds → ∀ H', Same H H' → Q .non H') ∧ (¬ NdsG bs nds → ∀ H', Same H H' → X (.ref C) none H')
theorem scRefNX : FnScope ["boxes", "nodes", "known", "node", "lead", "told"] ["boxes", "nodes"] (defScope sRefNX) := ⟨rfl, rfl, rfl, by decide +kernel, rfl, by decide +kernel, by decide +kernel⟩
theorem gRefNX_NoProgram : (defScope sRefNX).names.lookup (Str.ofString "NoProgram") = some .globalImplicit := by decide +kernel
theorem gRefNX_leads_of : (defScope sRefNX).names.lookup (Str.ofString "leads_of") = some .globalImplicit := by decide +kernel
theorem gRefNX_len : (defScope sRefNX).names.lookup (Str.ofString "len") = some .globalImplicit := by decide +kernel
theorem gRefNX_refuse_unknown : (defScope sRefNX).names.lookup (Str.ofString "refuse_unknown") = some .globalImplicit := by decide +kernel
theorem gRefNX_told_by : (defScope sRefNX).names.lookup (Str.ofString "told_by") = some .globalImplicit := by decide +kernel
theorem ok_refNX {C T : Addr} {f : Addr} {fd : FuncData} (F : Fun K "refuse_nodes" "refuse_nodes" sRefNX f fd) (cP : Xc K mg "NoProgram" C (.ref T :: vE)) (m_len : mg "len" = none) (LE : Has P w K mg base "leads_of" ["node"] 22 spLeads) (TB : Has P w K mg base "told_by" ["node"] 22 spToldBy) (RU : HasX P w K mg base "refuse_unknown" ["known", "told"] 22 (spRefUnkX C 20)) : FnOk P w K mg base (CX1 P w base) 23 f fd ["boxes", "nodes"] (spRefNX C) := by
  refine F.okX scRefNX (fun vs H Q E h => ?_) (fun cdv A outer s H vs Q E hr h => ?_)
  · obtain ⟨ba, ia, na, vb, vn, bs, ins, nds, rfl, _⟩ := h
    rfl
  · obtain ⟨ba, ia, na, vb, vn, bs, ins, nds, rfl, ap, nd, q1, q2⟩ := h
    obtain ⟨hB, pb, hI, hN, pn, h900, _, n900, _, _, ld, td⟩ := ap
    refine ⟨_, L3.run (L3.cons (L3.ifs (L3.cmp L3.o_eq (L3.callB L3.c_len gRefNX_len m_len PySem.boot_len (L3.k (L3.v 1) L3.n)) L3.int) (L3.one (L3.raise_ raisesX cP (by rfl) gRefNX_NoProgram (L3.k L3.str L3.n))) L3.nil)
      (L3.cons (L3.sdc (i := 2) [none, none] ["name", "size"] (up_ne hr _ (by decide)) (show CompScope _ (defScope sRefNX) from ⟨rfl, by decide +kernel, by decide +kernel, by decide +kernel⟩) (by rfl) (L3.iL (L3.v 0)) (fun _ _ _ _ _ => ⟨(L3.gtup 2 (L3.gsk (L3.gn 0 (show (["name", "size"] : List Str).Nodup from by decide +kernel)) (L3.gsk (L3.gn 1 (show (["name", "size"] : List Str).Nodup from by decide +kernel)) L3.gsn))), L3.if0, (L3.tup (L3.k L3.str (L3.k (L3.v 0) L3.n))), (L3.v 1)⟩) scRefNX.nd)
      (L3.one (L3.for_ (L3.iL (L3.v 1)) (L3.gn 3 scRefNX.nd) (L3.cons (L3.for_ (L3.iL (L3.own LE hr gRefNX_leads_of (L3.k (L3.v 3) L3.n))) (L3.gn 4 scRefNX.nd) (L3.one (L3.ifs (L3.tw (L3.or2 (L3.cmp L3.o_lt (L3.v 4) L3.int) (L3.or1 (L3.cmp L3.o_ge (L3.v 4) (L3.callB L3.c_len gRefNX_len m_len PySem.boot_len (L3.k (L3.v 1) L3.n)))))) (L3.one (L3.raise_ raisesX cP (by rfl) gRefNX_NoProgram (L3.k (L3.fstr (L3.fs (L3.fv (L3.v 4) (L3.fs L3.fn)))) L3.n ns_joined))) L3.nil)) (hp := PySem.PassesOwn.leaving))
      (L3.one (L3.for_ (L3.iL (L3.own TB hr gRefNX_told_by (L3.k (L3.v 3) L3.n))) (L3.gn 5 scRefNX.nd) (L3.one (L3.ex (L3.ownX passX RU hr gRefNX_refuse_unknown (L3.k (L3.v 2) (L3.k (L3.v 5) L3.n))))) (hp := PySem.PassesOwn.leaving)))) (hp := PySem.PassesOwn.leaving))))), ?_⟩
    have hvl : vb.length = bs.length := Paired.length pb
    have hvn : vn.length = nds.length := Paired.length pn
    refine ⟨_, rfl, na, _, rfl, .inl (SqL.of hN), rfl, _, rfl, ?_⟩
    refine ite2 (fun c => ?_) (fun c => ?_)
    · have := of_decide_eq_true c
      injection this with this
      exact ⟨_, rfl, q2 (fun g => by have := g.1; omega) _ (same_refl _)⟩
    have n1 : 1 ≤ nds.length := by
      by_cases z : vn.length = 0
      · exfalso
        exact c (decide_eq_true (by rw [z]; rfl))
      · omega
    refine ⟨_, rfl, ba, rfl, ⟨_, SqL.of hB⟩, fun D hD => ?_⟩
    refine comp_list (xs := vb) (fun i H2 => (∀ b o, H b = some o → H2 b = some o) ∧ H2 D = some (.dT (knKvs "box" (bs.take i) ((bs.take i).map (·.2))))) ⟨same_new hD _, upd_same⟩ (fun i H2 _ z => SqL.of (z.1 _ _ hB)) (fun i x0 H2 hx z => ?_) (fun H2 z => ?_)
    · obtain ⟨z, hD2⟩ := z
      obtain ⟨b, hbi, pp, rfl, hpp⟩ := Paired.get pb hx
      have hil : i < vb.length := (List.getElem?_eq_some_iff.mp hx).1
      refine ⟨pp, _, rfl, SqT.of (z _ _ hpp), rfl, _, _, rfl, _, _, rfl, rfl, ?_⟩
      refine turn0 (A := fun H3 => mPut _ _ D _ H3 _) ?_
      refine ⟨_, rfl, (by show 2 ≤ sizeLine; decide), fun kp hkp => ⟨_, rfl, ?_⟩⟩
      have nkp : D ≠ kp := ne_of_none hD2 hkp
      have hD3 : (upd H2 kp (.tup [.str "box", .str b.1])) D = some (.dT (knKvs "box" (bs.take i) ((bs.take i).map (·.2)))) := by rw [upd_ne nkp]; exact hD2
      have hl4 := knKvs_len "box" (bs.take i) ((bs.take i).map (·.2))
      have hl5 : (bs.take i).length ≤ bs.length := by rw [List.length_take]; omega
      refine ⟨_, DPut.t (k := [.inr "box", .inr b.1]) hD3 upd_same (Nat.lt_of_le_of_lt (show _ ≤ 1000 by omega) (by decide)), comp_end (Pv := fun i H2 => (∀ b o, H b = some o → H2 b = some o) ∧ H2 D = some (.dT (knKvs "box" (bs.take i) ((bs.take i).map (·.2))))) (by repeat' constructor) hil ⟨fun c o hc => ?_, ?_⟩⟩
      · have hc2 := z c o hc
        rw [upd_ne (ne_of_none hc hD), upd_ne (ne_of_none hc2 hkp)]
        exact hc2
      · rw [upd_same, putK_new (knKvs_none "box" _ _ _ _ fun _ => nd_take nd hbi), List.take_add_one, hbi]
        show _ = some (HO.dT (knKvs "box" (bs.take i ++ [b]) ((bs.take i ++ [b]).map (·.2))))
        rw [List.map_append]
        show _ = some (HO.dT (knKvs "box" (bs.take i ++ [b]) ((bs.take i).map (·.2) ++ [b.2])))
        rw [knKvs_snoc "box" _ _ b b.2 (by rw [List.length_map])]
    obtain ⟨s1, hD2⟩ := z
    rw [hvl, List.take_length] at hD2
    have kv : ∀ x, inKv (knKvs "box" bs (bs.map (·.2))) "box" x = bxB bs "box" x := inKv_kn (by rw [List.length_map])
    have hN2 := s1 _ _ hN
    have pn2 : Paired (NpAt H2) vn nds := Paired.mapP pn fun a b h => NpAt.keep (Same.tk s1) h
    refine ⟨_, rfl, na, rfl, ⟨_, SqL.of hN2⟩, ?_⟩
    refine for_list (xs := vn) (fun i σ H3 => (∃ o3 o4 o5, σ = [some (.ref ba), some (.ref na), some (.ref D), o3, o4, o5]) ∧ Same H2 H3 ∧ ∀ e ∈ nds.take i, NodeG bs nds.length e) ⟨⟨_, _, _, rfl⟩, same_refl _, fun b hb => by simp at hb⟩ (fun i σ H3 _ z => SqL.of (z.2.1 _ _ hN2)) (fun i x0 σ H3 hx z => ?_) (fun σ H3 z => q1 ⟨n1, by have g := z.2.2; rw [hvn, List.take_length] at g; exact g⟩ _ (same_trans s1 z.2.1))
    obtain ⟨⟨o3, o4, o5, rfl⟩, s3, gs⟩ := z
    obtain ⟨nd0, hnd0, hn0⟩ := Paired.get pn2 hx
    have hnm := List.mem_of_getElem? hnd0
    refine ⟨_, rfl, x0, nd0, rfl, NpAt.keep (Same.tk s3) hn0, fun l H4 s34 e4 => ?_⟩
    have s4 := same_trans s3 s34
    refine ⟨l, rfl, ⟨_, SqL.of e4⟩, ?_⟩
    refine for_list (xs := nd0.leads.map V.int) (fun i σ H5 => (∃ o4 o5, σ = [some (.ref ba), some (.ref na), some (.ref D), some x0, o4, o5]) ∧ H5 = H4 ∧ ∀ l ∈ nd0.leads.take i, 0 ≤ l ∧ l < (nds.length : Int)) ⟨⟨_, _, rfl⟩, rfl, fun b hb => by simp at hb⟩ (fun i σ H5 _ z => by rw [z.2.1]; exact SqL.of e4) (fun i y0 σ H5 hy z => ?_) (fun σ H5 z => ?_)
    · obtain ⟨⟨o4, o5, rfl⟩, rfl, gl⟩ := z
      obtain ⟨k0, hk0, rfl⟩ := map_get hy
      have hkm := List.mem_of_getElem? hk0
      have fk : fOk (.int k0) := fok_int (ld nd0 hnm k0 hkm)
      refine ⟨_, rfl, _, _, rfl, rfl, _, rfl, ?_⟩
      refine ite2 (fun c => ?_) (fun c => ?_)
      · have c' : k0 < 0 := of_decide_eq_true c
        refine iteT ?_
        exact ⟨_, rfl, fk, fun y => ⟨_, rfl, q2 (fun g => by have := ((g.2 nd0 hnm).1 k0 hkm).1; omega) _ (same_trans s1 s4)⟩⟩
      · have c' : ¬ k0 < 0 := fun z => c (decide_eq_true z)
        refine ⟨_, rfl, _, rfl, na, _, rfl, .inl (SqL.of (s4 _ _ hN2)), _, _, rfl, rfl, _, rfl, ?_⟩
        refine ite2 (fun d => ?_) (fun d => ?_)
        · have d' : k0 ≥ (vn.length : Int) := of_decide_eq_true d
          exact ⟨_, rfl, fk, fun y => ⟨_, rfl, q2 (fun g => by have := ((g.2 nd0 hnm).1 k0 hkm).2; omega) _ (same_trans s1 s4)⟩⟩
        · have d' : ¬ k0 ≥ (vn.length : Int) := fun z => d (decide_eq_true z)
          refine ⟨⟨_, _, rfl⟩, rfl, fun b' hb' => ?_⟩
          rw [List.take_add_one, hk0] at hb'
          rcases List.mem_append.mp hb' with z | z
          · exact gl b' z
          · have e : b' = k0 := by simpa using z
            subst e
            omega
    obtain ⟨⟨o4, o5, rfl⟩, rfl, gl⟩ := z
    rw [List.length_map, List.take_length] at gl
    refine ⟨_, rfl, x0, nd0, rfl, NpAt.keep (Same.tk s4) hn0, fun tl H6 us s6 e6 pe => ?_⟩
    have s26 := same_trans s4 s6
    refine ⟨tl, rfl, ⟨_, SqL.of e6⟩, ?_⟩
    refine for_list (xs := us) (fun i σ H7 => (∃ o4 o5, σ = [some (.ref ba), some (.ref na), some (.ref D), some x0, o4, o5]) ∧ Same H6 H7 ∧ ∀ e ∈ nd0.tolds.take i, e.knows (bxB bs) = true) ⟨⟨_, _, rfl⟩, same_refl _, fun b hb => by simp at hb⟩ (fun i σ H7 _ z => SqL.of (z.2.1 _ _ e6)) (fun i y0 σ H7 hy z => ?_) (fun σ H7 z => ?_)
    · obtain ⟨⟨o4, o5, rfl⟩, s7, gt⟩ := z
      obtain ⟨e0, he0, a0⟩ := Paired.get pe hy
      have hem := List.mem_of_getElem? he0
      obtain ⟨ok0, d0⟩ := td nd0 hnm e0 hem
      have s27 := same_trans s26 s7
      have ke := knows_eq (f := inKv (knKvs "box" bs (bs.map (·.2)))) (g := bxB bs) kv ok0
      refine ⟨_, rfl, _, rfl, D, y0, e0, _, rfl, s27 _ _ hD2, a0.same s7, ok0, d0, fun c H8 s8 => ?_, fun c H8 s8 => ?_⟩
      · refine ⟨⟨_, _, rfl⟩, same_trans s7 s8, fun b' hb' => ?_⟩
        rw [List.take_add_one, he0] at hb'
        rcases List.mem_append.mp hb' with z | z
        · exact gt b' z
        · have e : b' = e0 := by simpa using z
          subst e
          rw [← ke]
          exact c
      · exact q2 (fun g => by have := (g.2 nd0 hnm).2 e0 hem; rw [← ke, c] at this; cases this) _ (same_trans s1 (same_trans s27 s8))
    · obtain ⟨⟨o4, o5, rfl⟩, s7, gt⟩ := z
      have hul := Paired.length pe
      rw [hul, List.take_length] at gt
      refine ⟨⟨_, _, _, rfl⟩, same_trans s26 s7, fun b' hb' => ?_⟩
      rw [List.take_add_one, hnd0] at hb'
      rcases List.mem_append.mp hb' with z | z
      · exact gs b' z
      · have e : b' = nd0 := by simpa using z
        subst e
        exact ⟨gl, gt⟩
theorem has_refNX {C T : Addr} (s : Src K mg "refuse_nodes" sRefNX) (cP : Xc K mg "NoProgram" C (.ref T :: vE)) (m_len : mg "len" = none) (LE : Has P w K mg base "leads_of" ["node"] 22 spLeads) (TB : Has P w K mg base "told_by" ["node"] 22 spToldBy) (RU : HasX P w K mg base "refuse_unknown" ["known", "told"] 22 (spRefUnkX C 20)) : HasX P w K mg base "refuse_nodes" ["boxes", "nodes"] 23 (spRefNX C) :=
  let ⟨f, fd, F, m⟩ := s
  ⟨f, fd, ok_refNX F cP m_len LE TB RU, F.kp, bnd2 F fun _ _ _ _ _ _ _ _ => rfl, m⟩
/-- a tuple of three new lists -/
structure New3 (H H' : Hp) (p B I N : Addr) (xb xi xn : List V) : Prop where
  s : Same H H'
  nB : H B = none
  nI : H I = none
  nN : H N = none
  BN : B ≠ N
  IN : I ≠ N
  BI : B ≠ I
  hp : H' p = some (.tup [.ref B, .ref I, .ref N])
  hB : H' B = some (.lst xb)
  hI : H' I = some (.lst xi)
  hN : H' N = some (.lst xn)
  np : H p = none
def ProgG (bs : List (Str × Int)) (ins : List Str) (nds : List Np) : Prop := BoxG bs ∧ InG bs ins ∧ NdsG bs nds
def spProgOfX (C : Addr) : Sp := fun vs H Q X => ∃ (B I N : Addr) (vb vn : List V) (bs : List (Str × Int)) (ins : List Str) (nds : List Np), vs = [.ref B, .ref I, .ref N] ∧ AskP H B I N vb vn bs ins nds ∧ (ProgG bs ins nds → ∀ p' B' I' N' H', New3 H H' p' B' I' N' vb (ins.map V.str) vn → Q (.ref p') H') ∧ (¬ ProgG bs ins nds → ∀ H', Same H H' → X (.ref C) none H')
theorem scProgOfX : FnScope ["boxes", "inputs", "nodes"] ["boxes", "inputs", "nodes"] (defScope sProgOfX) := ⟨rfl, rfl, rfl, by decide +kernel, rfl, by decide +kernel, by decide +kernel⟩
theorem gProgOfX_list : (defScope sProgOfX).names.lookup (Str.ofString "list") = some .globalImplicit := by decide +kernel
theorem gProgOfX_refuse_boxes : (defScope sProgOfX).names.lookup (Str.ofString "refuse_boxes") = some .globalImplicit := by decide +kernel
theorem gProgOfX_refuse_inputs : (defScope sProgOfX).names.lookup (Str.ofString "refuse_inputs") = some .globalImplicit := by decide +kernel
theorem gProgOfX_refuse_nodes : (defScope sProgOfX).names.lookup (Str.ofString "refuse_nodes") = some .globalImplicit := by decide +kernel
theorem ok_progOfX {C : Addr} {f : Addr} {fd : FuncData} (F : Fun K "program_of" "program_of" sProgOfX f fd) (m_list : mg "list" = none) (RB : HasX P w K mg base "refuse_boxes" ["boxes"] 23 (spRefBX C)) (RI : HasX P w K mg base "refuse_inputs" ["boxes", "inputs"] 23 (spRefIX C)) (RN : HasX P w K mg base "refuse_nodes" ["boxes", "nodes"] 23 (spRefNX C)) : FnOk P w K mg base (CX1 P w base) 24 f fd ["boxes", "inputs", "nodes"] (spProgOfX C) := by
  refine F.okX scProgOfX (fun vs H Q E h => ?_) (fun cdv A outer s H vs Q E hr h => ?_)
  · obtain ⟨B, I, N, vb, vn, bs, ins, nds, rfl, _⟩ := h
    rfl
  · obtain ⟨B, I, N, vb, vn, bs, ins, nds, rfl, ft, q, qb⟩ := h
    refine ⟨_, L3.run (L3.cons (L3.ex (L3.ownX passX RB hr gProgOfX_refuse_boxes (L3.k (L3.v 0) L3.n)))
      (L3.cons (L3.ex (L3.ownX passX RI hr gProgOfX_refuse_inputs (L3.k (L3.v 0) (L3.k (L3.v 1) L3.n))))
      (L3.cons (L3.ex (L3.ownX passX RN hr gProgOfX_refuse_nodes (L3.k (L3.v 0) (L3.k (L3.v 2) L3.n))))
      (L3.one (L3.ret (L3.tup (L3.k (L3.callT L3.c_list gProgOfX_list m_list (by decide +kernel) (L3.k (L3.v 0) L3.n)) (L3.k (L3.callT L3.c_list gProgOfX_list m_list (by decide +kernel) (L3.k (L3.v 1) L3.n)) (L3.k (L3.callT L3.c_list gProgOfX_list m_list (by decide +kernel) (L3.k (L3.v 2) L3.n)) L3.n))))))))), ?_⟩
    refine ⟨_, rfl, B, vb, bs, rfl, ft.hB, ft.pb, ft.b9, ft.bs2, fun gB Ha sa => ?_, fun n H' s' => qb (fun g => n g.1) _ s'⟩
    have f1 := ft.same sa
    refine ⟨_, rfl, _, rfl, B, I, vb, bs, ins, rfl, f1.hB, f1.pb, f1.hI, ft.b9, ft.i9, ft.is2, fun gI Hb sb => ?_, fun n H' s' => qb (fun g => n g.2.1) _ (same_trans sa s')⟩
    have f2 := f1.same sb
    refine ⟨_, rfl, _, rfl, B, I, N, vb, vn, bs, ins, nds, rfl, f2, gB.2, fun gN Hc sc => ?_, fun n H' s' => qb (fun g => n g.2.2) _ (same_trans sa (same_trans sb s'))⟩
    have f3 := f2.same sc
    replace q := q ⟨gB, gI, gN⟩
    have s0 := same_trans sa (same_trans sb sc)
    refine ⟨_, rfl, B, _, rfl, .inl (SqL.of f3.hB), fun b hb => ?_⟩
    have s1 := same_new hb (.lst vb)
    have e1 : (upd Hc b (.lst vb)) b = some (.lst vb) := upd_same
    generalize upd Hc b (.lst vb) = H1 at s1 e1 ⊢
    have f4 := f3.same s1
    refine ⟨_, rfl, I, _, rfl, .inl (SqL.of f4.hI), fun i hi => ?_⟩
    have s2 := same_new hi (.lst (ins.map V.str))
    have e2 : (upd H1 i (.lst (ins.map V.str))) i = some (.lst (ins.map V.str)) := upd_same
    generalize upd H1 i (.lst (ins.map V.str)) = H2 at s2 e2 ⊢
    have f5 := f4.same s2
    refine ⟨_, rfl, N, _, rfl, .inl (SqL.of f5.hN), fun n hn => ⟨(by show 3 ≤ sizeLine; decide), fun r hr' => ?_⟩⟩
    have s3 := same_new hn (.lst vn)
    have e3 : (upd H2 n (.lst vn)) n = some (.lst vn) := upd_same
    generalize upd H2 n (.lst vn) = H3 at s3 e3 hr' ⊢
    have s4 := same_new hr' (.tup [.ref b, .ref i, .ref n])
    have s01 := same_trans s0 s1
    have s02 := same_trans s01 s2
    have s03 := same_trans s02 s3
    exact q r b i n _ ⟨same_trans s03 s4, none_of_same s0 hb, none_of_same s01 hi, none_of_same s02 hn, ne_of_none (s2 _ _ e1) hn, ne_of_none e2 hn, ne_of_none e1 hi, upd_same, s4 _ _ (s3 _ _ (s2 _ _ e1)), s4 _ _ (s3 _ _ e2), s4 _ _ e3, none_of_same s03 hr'⟩
theorem has_progOfX {C : Addr} (s : Src K mg "program_of" sProgOfX) (m_list : mg "list" = none) (RB : HasX P w K mg base "refuse_boxes" ["boxes"] 23 (spRefBX C)) (RI : HasX P w K mg base "refuse_inputs" ["boxes", "inputs"] 23 (spRefIX C)) (RN : HasX P w K mg base "refuse_nodes" ["boxes", "nodes"] 23 (spRefNX C)) : HasX P w K mg base "program_of" ["boxes", "inputs", "nodes"] 24 (spProgOfX C) :=
  let ⟨f, fd, F, m⟩ := s
  ⟨f, fd, ok_progOfX F m_list RB RI RN, F.kp, bnd3 F fun _ _ _ _ _ _ _ _ _ => rfl, m⟩
end
end TW
set_option Elab.async false
set_option linter.all false
set_option maxRecDepth 100000
set_option exponentiation.threshold 4000
set_option maxHeartbeats 1000000
namespace TW
open PySem L2
section
variable {P : Program} {w : World} {K : PySem.W.Frag} {mg : Str → Option Value} {base : Heap}
abbrev sNames : Stmt := top 30
theorem sub_len {α : Type} [DecidableEq α] : ∀ {xs ys : List α}, xs.Nodup → (∀ x ∈ xs, x ∈ ys) → xs.length ≤ ys.length
  | [], _, _, _ => Nat.zero_le _
  | x :: r, ys, nd, h => by
    rw [List.nodup_cons] at nd
    have hx : x ∈ ys := h x (List.mem_cons.mpr (.inl rfl))
    have ih := sub_len (xs := r) (ys := ys.erase x) nd.2 fun y hy => (List.mem_erase_of_ne (a := y) (b := x) (fun e : y = x => nd.1 (e ▸ hy))).mpr (h y (List.mem_cons.mpr (.inr hy)))
    have hl := List.length_erase_of_mem hx
    have hpos : 0 < ys.length := List.length_pos_of_mem hx
    rw [List.length_cons]
    omega
/-! ### names -/
abbrev lets : Str := "abcdefghijklmnopqrstuvwxyz"
def SN (l : List Nat) : Str := ⟨l.toArray⟩
theorem SN_snoc (l : List Nat) (c : Nat) : SN l ++ (⟨#[c]⟩ : Str) = SN (l ++ [c]) := by
  show Str.append _ _ = _
  unfold Str.append SN
  simp
theorem SN_len (l : List Nat) : (SN l).length = l.length := by show l.toArray.size = _; simp
theorem SN_inj {a b : List Nat} (h : SN a = SN b) : a = b := by
  have := congrArg (fun s : Str => s.cps.toList) h
  simpa [SN] using this
theorem lets_at {k : Int} (h0 : 0 ≤ k) (h1 : k < 26) : atI lets.cps.toList k = some (97 + k.toNat) := by
  have all : ∀ n : Fin 26, atI lets.cps.toList (n.1 : Int) = some (97 + n.1) := by decide +kernel
  have := all ⟨k.toNat, by omega⟩
  rw [show ((k.toNat : Nat) : Int) = k by omega] at this
  exact this
theorem lets_find {n : Nat} (h : n < 26) : Txt.find lets ⟨#[97 + n]⟩ = (n : Int) := by
  have all : ∀ n : Fin 26, Txt.find lets ⟨#[97 + n.1]⟩ = (n.1 : Int) := by decide +kernel
  exact all ⟨n, h⟩
theorem fm_congr {α β : Type} {f g : α → Option β} : ∀ {l : List α}, (∀ x ∈ l, f x = g x) → l.filterMap f = l.filterMap g
  | [], _ => rfl
  | a :: l, h => by rw [List.filterMap_cons, List.filterMap_cons, h a List.mem_cons_self, fm_congr fun x hx => h x (List.mem_cons_of_mem _ hx)]
theorem filterMap_range (l : List Nat) : (List.range l.length).filterMap (fun x => l[x]?) = l := by
  induction l with
  | nil => rfl
  | cons a l ih =>
    rw [List.length_cons, List.range_succ_eq_map, List.filterMap_cons]
    show a :: List.filterMap _ (List.map _ _) = _
    rw [List.filterMap_map]
    congr 1
theorem SN_cut {l : List Nat} {c : Nat} (h : l.length ≤ 20) : Txt.slice (SN (l ++ [c])) none (some (-1)) = SN l := by
  have all : ∀ n : Fin 21, Builtin.Str.strSliceIndices none (some (-1)) 1 (n.1 + 1) = List.range n.1 := by decide +kernel
  have e := all ⟨l.length, by omega⟩
  have e : Builtin.Str.strSliceIndices none (some (-1)) 1 (l.length + 1) = List.range l.length := e
  have hl : (SN (l ++ [c])).length = l.length + 1 := by rw [SN_len, List.length_append]; rfl
  unfold Txt.slice
  rw [hl, e, List.length_range, if_neg (by simp)]
  unfold SN
  congr 2
  apply List.ext_getElem?
  intro i
  have key : (List.filterMap (fun x => (l ++ [c]).toArray[x]?) (List.range l.length)) = l := by
    have : (List.range l.length).filterMap (fun x => (l ++ [c]).toArray[x]?) = (List.range l.length).filterMap (fun x => l[x]?) := by
      apply fm_congr
      intro x hx
      have hx := List.mem_range.mp hx
      simp [List.getElem?_append_left hx]
    rw [this]
    exact filterMap_range l
  rw [key]
abbrev PRE : List (List Nat) := [[], [122, 122], [113], [121, 101, 115], [112, 117, 116], [115, 97, 121], [112, 105, 99, 107], [101, 110, 100], [98, 111, 120]]
structure NmOk (x : Str) : Prop where
  ex : ∃ p w : List Nat, p ∈ PRE ∧ 1 ≤ w.length ∧ w.length ≤ 4 ∧ x = SN (p ++ w)
theorem pre_len {p : List Nat} (h : p ∈ PRE) : p.length ≤ 4 := by
  have all : ∀ p ∈ PRE, p.length ≤ 4 := by decide
  exact all p h
theorem NmOk.len {x : Str} (h : NmOk x) : x.length ≤ 8 := by
  obtain ⟨p, w, hp, _, h4, rfl⟩ := h.ex
  rw [SN_len, List.length_append]
  have := pre_len hp
  omega
theorem NmOk.no {x : Str} (h : NmOk x) : x ≠ "nobox" := fun e => by
  obtain ⟨p, w, hp, h1, h4, rfl⟩ := h.ex
  have e : p ++ w = [110, 111, 98, 111, 120] := SN_inj (e.trans (by decide +kernel))
  have all : ∀ p ∈ PRE, p = [] ∨ ∃ c r, p = c :: r ∧ c ≠ 110 := by
    intro p hp
    simp only [PRE, List.mem_cons, List.not_mem_nil, or_false] at hp
    rcases hp with rfl | rfl | rfl | rfl | rfl | rfl | rfl | rfl | rfl
    · exact .inl rfl
    all_goals exact .inr ⟨_, _, rfl, by decide⟩
  rcases all p hp with rfl | ⟨c, r, rfl, n⟩
  · have := congrArg List.length e
    simp at this
    omega
  · injection e with e _
    exact n e
structure NamesOk (ns : List Str) : Prop where
  nd : ns.Nodup
  l4 : ns.length ≤ 4
  ok : ∀ x ∈ ns, NmOk x
/-- turned on until it is none of them -/
theorem turn_few {ns : List Str} {l : List Nat} {i0 t : Nat} (l4 : ns.length ≤ 4) (ht : t ≤ ns.length) (all : ∀ s, s < t + 1 → SN (l ++ [97 + (i0 + s) % 26]) ∈ ns) : t + 1 ≤ ns.length := by
  have nd : ((List.range (t + 1)).map fun s => SN (l ++ [97 + (i0 + s) % 26])).Nodup := by
    refine List.pairwise_map.mpr (List.Pairwise.imp_of_mem ?_ List.nodup_range)
    intro a b ha hb ne e
    have ha := List.mem_range.mp ha
    have hb := List.mem_range.mp hb
    have e := List.append_cancel_left (SN_inj e)
    injection e with e _
    omega
  have := sub_len nd (ys := ns) fun x hx => by
    obtain ⟨s, hs, rfl⟩ := List.mem_map.mp hx
    exact all s (List.mem_range.mp hs)
  rw [List.length_map, List.length_range] at this
  exact this
abbrev w10 : List V := [.str "", .str "", .str "zz", .str "q", .str "yes", .str "put", .str "say", .str "pick", .str "end", .str "box"]
def spNames : Sp := fun vs H Q _ => ∃ (r : Addr) (m : Int), vs = [.ref r, .int m] ∧ Reel H r ∧ 0 ≤ m ∧ m ≤ 4 ∧ ∀ (l : Addr) (ns : List Str) (H' : Hp), Rl r H H' → l ≠ r → H l = none → H' l = some (.lst (ns.map V.str)) → NamesOk ns → Q (.ref l) H'
theorem scNames : FnScope ["reel", "many", "letters", "words", "names", "k", "name", "j"] ["reel", "many"] (defScope sNames) := ⟨rfl, rfl, rfl, by decide +kernel, rfl, by decide +kernel, by decide +kernel⟩
theorem gNames_law_take : (defScope sNames).names.lookup (Str.ofString "_law_take") = some .globalImplicit := by decide +kernel
theorem gNames_range : (defScope sNames).names.lookup (Str.ofString "range") = some .globalImplicit := by decide +kernel
theorem ok_names {f : Addr} {fd : FuncData} (F : Fun K "_law_names" "_law_names" sNames f fd) (m_range : mg "range" = none) (TK : Has P w K mg base "_law_take" ["reel", "many"] 1 spTake) : FnOk P w K mg base CX0 2 f fd ["reel", "many"] spNames := by
  refine F.ok scNames (fun vs H Q E h => ?_) (fun cdv A outer s H vs Q E hr h => ?_)
  · obtain ⟨r, m, rfl, _⟩ := h
    rfl
  · obtain ⟨r, m, rfl, rl, m0, m4, q⟩ := h
    refine goL ⟨_, (L3.cons (L3.set 2 scNames.nd L3.str)
      (L3.cons (L3.set 3 scNames.nd (L3.lst (L3.k L3.str (L3.k L3.str (L3.k L3.str (L3.k L3.str (L3.k L3.str (L3.k L3.str L3.n))))))))
      (L3.cons (L3.set 4 scNames.nd (L3.lst L3.n))
      (L3.cons (L3.for_ (L3.iR gNames_range m_range (L3.k (L3.v 1) L3.n)) (L3.gn 5 scNames.nd) (L3.cons (L3.set 6 scNames.nd (L3.ix L3.ixL (L3.op L3.o_cat (L3.lst (L3.k L3.str (L3.k L3.str (L3.k L3.str (L3.k L3.str L3.n))))) (L3.v 3)) (L3.own TK hr gNames_law_take (L3.k (L3.v 0) (L3.k L3.int L3.n)))))
      (L3.cons (L3.for_ (L3.iR gNames_range m_range (L3.k (L3.op L3.o_add L3.int (L3.own TK hr gNames_law_take (L3.k (L3.v 0) (L3.k L3.int L3.n)))) L3.n)) (L3.gn 7 scNames.nd) (L3.one (L3.set 6 scNames.nd (L3.op L3.o_addS (L3.v 6) (L3.ix L3.ixS (L3.v 2) (L3.own TK hr gNames_law_take (L3.k (L3.v 0) (L3.k L3.int L3.n))))))))
      (L3.cons (L3.while_ (L3.cmp L3.o_in (L3.v 6) (L3.v 4) (by rfl)) (L3.one (L3.set 6 scNames.nd (L3.op L3.o_addS (L3.slS2 (L3.v 6) (L3.neg L3.int)) (L3.ix L3.ixS (L3.v 2) (L3.op L3.o_mod (L3.op L3.o_add (L3.sfind (L3.v 2) (L3.k (L3.ix L3.ixS (L3.v 6) (L3.neg L3.int)) L3.n)) L3.int) L3.int))))))
      (L3.one (L3.ex (L3.append (L3.v 4) (L3.k (L3.v 6) L3.n))))))))
      (L3.one (L3.ret (L3.v 4))))))), ?_⟩
    refine cut3 fun Rk kR => ?_
    refine gn_go ?_
    refine ⟨(by show 6 ≤ sizeLine; decide), fun wl hwl => ?_⟩
    have s1 : Same H (upd H wl (.lst [.str "yes", .str "put", .str "say", .str "pick", .str "end", .str "box"])) := same_new hwl _
    have g1 : (upd H wl (.lst [.str "yes", .str "put", .str "say", .str "pick", .str "end", .str "box"])) wl = some (.lst [.str "yes", .str "put", .str "say", .str "pick", .str "end", .str "box"]) := upd_same
    generalize upd H wl (.lst [.str "yes", .str "put", .str "say", .str "pick", .str "end", .str "box"]) = H1 at s1 g1 ⊢
    refine ⟨(by show 0 ≤ sizeLine; decide), fun ln hln => ?_⟩
    have lnr : ln ≠ r := (rl.same s1).ne hln
    have wr : wl ≠ r := rl.ne hwl
    have lnw : wl ≠ ln := ne_of_none g1 hln
    have hln0 := none_of_same s1 hln
    have g2 : (upd H1 ln (.lst [])) ln = some (.lst (([] : List Str).map V.str)) := upd_same
    have s2 : Same H (upd H1 ln (.lst [])) := same_add s1 hln
    have gw : (upd H1 ln (.lst [])) wl = some (.lst [.str "yes", .str "put", .str "say", .str "pick", .str "end", .str "box"]) := same_new hln _ _ _ g1
    have rl2 := Rl.of rl s2
    generalize upd H1 ln (.lst []) = H2 at g2 s2 gw rl2 ⊢
    clear s1 g1 hln
    refine kR _ _ ?_
    refine normS [some (.ref r), some (.int m), some (.str lets), some (.ref wl), some (.ref ln), none, none, none] rfl ?_
    refine cut1 fun Rk kR => ?_
    refine ⟨_, rfl, m, rfl, by omega, by omega, ?_⟩
    refine for_range (lo := 0) (n := m.toNat) (fun i σ Hx => (∃ o5 o6 o7, σ = [some (.ref r), some (.int m), some (.str lets), some (.ref wl), some (.ref ln), o5, o6, o7]) ∧ Rl r H Hx ∧ Hx wl = some (.lst [.str "yes", .str "put", .str "say", .str "pick", .str "end", .str "box"]) ∧ ∃ ns, Hx ln = some (.lst (ns.map V.str)) ∧ NamesOk ns ∧ ns.length = i) ⟨⟨_, _, _, rfl⟩, rl2, gw, [], g2, ⟨List.nodup_nil, Nat.zero_le _, fun x hx => nomatch hx⟩, rfl⟩ (fun i σ Hx hi z => ?_) (fun σ Hx z => ?_)
    · obtain ⟨⟨o5, o6, o7, rfl⟩, rx, gwx, ns, gl, ok, nl⟩ := z
      refine gn_go ?_
      refine normS [some (.ref r), some (.int m), some (.str lets), some (.ref wl), some (.ref ln), some (.int (0 + (i : Int))), o6, o7] rfl ?_
      refine cut1 fun Rj kj => ?_
      refine ⟨(by show 4 ≤ sizeLine; decide), fun pa hpa => ?_⟩
      have sa : Same Hx (upd Hx pa (.lst [.str "", .str "", .str "zz", .str "q"])) := same_new hpa _
      have ga : (upd Hx pa (.lst [.str "", .str "", .str "zz", .str "q"])) pa = some (.lst [.str "", .str "", .str "zz", .str "q"]) := upd_same
      generalize upd Hx pa (.lst [.str "", .str "", .str "zz", .str "q"]) = Ha at sa ga ⊢
      refine ⟨_, rfl, pa, wl, _, _, rfl, rfl, ga, sa _ _ gwx, by show 10 ≤ sizeLine; decide, fun pb hpb => ?_⟩
      have sb : Same Ha (upd Ha pb (.lst ([.str "", .str "", .str "zz", .str "q"] ++ [.str "yes", .str "put", .str "say", .str "pick", .str "end", .str "box"]))) := same_new hpb _
      have gb : (upd Ha pb (.lst ([.str "", .str "", .str "zz", .str "q"] ++ [.str "yes", .str "put", .str "say", .str "pick", .str "end", .str "box"]))) pb = some (.lst ([.str "", .str "", .str "zz", .str "q"] ++ [.str "yes", .str "put", .str "say", .str "pick", .str "end", .str "box"])) := upd_same
      generalize upd Ha pb (.lst ([.str "", .str "", .str "zz", .str "q"] ++ [.str "yes", .str "put", .str "say", .str "pick", .str "end", .str "box"])) = Hb at sb gb ⊢
      have sab := same_trans sa sb
      refine ⟨_, rfl, r, 10, rfl, rx.rl.same sab, by decide, by decide, fun k H5 k0 k1 r5 => ?_⟩
      have pbr : pb ≠ r := ((rx.rl.same sa).ne hpb)
      obtain ⟨_, hat, p, hp, rfl⟩ := atI_all (P := fun v => ∃ p ∈ PRE, v = .str (SN p)) (xs := w10) (r := k) k0 k1 (fun x hx => by
        have all : ∀ y ∈ (["", "", "zz", "q", "yes", "put", "say", "pick", "end", "box"] : List Str), ∃ p ∈ PRE, y = SN p := by
          have e : (["", "", "zz", "q", "yes", "put", "say", "pick", "end", "box"] : List Str) = [SN [], SN [], SN [122, 122], SN [113], SN [121, 101, 115], SN [112, 117, 116], SN [115, 97, 121], SN [112, 105, 99, 107], SN [101, 110, 100], SN [98, 111, 120]] := by decide +kernel
          rw [e]
          intro y hy
          simp only [List.mem_cons, List.not_mem_nil, or_false] at hy
          rcases hy with rfl | rfl | rfl | rfl | rfl | rfl | rfl | rfl | rfl | rfl <;> exact ⟨_, by decide, rfl⟩
        obtain ⟨y, hy, e⟩ := List.mem_map.mp (show x ∈ (["", "", "zz", "q", "yes", "put", "say", "pick", "end", "box"] : List Str).map V.str from hx)
        obtain ⟨p, hp, e2⟩ := all y hy
        exact ⟨p, hp, by rw [← e, e2]⟩)
      refine ⟨pb, _, _, _, rfl, rfl, SqL.of (r5.k _ _ pbr gb), hat, ?_⟩
      refine gn_go ?_
      refine kj _ _ ?_
      refine normS [some (.ref r), some (.int m), some (.str lets), some (.ref wl), some (.ref ln), some (.int (0 + (i : Int))), some (.str (SN p)), o7] rfl ?_
      have rx5 := (rx.trans (Rl.of rx.rl sab)).trans r5
      have gw5 := r5.k _ _ wr (sab _ _ gwx)
      have gl5 := r5.k _ _ lnr (sab _ _ gl)
      clear sa sb sab ga gb hpa hpb hat rx gwx gl r5 pbr
      refine cut1 fun Rj kj => ?_
      refine ⟨_, rfl, r, 4, rfl, rx5.rl, by decide, by decide, fun n H6 n0 n1 r6 => ⟨_, _, rfl, rfl, 1 + n, rfl, by omega, by omega, ?_⟩⟩
      refine for_range (lo := 0) (n := (1 + n).toNat) (fun c σ Hy => (∃ o7 w, σ = [some (.ref r), some (.int m), some (.str lets), some (.ref wl), some (.ref ln), some (.int (0 + (i : Int))), some (.str (SN (p ++ w))), o7] ∧ w.length = c ∧ ∀ x ∈ w, 97 ≤ x ∧ x < 123) ∧ Rl r H6 Hy) ⟨⟨_, [], by rw [List.append_nil], rfl, fun x hx => nomatch hx⟩, Rl.refl r6.rl⟩ (fun c σ Hy hc z => ?_) (fun σ Hy z => ?_)
      · obtain ⟨⟨o7, w, rfl, wc, wl9⟩, ry⟩ := z
        have pl := pre_len hp
        have hwl4 : w.length ≤ 4 := by omega
        refine gn_go ?_
        refine ⟨_, rfl, _, rfl, _, rfl, r, 26, rfl, ry.rl, by decide, by decide, fun k H7 k0 k1 r7 => ?_⟩
        refine ⟨lets, k, 97 + k.toNat, rfl, rfl, by decide, lets_at k0 k1, SN (p ++ w), ⟨#[97 + k.toNat]⟩, rfl, rfl, ?_, ?_⟩
        · rw [SN_len, List.length_append]
          exact Nat.le_trans (show _ ≤ 20 by show p.length + w.length + 1 ≤ 20; omega) (by decide)
        · rw [SN_snoc, List.append_assoc]
          refine ⟨⟨_, w ++ [97 + k.toNat], rfl, by rw [List.length_append, wc]; rfl, fun x hx => ?_⟩, ry.trans r7⟩
          rcases List.mem_append.mp hx with z | z
          · exact wl9 x z
          · rw [List.mem_singleton.mp z]; omega
      obtain ⟨⟨o7, w, rfl, wc, wl9⟩, ry⟩ := z
      have gw7 := ry.k _ _ wr (r6.k _ _ wr gw5)
      have gl7 := ry.k _ _ lnr (r6.k _ _ lnr gl5)
      have rx7 := (rx5.trans r6).trans ry
      clear gw5 gl5 rx5 r6 ry
      refine kj _ _ ?_
      obtain ⟨w0, c0, rfl⟩ : ∃ w0 c0, w = w0 ++ [c0] := by
        refine ⟨w.dropLast, w.getLast (fun e => by rw [e] at wc; simp at wc; omega), (List.dropLast_concat_getLast _).symm⟩
      have c9 := wl9 c0 (List.mem_append.mpr (.inr (List.mem_singleton.mpr rfl)))
      rw [List.length_append] at wc
      have wc : w0.length + 1 = (1 + n).toNat := wc
      obtain ⟨i0, rfl⟩ : ∃ i0, c0 = 97 + i0 := ⟨c0 - 97, by omega⟩
      have i26 : i0 < 26 := by omega
      have pl := pre_len hp
      obtain ⟨l, el⟩ : ∃ l, l = p ++ w0 := ⟨_, rfl⟩
      have ll : l.length ≤ 8 := by rw [el, List.length_append]; omega
      refine normS [some (.ref r), some (.int m), some (.str lets), some (.ref wl), some (.ref ln), some (.int (0 + (i : Int))), some (.str (SN (l ++ [97 + (i0 + 0) % 26]))), o7] (by rw [el, List.append_assoc, Nat.add_zero, Nat.mod_eq_of_lt i26]) ?_
      refine cut1 fun Rj kj => ?_
      refine ⟨fun d σ Hz => ∃ t, σ = [some (.ref r), some (.int m), some (.str lets), some (.ref wl), some (.ref ln), some (.int (0 + (i : Int))), some (.str (SN (l ++ [97 + (i0 + t) % 26]))), o7] ∧ Hz = Hy ∧ d + t = ns.length ∧ ∀ s, s < t → SN (l ++ [97 + (i0 + s) % 26]) ∈ ns, ⟨ns.length, 0, rfl, rfl, rfl, fun s hs => absurd hs (Nat.not_lt_zero _)⟩, fun d σ Hz z => ?_⟩
      obtain ⟨t, rfl, rfl, dt, al⟩ := z
      refine ⟨_, rfl, _, rfl, ln, _, rfl, .inl (SqL.of gl7), rfl, flat_strs, _, rfl, ?_⟩
      have l4 := ok.l4
      refine ite2 (fun c => ?_) (fun c => ?_)
      · have hin : SN (l ++ [97 + (i0 + t) % 26]) ∈ ns := by rw [inV_iff] at c; exact of_decide_eq_true c
        have al' : ∀ s, s < t + 1 → SN (l ++ [97 + (i0 + s) % 26]) ∈ ns := fun s hs => by
          rcases Nat.lt_or_ge s t with z | z
          · exact al s z
          · have : s = t := by omega
            rw [this]; exact hin
        have tf := turn_few l4 (by omega) al'
        have m26 : (i0 + t) % 26 < 26 := Nat.mod_lt _ (by decide)
        have len9 : ∀ c, (SN (l ++ [c])).length ≤ sizeLine := fun c => by rw [SN_len, List.length_append]; exact Nat.le_trans (show _ ≤ 20 by show l.length + 1 ≤ 20; omega) (by decide)
        refine ⟨fun σ' H' => ∃ t, σ' = [some (.ref r), some (.int m), some (.str lets), some (.ref wl), some (.ref ln), some (.int (0 + (i : Int))), some (.str (SN (l ++ [97 + (i0 + t) % 26]))), o7] ∧ H' = Hz ∧ d - 1 + t = ns.length ∧ ∀ s, s < t → SN (l ++ [97 + (i0 + s) % 26]) ∈ ns, fun σ' H' z => ⟨d - 1, by omega, z⟩, ?_⟩
        refine ⟨_, rfl, _, rfl, _, rfl, _, rfl, len9 _, ?_⟩
        rw [SN_cut (by omega)]
        refine ⟨_, rfl, _, rfl, rfl, _, rfl, _, rfl, _, _, 97 + (i0 + t) % 26, rfl, rfl, len9 _, ?_, _, _, rfl, rfl, ?_⟩
        · show atI (l ++ [97 + (i0 + t) % 26]).toArray.toList (-1) = _
          rw [List.toList_toArray]
          exact atI_last _ _
        rw [lets_find m26]
        refine ⟨_, _, rfl, rfl, _, _, rfl, rfl, (by show (0 : Int) < 26; decide), lets, _, 97 + (i0 + (t + 1)) % 26, rfl, rfl, by decide, ?_, SN l, ⟨#[97 + (i0 + (t + 1)) % 26]⟩, rfl, rfl, ?_, ?_⟩
        · rw [lets_at (mod_lo (by decide)) (mod_hi (by decide))]
          congr 2
          omega
        · rw [SN_len]
          exact Nat.le_trans (show _ ≤ 20 by show l.length + 1 ≤ 20; omega) (by decide)
        · rw [SN_snoc]
          exact ⟨t + 1, rfl, rfl, by omega, al'⟩
      have hno : SN (l ++ [97 + (i0 + t) % 26]) ∉ ns := fun z => c (by rw [inV_iff]; exact decide_eq_true z)
      refine kj _ _ ?_
      refine ⟨_, rfl, .inl ⟨rfl, _, SqL.of gl7⟩, _, rfl, ln, _, _, rfl, rfl, gl7, small1000 (by rw [List.length_map]; omega), ⟨_, _, _, rfl⟩, rx7.put lnr hln0, by rw [upd_ne lnw]; exact gw7, ns ++ [SN (l ++ [97 + (i0 + t) % 26])], by rw [upd_same, List.map_append]; rfl, ⟨?_, ?_, fun x hx => ?_⟩, by rw [List.length_append, nl]; rfl⟩
      · rw [List.nodup_append]
        exact ⟨ok.nd, by simp, fun a ha b hb e => hno (by rw [List.mem_singleton.mp hb] at e; exact e ▸ ha)⟩
      · rw [List.length_append, nl]
        show i + 1 ≤ 4
        omega
      · rcases List.mem_append.mp hx with z | z
        · exact ok.ok x z
        · rw [List.mem_singleton.mp z, el]
          exact ⟨p, w0 ++ [97 + (i0 + t) % 26], hp, by rw [List.length_append]; show 1 ≤ _ + 1; omega, by rw [List.length_append]; show _ + 1 ≤ 4; omega, by rw [List.append_assoc]⟩
    obtain ⟨⟨o5, o6, o7, rfl⟩, rx, _, ns, gl, ok, _⟩ := z
    refine kR _ _ ?_
    exact ⟨_, rfl, q ln ns Hx rx lnr hln0 gl ok⟩
theorem has_names (s : Src K mg "_law_names" sNames) (m_range : mg "range" = none) (TK : Has P w K mg base "_law_take" ["reel", "many"] 1 spTake) : Has P w K mg base "_law_names" ["reel", "many"] 2 spNames :=
  let ⟨f, fd, F, m⟩ := s
  ⟨f, fd, ok_names F m_range TK, F.kp, bnd2 F fun _ _ _ _ _ _ _ _ => rfl, m⟩
end
end TW
set_option Elab.async false
set_option linter.all false
set_option maxRecDepth 100000
set_option exponentiation.threshold 4000
set_option maxHeartbeats 1000000
namespace TW
open PySem L2
section
variable {P : Program} {w : World} {K : PySem.W.Frag} {mg : Str → Option Value} {base : Heap}
abbrev sSum : Stmt := top 31
abbrev sCond : Stmt := top 32
abbrev sNode : Stmt := top 33
/-! ### drawn sums, conditions, nodes -/
structure Dr (H : Hp) (r nl : Addr) (ns : List Str) : Prop where
  rl : Reel H r
  nr : nl ≠ r
  hn : H nl = some (.lst (ns.map V.str))
  l4 : ns.length ≤ 4
theorem Dr.go {H H1 : Hp} {r nl : Addr} {ns : List Str} (d : Dr H r nl ns) (l : Rl r H H1) : Dr H1 r nl ns := ⟨l.rl, d.nr, l.k _ _ d.nr d.hn, d.l4⟩
abbrev bxN (ns : List Str) : Str → Str → Prop := fun t x => t = "box" ∧ x ∈ ns
def spSum (n : Nat) : Sp := fun vs H Q _ => ∃ (r nl : Addr) (d : Int) (ns : List Str), vs = [.ref r, .ref nl, .int d] ∧ Dr H r nl ns ∧ 0 ≤ d ∧ d < n ∧ ∀ (v : V) (e : E) (H' : Hp), Rl r H H' → EAt H' v e → e.isS → e.okIn (bxN ns) → e.dep ≤ d.toNat → Q v H'
theorem pick2 {k : Int} {a b : K2} (h0 : 0 ≤ k) (h1 : k < 2) : ∃ kk : K2, atI ([.str a.str, .str b.str] : List V) k = some (.str kk.str) ∧ (kk = a ∨ kk = b) := by
  rcases (show k = 0 ∨ k = 1 by omega) with rfl | rfl
  · exact ⟨a, rfl, .inl rfl⟩
  · exact ⟨b, rfl, .inr rfl⟩
theorem none_sum {f : Addr} {fd : FuncData} : FnOk P w K mg base CX0 2 f fd ["reel", "names", "deep"] (spSum 0) := by
  have no : ∀ vs H Q E, ¬ spSum 0 vs H Q E := fun vs H Q E h => by
    obtain ⟨r, nl, d, ns, _, _, d0, dn, _⟩ := h
    omega
  exact ⟨fun vs H Q E h => absurd h (no vs H Q E), fun A outer s H args us vs Q E _ _ _ _ h => absurd h (no vs H Q E)⟩
theorem scSum : FnScope ["reel", "names", "deep", "way", "one"] ["reel", "names", "deep"] (defScope sSum) := ⟨rfl, rfl, rfl, by decide +kernel, rfl, by decide +kernel, by decide +kernel⟩
theorem gSum_law_sum : (defScope sSum).names.lookup (Str.ofString "_law_sum") = some .globalImplicit := by decide +kernel
theorem gSum_law_take : (defScope sSum).names.lookup (Str.ofString "_law_take") = some .globalImplicit := by decide +kernel
theorem gSum_len : (defScope sSum).names.lookup (Str.ofString "len") = some .globalImplicit := by decide +kernel
theorem ok_sum {n : Nat} {f : Addr} {fd : FuncData} (F : Fun K "_law_sum" "_law_sum" sSum f fd) (m_len : mg "len" = none) (TK0 : Has P w K mg base "_law_take" ["reel", "many"] 1 spTake) (G : Has P w K mg base "_law_sum" ["reel", "names", "deep"] (n + 2) (spSum n)) : FnOk P w K mg base CX0 (n + 1 + 2) f fd ["reel", "names", "deep"] (spSum (n + 1)) := by
  refine F.ok scSum (fun vs H Q E h => ?_) (fun cdv A outer s H vs Q E hr h => ?_)
  · obtain ⟨r, nl, d, ns, rfl, _⟩ := h
    rfl
  · obtain ⟨r, nl, d, ns, rfl, D, d0, dn, q⟩ := h
    have TK := TK0.mono (show 1 ≤ n + 2 by omega)
    refine goL ⟨_, (L3.cons (L3.set 3 scSum.nd (L3.own TK hr gSum_law_take (L3.k (L3.v 0) (L3.k L3.int L3.n))))
      (L3.cons (L3.ifs (L3.tw (L3.and2 (L3.cmp (L3.o_neD (m := 2) (up_ne hr _ (by decide))) (L3.v 1) (L3.lst L3.n)) (L3.and1 (L3.cmp L3.o_lt (L3.v 3) L3.int)))) (L3.one (L3.ret (L3.tup (L3.k L3.str (L3.k (L3.ix L3.ixL (L3.v 1) (L3.own TK hr gSum_law_take (L3.k (L3.v 0) (L3.k (L3.callB L3.c_len gSum_len m_len PySem.boot_len (L3.k (L3.v 1) L3.n)) L3.n)))) L3.n))))) L3.nil)
      (L3.cons (L3.ifs (L3.tw (L3.or2 (L3.cmp L3.o_eq (L3.v 2) L3.int) (L3.or1 (L3.cmp L3.o_eq (L3.v 3) L3.int)))) (L3.one (L3.ret (L3.tup (L3.k L3.str (L3.k (L3.own TK hr gSum_law_take (L3.k (L3.v 0) (L3.k (L3.ix L3.ixL (L3.lst (L3.k L3.int (L3.k L3.int (L3.k L3.int L3.n)))) (L3.own TK hr gSum_law_take (L3.k (L3.v 0) (L3.k L3.int L3.n)))) L3.n))) L3.n))))) L3.nil)
      (L3.cons (L3.set 4 scSum.nd (L3.own G hr gSum_law_sum (L3.k (L3.v 0) (L3.k (L3.v 1) (L3.k (L3.op L3.o_sub (L3.v 2) L3.int) L3.n)))))
      (L3.one (L3.ret (L3.tup (L3.k (L3.ix L3.ixL (L3.lst (L3.k L3.str (L3.k L3.str L3.n))) (L3.own TK hr gSum_law_take (L3.k (L3.v 0) (L3.k L3.int L3.n)))) (L3.k (L3.v 4) (L3.k (L3.own G hr gSum_law_sum (L3.k (L3.v 0) (L3.k (L3.v 1) (L3.k (L3.op L3.o_sub (L3.v 2) L3.int) L3.n)))) L3.n)))))))))), ?_⟩
    refine cut1 fun Rk kR => ?_
    refine ⟨_, rfl, r, 6, rfl, D.rl, by decide, by decide, fun k H1 k0 k1 l1 => ?_⟩
    have D1 := D.go l1
    refine gn_go ?_
    refine kR _ _ ?_
    refine normS [some (.ref r), some (.ref nl), some (.int d), some (.int k), none] rfl ?_
    refine cut1 fun Rk kR => ?_
    refine ⟨_, rfl, (by show 0 ≤ sizeLine; decide), fun z hz => ?_⟩
    have lz : Rl r H1 (upd H1 z (.lst [])) := Rl.new D1.rl hz
    have gz : (upd H1 z (.lst [])) z = some (.lst []) := upd_same
    generalize upd H1 z (.lst []) = H2 at lz gz ⊢
    have D2 := D1.go lz
    have l2 := l1.trans lz
    refine ⟨_, RB.nil (SqL.of D2.hn) (SqL.of gz), _, rfl, ?_⟩
    suffices hs : Rk [some (.ref r), some (.ref nl), some (.int d), some (.int k), none] H2 by
      refine ite2 (fun c => ?_) (fun c => ?_)
      · refine ⟨_, rfl, _, _, rfl, rfl, _, rfl, ?_⟩
        refine ite2 (fun c3 => ?_) (fun c3 => hs)
        have hpos : 0 < ns.length := by
          cases ns with
          | nil => exact absurd c (by decide)
          | cons a l => exact Nat.succ_pos _
        have l4 := D.l4
        refine ⟨_, rfl, _, rfl, _, rfl, nl, _, rfl, .inl (SqL.of D2.hn), r, _, rfl, D2.rl, by rw [List.length_map]; omega, by rw [List.length_map]; exact Int.lt_of_le_of_lt (show _ ≤ (4 : Int) by omega) (by decide), fun j H3 j0 j1 l3 => ?_⟩
        rw [List.length_map] at j1
        obtain ⟨x, hxm, hat⟩ := atI_map V.str ns j0 j1
        have D3 := D2.go l3
        refine ⟨nl, _, _, _, rfl, rfl, SqL.of D3.hn, hat, (by show 2 ≤ sizeLine; decide), fun p hp => ?_⟩
        exact q (.ref p) (.box "box" x) _ (l2.trans (l3.trans (Rl.new D3.rl hp))) ⟨p, rfl, upd_same⟩ True.intro ⟨rfl, hxm⟩ (Nat.zero_le _)
      · exact iteF hs
    refine kR _ _ ?_
    refine cut1 fun Rk kR => ?_
    refine ⟨_, rfl, rfl, _, rfl, ?_⟩
    refine ite2 (fun c => ?_) (fun c1 => ?_)
    · refine iteT ?_
      refine ⟨_, rfl, (by show 3 ≤ sizeLine; decide), fun L hL => ?_⟩
      have Lr : L ≠ r := D2.rl.ne hL
      have ll : Rl r H2 (upd H2 L (.lst [.int 3, .int 3, .int 40])) := Rl.new D2.rl hL
      have gL : (upd H2 L (.lst [.int 3, .int 3, .int 40])) L = some (.lst [.int 3, .int 3, .int 40]) := upd_same
      generalize upd H2 L (.lst [.int 3, .int 3, .int 40]) = H3 at ll gL ⊢
      have D3 := D2.go ll
      refine ⟨_, rfl, r, 3, rfl, D3.rl, by decide, by decide, fun j H4 j0 j1 l4 => ?_⟩
      have D4 := D3.go l4
      obtain ⟨_, hat, mm, rfl, mm0, mm1⟩ := atI_all (P := fun v => ∃ mm : Int, v = .int mm ∧ 0 < mm ∧ mm ≤ 40) (xs := [.int 3, .int 3, .int 40]) (r := j) j0 j1 (fun x hx => by
        rcases List.mem_cons.mp hx with e | hx
        · exact ⟨_, e, by decide, by decide⟩
        rcases List.mem_cons.mp hx with e | hx
        · exact ⟨_, e, by decide, by decide⟩
        · exact ⟨_, List.mem_singleton.mp hx, by decide, by decide⟩)
      refine ⟨L, _, _, _, rfl, rfl, SqL.of (l4.k _ _ Lr gL), hat, r, mm, rfl, D4.rl, mm0, by omega, fun i H5 i0 i1 l5 => ⟨(by show 2 ≤ sizeLine; decide), fun p hp => ?_⟩⟩
      exact q (.ref p) (.num i) _ ((l2.trans ll).trans ((l4.trans l5).trans (Rl.new l5.rl hp))) ⟨p, rfl, upd_same⟩ True.intro (by show i.natAbs < 2 ^ 100; exact Nat.lt_of_lt_of_le (show i.natAbs < 41 by omega) (by decide)) (Nat.zero_le _)
    refine ⟨_, rfl, rfl, _, rfl, ?_⟩
    refine ite2 (fun c => ?_) (fun _ => ?_)
    · refine ⟨_, rfl, (by show 3 ≤ sizeLine; decide), fun L hL => ?_⟩
      have Lr : L ≠ r := D2.rl.ne hL
      have ll : Rl r H2 (upd H2 L (.lst [.int 3, .int 3, .int 40])) := Rl.new D2.rl hL
      have gL : (upd H2 L (.lst [.int 3, .int 3, .int 40])) L = some (.lst [.int 3, .int 3, .int 40]) := upd_same
      generalize upd H2 L (.lst [.int 3, .int 3, .int 40]) = H3 at ll gL ⊢
      have D3 := D2.go ll
      refine ⟨_, rfl, r, 3, rfl, D3.rl, by decide, by decide, fun j H4 j0 j1 l4 => ?_⟩
      have D4 := D3.go l4
      obtain ⟨_, hat, mm, rfl, mm0, mm1⟩ := atI_all (P := fun v => ∃ mm : Int, v = .int mm ∧ 0 < mm ∧ mm ≤ 40) (xs := [.int 3, .int 3, .int 40]) (r := j) j0 j1 (fun x hx => by
        rcases List.mem_cons.mp hx with e | hx
        · exact ⟨_, e, by decide, by decide⟩
        rcases List.mem_cons.mp hx with e | hx
        · exact ⟨_, e, by decide, by decide⟩
        · exact ⟨_, List.mem_singleton.mp hx, by decide, by decide⟩)
      refine ⟨L, _, _, _, rfl, rfl, SqL.of (l4.k _ _ Lr gL), hat, r, mm, rfl, D4.rl, mm0, by omega, fun i H5 i0 i1 l5 => ⟨(by show 2 ≤ sizeLine; decide), fun p hp => ?_⟩⟩
      exact q (.ref p) (.num i) _ ((l2.trans ll).trans ((l4.trans l5).trans (Rl.new l5.rl hp))) ⟨p, rfl, upd_same⟩ True.intro (by show i.natAbs < 2 ^ 100; exact Nat.lt_of_lt_of_le (show i.natAbs < 41 by omega) (by decide)) (Nat.zero_le _)
    have d1 := int_ne c1
    refine kR _ _ ?_
    refine cut1 fun Rk kR => ?_
    refine ⟨_, rfl, _, rfl, _, rfl, _, _, rfl, rfl, r, nl, d - 1, ns, rfl, D2, by omega, by omega, fun v e H3 l3 ev is ok dp => ?_⟩
    have D3 := D2.go l3
    refine gn_go ?_
    refine kR _ _ ?_
    refine normS [some (.ref r), some (.ref nl), some (.int d), some (.int k), some v] rfl ?_
    refine ⟨(by show 2 ≤ sizeLine; decide), fun L hL => ?_⟩
    have Lr : L ≠ r := D3.rl.ne hL
    have ll : Rl r H3 (upd H3 L (.lst [.str "plus", .str "less"])) := Rl.new D3.rl hL
    have gL : (upd H3 L (.lst [.str "plus", .str "less"])) L = some (.lst [.str "plus", .str "less"]) := upd_same
    generalize upd H3 L (.lst [.str "plus", .str "less"]) = H4 at ll gL ⊢
    have D4 := D3.go ll
    refine ⟨_, rfl, r, 2, rfl, D4.rl, by decide, by decide, fun j H5 j0 j1 l5 => ?_⟩
    have D5 := D4.go l5
    obtain ⟨kk, hat, hkk⟩ := pick2 (a := .plus) (b := .less) j0 j1
    refine ⟨L, _, _, _, rfl, rfl, SqL.of (l5.k _ _ Lr gL), hat, _, rfl, _, rfl, _, rfl, _, rfl, _, _, rfl, rfl, r, nl, d - 1, ns, rfl, D5, by omega, by omega, fun v2 e2 H6 l6 ev2 is2 ok2 dp2 => ⟨(by show 3 ≤ sizeLine; decide), fun p hp => ?_⟩⟩
    have lp : Rl r H6 (upd H6 p (.tup [.str kk.str, v, v2])) := Rl.new l6.rl hp
    have l36 := (ll.trans l5).trans l6
    refine q (.ref p) (.two kk e e2) _ ((l2.trans l3).trans (l36.trans lp)) ⟨v, v2, ⟨p, rfl, upd_same⟩, ev.keep (Rl.tk D3.rl (l36.trans lp)), ev2.keep (Rl.tk l6.rl lp)⟩ ?_ ⟨ok, ok2⟩ ?_
    · rcases hkk with rfl | rfl <;> exact ⟨is, is2⟩
    · show max e.dep e2.dep + 1 ≤ d.toNat
      omega
theorem has_sum (s : Src K mg "_law_sum" sSum) (m_len : mg "len" = none) (TK0 : Has P w K mg base "_law_take" ["reel", "many"] 1 spTake) : ∀ n : Nat, Has P w K mg base "_law_sum" ["reel", "names", "deep"] (n + 2) (spSum n) := by
  obtain ⟨f, fd, F, m⟩ := s
  have b : Binds K fd ["reel", "names", "deep"] [] := bnd3 F fun _ _ _ _ _ _ _ _ _ => rfl
  intro n
  have all : FnOk P w K mg base CX0 (n + 2) f fd ["reel", "names", "deep"] (spSum n) := by
    induction n with
    | zero => exact none_sum
    | succ n ih => exact ok_sum F m_len TK0 ⟨f, fd, ih, F.kp, b, m⟩
  exact ⟨f, fd, all, F.kp, b, m⟩
def spCond (n : Nat) : Sp := fun vs H Q _ => ∃ (r nl : Addr) (d : Int) (ns : List Str), vs = [.ref r, .ref nl, .int d] ∧ Dr H r nl ns ∧ 0 ≤ d ∧ d < n ∧ ∀ (v : V) (e : E) (H' : Hp), Rl r H H' → EAt H' v e → e.isC → e.okIn (bxN ns) → e.dep ≤ d.toNat + 2 → Q v H'
theorem none_cond {f : Addr} {fd : FuncData} : FnOk P w K mg base CX0 5 f fd ["reel", "names", "deep"] (spCond 0) := by
  have no : ∀ vs H Q E, ¬ spCond 0 vs H Q E := fun vs H Q E h => by
    obtain ⟨r, nl, d, ns, _, _, d0, dn, _⟩ := h
    omega
  exact ⟨fun vs H Q E h => absurd h (no vs H Q E), fun A outer s H args us vs Q E _ _ _ _ h => absurd h (no vs H Q E)⟩
theorem scCond : FnScope ["reel", "names", "deep", "way", "one"] ["reel", "names", "deep"] (defScope sCond) := ⟨rfl, rfl, rfl, by decide +kernel, rfl, by decide +kernel, by decide +kernel⟩
theorem gCond_law_condition : (defScope sCond).names.lookup (Str.ofString "_law_condition") = some .globalImplicit := by decide +kernel
theorem gCond_law_sum : (defScope sCond).names.lookup (Str.ofString "_law_sum") = some .globalImplicit := by decide +kernel
theorem gCond_law_take : (defScope sCond).names.lookup (Str.ofString "_law_take") = some .globalImplicit := by decide +kernel
theorem ok_cond {n : Nat} {f : Addr} {fd : FuncData} (F : Fun K "_law_condition" "_law_condition" sCond f fd) (TK0 : Has P w K mg base "_law_take" ["reel", "many"] 1 spTake) (SM0 : Has P w K mg base "_law_sum" ["reel", "names", "deep"] 4 (spSum 2)) (G : Has P w K mg base "_law_condition" ["reel", "names", "deep"] (n + 5) (spCond n)) : FnOk P w K mg base CX0 (n + 1 + 5) f fd ["reel", "names", "deep"] (spCond (n + 1)) := by
  refine F.ok scCond (fun vs H Q E h => ?_) (fun cdv A outer s H vs Q E hr h => ?_)
  · obtain ⟨r, nl, d, ns, rfl, _⟩ := h
    rfl
  · obtain ⟨r, nl, d, ns, rfl, D, d0, dn, q⟩ := h
    have TK := TK0.mono (show 1 ≤ n + 5 by omega)
    have SM := SM0.mono (show 4 ≤ n + 5 by omega)
    refine goL ⟨_, (L3.cons (L3.set 3 scCond.nd (L3.own TK hr gCond_law_take (L3.k (L3.v 0) (L3.k L3.int L3.n))))
      (L3.cons (L3.ifs (L3.tw (L3.and2 (L3.cmp L3.o_gt (L3.v 2) L3.int) (L3.and1 (L3.cmp L3.o_eq (L3.v 3) L3.int)))) (L3.one (L3.ret (L3.tup (L3.k L3.str (L3.k (L3.own G hr gCond_law_condition (L3.k (L3.v 0) (L3.k (L3.v 1) (L3.k (L3.op L3.o_sub (L3.v 2) L3.int) L3.n)))) L3.n))))) L3.nil)
      (L3.cons (L3.ifs (L3.tw (L3.and2 (L3.cmp L3.o_gt (L3.v 2) L3.int) (L3.and1 (L3.cmp L3.o_eq (L3.v 3) L3.int)))) (L3.cons (L3.set 4 scCond.nd (L3.own G hr gCond_law_condition (L3.k (L3.v 0) (L3.k (L3.v 1) (L3.k (L3.op L3.o_sub (L3.v 2) L3.int) L3.n)))))
      (L3.one (L3.ret (L3.tup (L3.k L3.str (L3.k (L3.v 4) (L3.k (L3.own G hr gCond_law_condition (L3.k (L3.v 0) (L3.k (L3.v 1) (L3.k (L3.op L3.o_sub (L3.v 2) L3.int) L3.n)))) L3.n))))))) L3.nil)
      (L3.cons (L3.ifs (L3.tw (L3.and2 (L3.cmp L3.o_eq (L3.v 3) L3.int) (L3.and1 (L3.cmp L3.o_eq (L3.own TK hr gCond_law_take (L3.k (L3.v 0) (L3.k L3.int L3.n))) L3.int)))) (L3.one (L3.ret (L3.tup (L3.k L3.str L3.n)))) L3.nil)
      (L3.cons (L3.set 4 scCond.nd (L3.own SM hr gCond_law_sum (L3.k (L3.v 0) (L3.k (L3.v 1) (L3.k L3.int L3.n)))))
      (L3.one (L3.ret (L3.tup (L3.k (L3.ix L3.ixL (L3.lst (L3.k L3.str (L3.k L3.str L3.n))) (L3.own TK hr gCond_law_take (L3.k (L3.v 0) (L3.k L3.int L3.n)))) (L3.k (L3.v 4) (L3.k (L3.own SM hr gCond_law_sum (L3.k (L3.v 0) (L3.k (L3.v 1) (L3.k L3.int L3.n)))) L3.n))))))))))), ?_⟩
    refine cut1 fun Rk kR => ?_
    refine ⟨_, rfl, r, 6, rfl, D.rl, by decide, by decide, fun k H1 k0 k1 l1 => ?_⟩
    have D1 := D.go l1
    refine gn_go ?_
    refine kR _ _ ?_
    refine normS [some (.ref r), some (.ref nl), some (.int d), some (.int k), none] rfl ?_
    refine cut1 fun Rk kR => ?_
    refine ⟨_, rfl, _, _, rfl, rfl, _, rfl, ?_⟩
    suffices hs : Rk [some (.ref r), some (.ref nl), some (.int d), some (.int k), none] H1 by
      refine ite2 (fun c => ?_) (fun c => iteF hs)
      have dpos : 0 < d := of_decide_eq_true c
      refine ⟨_, rfl, rfl, _, rfl, ?_⟩
      refine ite2 (fun _ => ?_) (fun _ => hs)
      refine ⟨_, rfl, _, rfl, _, rfl, _, _, rfl, rfl, r, nl, d - 1, ns, rfl, D1, by omega, by omega, fun v e H2 l2 ev is ok dp => ?_⟩
      have D2 := D1.go l2
      refine ⟨(by show 2 ≤ sizeLine; decide), fun p hp => ?_⟩
      have lp : Rl r H2 (upd H2 p (.tup [.str "not", v])) := Rl.new D2.rl hp
      exact q (.ref p) (.nt e) _ (l1.trans (l2.trans lp)) ⟨v, ⟨p, rfl, upd_same⟩, ev.keep (Rl.tk D2.rl lp)⟩ is ok (by show e.dep + 1 ≤ d.toNat + 2; omega)
    refine kR _ _ ?_
    refine cut1 fun Rk kR => ?_
    refine ⟨_, rfl, _, _, rfl, rfl, _, rfl, ?_⟩
    suffices hs : Rk [some (.ref r), some (.ref nl), some (.int d), some (.int k), none] H1 by
      refine ite2 (fun c => ?_) (fun c => iteF hs)
      have dpos : 0 < d := of_decide_eq_true c
      refine ⟨_, rfl, rfl, _, rfl, ?_⟩
      refine ite2 (fun _ => ?_) (fun _ => hs)
      refine ⟨_, rfl, _, rfl, _, rfl, _, _, rfl, rfl, r, nl, d - 1, ns, rfl, D1, by omega, by omega, fun v e H2 l2 ev is ok dp => ?_⟩
      have D2 := D1.go l2
      refine gn_go ?_
      refine ⟨_, rfl, _, rfl, _, rfl, _, rfl, _, _, rfl, rfl, r, nl, d - 1, ns, rfl, D2, by omega, by omega, fun v2 e2 H3 l3 ev2 is2 ok2 dp2 => ?_⟩
      have D3 := D2.go l3
      refine ⟨(by show 3 ≤ sizeLine; decide), fun p hp => ?_⟩
      have lp : Rl r H3 (upd H3 p (.tup [.str "both", v, v2])) := Rl.new D3.rl hp
      exact q (.ref p) (.two .both e e2) _ (l1.trans (l2.trans (l3.trans lp))) ⟨v, v2, ⟨p, rfl, upd_same⟩, ev.keep (Rl.tk D2.rl (l3.trans lp)), ev2.keep (Rl.tk D3.rl lp)⟩ ⟨is, is2⟩ ⟨ok, ok2⟩ (by show max e.dep e2.dep + 1 ≤ d.toNat + 2; omega)
    refine kR _ _ ?_
    refine cut1 fun Rk kR => ?_
    refine ⟨_, rfl, rfl, _, rfl, ?_⟩
    suffices hs : ∀ H2, Rl r H H2 → Rk [some (.ref r), some (.ref nl), some (.int d), some (.int k), none] H2 by
      refine ite2 (fun _ => ?_) (fun _ => iteF (hs H1 l1))
      refine ⟨_, rfl, r, 3, rfl, D1.rl, by decide, by decide, fun j H2 j0 j1 l2 => ⟨rfl, _, rfl, ?_⟩⟩
      refine ite2 (fun _ => ?_) (fun _ => hs H2 (l1.trans l2))
      refine ⟨(by show 1 ≤ sizeLine; decide), fun p hp => ?_⟩
      exact q (.ref p) .yes _ (l1.trans (l2.trans (Rl.new l2.rl hp))) ⟨p, rfl, upd_same⟩ True.intro True.intro (Nat.zero_le _)
    clear D1 l1
    intro H2 l2
    have D2 := D.go l2
    refine kR _ _ ?_
    refine cut1 fun Rk kR => ?_
    refine ⟨_, rfl, _, rfl, r, nl, 1, ns, rfl, D2, by decide, by decide, fun v e H3 l3 ev is ok dp => ?_⟩
    have D3 := D2.go l3
    refine gn_go ?_
    refine kR _ _ ?_
    refine normS [some (.ref r), some (.ref nl), some (.int d), some (.int k), some v] rfl ?_
    refine ⟨(by show 2 ≤ sizeLine; decide), fun L hL => ?_⟩
    have Lr : L ≠ r := D3.rl.ne hL
    have ll : Rl r H3 (upd H3 L (.lst [.str "same", .str "under"])) := Rl.new D3.rl hL
    have gL : (upd H3 L (.lst [.str "same", .str "under"])) L = some (.lst [.str "same", .str "under"]) := upd_same
    generalize upd H3 L (.lst [.str "same", .str "under"]) = H4 at ll gL ⊢
    have D4 := D3.go ll
    refine ⟨_, rfl, r, 2, rfl, D4.rl, by decide, by decide, fun j H5 j0 j1 l5 => ?_⟩
    have D5 := D4.go l5
    obtain ⟨kk, hat, hkk⟩ := pick2 (a := .same) (b := .under) j0 j1
    refine ⟨L, _, _, _, rfl, rfl, SqL.of (l5.k _ _ Lr gL), hat, _, rfl, _, rfl, _, rfl, r, nl, 1, ns, rfl, D5, by decide, by decide, fun v2 e2 H6 l6 ev2 is2 ok2 dp2 => ⟨(by show 3 ≤ sizeLine; decide), fun p hp => ?_⟩⟩
    have lp : Rl r H6 (upd H6 p (.tup [.str kk.str, v, v2])) := Rl.new l6.rl hp
    have l36 := (ll.trans l5).trans l6
    have dp : e.dep ≤ 1 := dp
    have dp2 : e2.dep ≤ 1 := dp2
    refine q (.ref p) (.two kk e e2) _ ((l2.trans l3).trans (l36.trans lp)) ⟨v, v2, ⟨p, rfl, upd_same⟩, ev.keep (Rl.tk D3.rl (l36.trans lp)), ev2.keep (Rl.tk l6.rl lp)⟩ ?_ ⟨ok, ok2⟩ ?_
    · rcases hkk with rfl | rfl <;> exact ⟨is, is2⟩
    · show max e.dep e2.dep + 1 ≤ d.toNat + 2
      omega
theorem has_cond (s : Src K mg "_law_condition" sCond) (TK0 : Has P w K mg base "_law_take" ["reel", "many"] 1 spTake) (SM0 : Has P w K mg base "_law_sum" ["reel", "names", "deep"] 4 (spSum 2)) : ∀ n : Nat, Has P w K mg base "_law_condition" ["reel", "names", "deep"] (n + 5) (spCond n) := by
  obtain ⟨f, fd, F, m⟩ := s
  have b : Binds K fd ["reel", "names", "deep"] [] := bnd3 F fun _ _ _ _ _ _ _ _ _ => rfl
  intro n
  have all : FnOk P w K mg base CX0 (n + 5) f fd ["reel", "names", "deep"] (spCond n) := by
    induction n with
    | zero => exact none_cond
    | succ n ih => exact ok_cond F TK0 SM0 ⟨f, fd, ih, F.kp, b, m⟩
  exact ⟨f, fd, all, F.kp, b, m⟩
end
end TW
set_option Elab.async false
set_option linter.all false
set_option maxRecDepth 100000
set_option exponentiation.threshold 4000
set_option maxHeartbeats 1000000
namespace TW
open PySem L2
section
variable {P : Program} {w : World} {K : PySem.W.Frag} {mg : Str → Option Value} {base : Heap}
/-! ### _law_node -/
structure NpOk (ns : List Str) (m : Int) (e : Np) : Prop where
  ld : ∀ l ∈ e.leads, 0 ≤ l ∧ l < m
  td : ∀ x ∈ e.tolds, x.okIn (bxN ns) ∧ x.dep ≤ 5
def spNode : Sp := fun vs H Q _ => ∃ (r nl : Addr) (m : Int) (ns : List Str), vs = [.ref r, .ref nl, .int m, .bl true] ∧ Dr H r nl ns ∧ 0 < m ∧ m ≤ 900 ∧ ∀ (v : V) (e : Np) (H' : Hp), Rl r H H' → NpAt H' v e → NpOk ns m e → Q v H'
theorem scNode : FnScope ["reel", "names", "many", "picks", "way", "to", "name"] ["reel", "names", "many", "picks"] (defScope sNode) := ⟨rfl, rfl, rfl, by decide +kernel, rfl, by decide +kernel, by decide +kernel⟩
theorem gNode_law_condition : (defScope sNode).names.lookup (Str.ofString "_law_condition") = some .globalImplicit := by decide +kernel
theorem gNode_law_sum : (defScope sNode).names.lookup (Str.ofString "_law_sum") = some .globalImplicit := by decide +kernel
theorem gNode_law_take : (defScope sNode).names.lookup (Str.ofString "_law_take") = some .globalImplicit := by decide +kernel
theorem gNode_len : (defScope sNode).names.lookup (Str.ofString "len") = some .globalImplicit := by decide +kernel
theorem ok_node {f : Addr} {fd : FuncData} (F : Fun K "_law_node" "_law_node" sNode f fd) (m_len : mg "len" = none) (TK0 : Has P w K mg base "_law_take" ["reel", "many"] 1 spTake) (SM0 : Has P w K mg base "_law_sum" ["reel", "names", "deep"] 4 (spSum 2)) (CO : Has P w K mg base "_law_condition" ["reel", "names", "deep"] 7 (spCond 2)) : FnOk P w K mg base CX0 8 f fd ["reel", "names", "many", "picks"] spNode := by
  refine F.ok scNode (fun vs H Q E h => ?_) (fun cdv A outer s H vs Q E hr h => ?_)
  · obtain ⟨r, nl, m, ns, rfl, _⟩ := h
    rfl
  · obtain ⟨r, nl, m, ns, rfl, D, m0, m9, q⟩ := h
    have TK := TK0.mono (show 1 ≤ 7 by decide)
    have SM := SM0.mono (show 4 ≤ 7 by decide)
    refine goL ⟨_, (L3.cons (L3.set 4 scNode.nd (L3.own TK hr gNode_law_take (L3.k (L3.v 0) (L3.k L3.int L3.n))))
      (L3.cons (L3.set 5 scNode.nd (L3.own TK hr gNode_law_take (L3.k (L3.v 0) (L3.k (L3.v 2) L3.n))))
      (L3.cons (L3.ifs (L3.cmp L3.o_eq (L3.v 4) L3.int) (L3.one (L3.ret (L3.tup (L3.k L3.str L3.n)))) L3.nil)
      (L3.cons (L3.ifs (L3.tw (L3.or2 (L3.cmp L3.o_lt (L3.v 4) L3.int) (L3.or1 (L3.tw (L3.and2 (L3.cmp (L3.o_eqD (m := 2) (up_ne hr _ (by decide))) (L3.v 1) (L3.lst L3.n)) (L3.and1 (L3.cmp L3.o_gt (L3.v 4) L3.int))))))) (L3.one (L3.ret (L3.tup (L3.k L3.str (L3.k (L3.own SM hr gNode_law_sum (L3.k (L3.v 0) (L3.k (L3.v 1) (L3.k L3.int L3.n)))) (L3.k (L3.v 5) L3.n)))))) L3.nil)
      (L3.cons (L3.ifs (L3.cmp L3.o_lt (L3.v 4) L3.int) (L3.one (L3.ret (L3.tup (L3.k L3.str (L3.k (L3.own CO hr gNode_law_condition (L3.k (L3.v 0) (L3.k (L3.v 1) (L3.k L3.int L3.n)))) (L3.k (L3.v 5) (L3.k (L3.own TK hr gNode_law_take (L3.k (L3.v 0) (L3.k (L3.v 2) L3.n))) L3.n))))))) L3.nil)
      (L3.cons (L3.set 6 scNode.nd (L3.ix L3.ixL (L3.v 1) (L3.own TK hr gNode_law_take (L3.k (L3.v 0) (L3.k (L3.callB L3.c_len gNode_len m_len PySem.boot_len (L3.k (L3.v 1) L3.n)) L3.n)))))
      (L3.cons (L3.ifs (L3.tw (L3.or2 (L3.cmp L3.o_eq (L3.v 4) L3.int) (L3.or1 (L3.nt (L3.tval (L3.v 3)))))) (L3.one (L3.ret (L3.tup (L3.k L3.str (L3.k (L3.v 6) (L3.k (L3.own SM hr gNode_law_sum (L3.k (L3.v 0) (L3.k (L3.v 1) (L3.k L3.int L3.n)))) (L3.k (L3.v 5) L3.n))))))) L3.nil)
      (L3.one (L3.ret (L3.tup (L3.k L3.str (L3.k (L3.v 6) (L3.k (L3.v 5) L3.n))))))))))))), ?_⟩
    refine cut2 fun Rk kR => ?_
    refine ⟨_, rfl, r, 8, rfl, D.rl, by decide, by decide, fun k H1 k0 k1 l1 => ?_⟩
    have D1 := D.go l1
    refine gn_go ?_
    refine ⟨_, rfl, _, rfl, r, m, rfl, D1.rl, m0, Int.lt_of_le_of_lt m9 (by decide), fun to H2 t0 t1 l2 => ?_⟩
    have D2 := D1.go l2
    have l02 := l1.trans l2
    clear D1 l1 l2
    refine gn_go ?_
    refine kR _ _ ?_
    refine normS [some (.ref r), some (.ref nl), some (.int m), some (.bl true), some (.int k), some (.int to), none] rfl ?_
    refine cut1 fun Rk kR => ?_
    refine ⟨_, rfl, rfl, _, rfl, ?_⟩
    refine ite2 (fun _ => ?_) (fun _ => ?_)
    · refine ⟨(by show 1 ≤ sizeLine; decide), fun p hp => ?_⟩
      exact q (.ref p) .fin _ (l02.trans (Rl.new D2.rl hp)) ⟨p, rfl, upd_same⟩ ⟨(fun l hl => nomatch hl), (fun x hx => nomatch hx)⟩
    refine kR _ _ ?_
    refine cut1 fun Rk kR => ?_
    refine ⟨_, rfl, _, _, rfl, rfl, _, rfl, ?_⟩
    refine ite2 (fun _ => ?_) (fun c2 => ?_)
    · refine iteT ?_
      refine ⟨_, rfl, _, rfl, r, nl, 1, ns, rfl, D2, by decide, by decide, fun v e H3 l3 ev is ok dp => ?_⟩
      have D3 := D2.go l3
      refine ⟨_, rfl, (by show 3 ≤ sizeLine; decide), fun p hp => ?_⟩
      have lp : Rl r H3 (upd H3 p (.tup [.str "say", v, .int to])) := Rl.new D3.rl hp
      have dp : e.dep ≤ 1 := dp
      exact q (.ref p) (.say e to) _ (l02.trans (l3.trans lp)) ⟨v, ⟨p, rfl, upd_same⟩, ev.keep (Rl.tk D3.rl lp)⟩ ⟨fun l hl => by rw [List.mem_singleton.mp hl]; exact ⟨t0, t1⟩, fun x hx => by rw [List.mem_singleton.mp hx]; exact ⟨ok, by omega⟩⟩
    refine ⟨_, rfl, (by show 0 ≤ sizeLine; decide), fun z hz => ?_⟩
    have lz : Rl r H2 (upd H2 z (.lst [])) := Rl.new D2.rl hz
    have gz : (upd H2 z (.lst [])) z = some (.lst []) := upd_same
    generalize upd H2 z (.lst []) = Hz at lz gz ⊢
    have D2 := D2.go lz
    have lz2 := l02.trans lz
    refine ⟨_, RB.nil (SqL.of D2.hn) (SqL.of gz), _, rfl, ?_⟩
    suffices hs : (ns ≠ [] ∨ ¬ 3 < k) → Rk [some (.ref r), some (.ref nl), some (.int m), some (.bl true), some (.int k), some (.int to), none] Hz by
      refine ite2 (fun c => ?_) (fun c => iteF (hs (.inl fun z => c (by rw [z]; rfl))))
      refine ⟨_, rfl, _, _, rfl, rfl, _, rfl, ?_⟩
      refine ite2 (fun _ => ?_) (fun c3 => hs (.inr fun z => c3 (decide_eq_true z)))
      refine ⟨_, rfl, _, rfl, r, nl, 1, ns, rfl, D2, by decide, by decide, fun v e H3 l3 ev is ok dp => ?_⟩
      have D3 := D2.go l3
      refine ⟨_, rfl, (by show 3 ≤ sizeLine; decide), fun p hp => ?_⟩
      have lp : Rl r H3 (upd H3 p (.tup [.str "say", v, .int to])) := Rl.new D3.rl hp
      have dp : e.dep ≤ 1 := dp
      exact q (.ref p) (.say e to) _ (lz2.trans (l3.trans lp)) ⟨v, ⟨p, rfl, upd_same⟩, ev.keep (Rl.tk D3.rl lp)⟩ ⟨fun l hl => by rw [List.mem_singleton.mp hl]; exact ⟨t0, t1⟩, fun x hx => by rw [List.mem_singleton.mp hx]; exact ⟨ok, by omega⟩⟩
    intro hne
    have l02 := lz2
    clear lz2 lz gz
    refine kR _ _ ?_
    refine cut1 fun Rk kR => ?_
    refine ⟨_, rfl, _, _, rfl, rfl, _, rfl, ?_⟩
    refine ite2 (fun _ => ?_) (fun c4 => ?_)
    · refine ⟨_, rfl, _, rfl, r, nl, 1, ns, rfl, D2, by decide, by decide, fun v e H3 l3 ev is ok dp => ?_⟩
      have D3 := D2.go l3
      refine ⟨_, rfl, _, rfl, _, rfl, r, m, rfl, D3.rl, m0, Int.lt_of_le_of_lt m9 (by decide), fun o H4 o0 o1 l4 => ⟨(by show 4 ≤ sizeLine; decide), fun p hp => ?_⟩⟩
      have lp : Rl r H4 (upd H4 p (.tup [.str "test", v, .int to, .int o])) := Rl.new l4.rl hp
      have dp : e.dep ≤ 3 := dp
      refine q (.ref p) (.test e to o) _ (l02.trans (l3.trans (l4.trans lp))) ⟨v, ⟨p, rfl, upd_same⟩, ev.keep (Rl.tk D3.rl (l4.trans lp))⟩ ⟨fun l hl => ?_, fun x hx => by rw [List.mem_singleton.mp hx]; exact ⟨ok, by omega⟩⟩
      rcases List.mem_cons.mp hl with z | z
      · rw [z]; exact ⟨t0, t1⟩
      · rw [List.mem_singleton.mp z]; exact ⟨o0, o1⟩
    have c4 : ¬ k < 4 := fun z => c4 (decide_eq_true z)
    have hpos : 0 < ns.length := by
      rcases hne with z | z
      · exact Nat.pos_of_ne_zero fun e => z (List.eq_nil_of_length_eq_zero e)
      · omega
    have l4' := D.l4
    refine kR _ _ ?_
    refine cut1 fun Rk kR => ?_
    refine ⟨_, rfl, _, rfl, _, rfl, nl, _, rfl, .inl (SqL.of D2.hn), r, _, rfl, D2.rl, by rw [List.length_map]; omega, by rw [List.length_map]; exact Int.lt_of_le_of_lt (show _ ≤ (4 : Int) by omega) (by decide), fun j H5 j0 j1 l5 => ?_⟩
    rw [List.length_map] at j1
    obtain ⟨x, hxm, hat⟩ := atI_map V.str ns j0 j1
    have D5 := D2.go l5
    refine ⟨nl, _, _, _, rfl, rfl, SqL.of D5.hn, hat, ?_⟩
    refine gn_go ?_
    refine kR _ _ ?_
    refine normS [some (.ref r), some (.ref nl), some (.int m), some (.bl true), some (.int k), some (.int to), some (.str x)] rfl ?_
    have l05 := l02.trans l5
    refine cut1 fun Rk kR => ?_
    refine ⟨_, rfl, rfl, _, rfl, ?_⟩
    refine ite2 (fun _ => ?_) (fun _ => ?_)
    · refine iteT ?_
      refine ⟨_, rfl, _, rfl, _, rfl, r, nl, 1, ns, rfl, D5, by decide, by decide, fun v e H3 l3 ev is ok dp => ?_⟩
      have D3 := D5.go l3
      refine ⟨_, rfl, (by show 4 ≤ sizeLine; decide), fun p hp => ?_⟩
      have lp : Rl r H3 (upd H3 p (.tup [.str "put", .str x, v, .int to])) := Rl.new D3.rl hp
      have dp : e.dep ≤ 1 := dp
      refine q (.ref p) (.put x e to) _ (l05.trans (l3.trans lp)) ⟨v, ⟨p, rfl, upd_same⟩, ev.keep (Rl.tk D3.rl lp)⟩ ⟨fun l hl => by rw [List.mem_singleton.mp hl]; exact ⟨t0, t1⟩, fun y hy => ?_⟩
      rcases List.mem_cons.mp hy with z | z
      · rw [z]; exact ⟨⟨rfl, hxm⟩, Nat.zero_le _⟩
      · rw [List.mem_singleton.mp z]; exact ⟨ok, by omega⟩
    refine ⟨_, rfl, _, rfl, ?_⟩
    refine iteF ?_
    refine kR _ _ ?_
    refine ⟨_, rfl, _, rfl, (by show 3 ≤ sizeLine; decide), fun p hp => ?_⟩
    exact q (.ref p) (.pick x to) _ (l05.trans (Rl.new D5.rl hp)) ⟨p, rfl, upd_same⟩ ⟨fun l hl => by rw [List.mem_singleton.mp hl]; exact ⟨t0, t1⟩, fun y hy => by rw [List.mem_singleton.mp hy]; exact ⟨⟨rfl, hxm⟩, Nat.zero_le _⟩⟩
theorem has_node (s : Src K mg "_law_node" sNode) (m_len : mg "len" = none) (TK0 : Has P w K mg base "_law_take" ["reel", "many"] 1 spTake) (SM0 : Has P w K mg base "_law_sum" ["reel", "names", "deep"] 4 (spSum 2)) (CO : Has P w K mg base "_law_condition" ["reel", "names", "deep"] 7 (spCond 2)) : Has P w K mg base "_law_node" ["reel", "names", "many", "picks"] 8 spNode :=
  let ⟨f, fd, F, m⟩ := s
  ⟨f, fd, ok_node F m_len TK0 SM0 CO, F.kp, bnd4 F fun _ _ _ _ _ _ _ _ _ _ => rfl, m⟩
end
end TW
set_option Elab.async false
set_option linter.all false
set_option maxRecDepth 100000
set_option exponentiation.threshold 4000
set_option maxHeartbeats 1000000
namespace TW
open PySem L2
section
variable {P : Program} {w : World} {K : PySem.W.Frag} {mg : Str → Option Value} {base : Heap}
abbrev sBoxes : Stmt := top 34
/-! ### _law_boxes -/
structure BxIn (ns : List Str) (bs : List (Str × Int)) (ins : List Str) : Prop where
  nm : bs.map (·.1) = ns
  sz : ∀ b ∈ bs, 1 ≤ b.2
  nd : ins.Nodup
  sub : ∀ x ∈ ins, x ∈ ns
structure BxAtR (r : Addr) (H : Hp) (B I : Addr) (vb : List V) (bs : List (Str × Int)) (ins : List Str) : Prop where
  hB : H B = some (.lst vb)
  pb : Paired (BoxAt H) vb bs
  hI : H I = some (.lst (ins.map V.str))
  nB : B ≠ r
  nI : I ≠ r
theorem BxAtR.go {r B I : Addr} {H H1 : Hp} {vb : List V} {bs : List (Str × Int)} {ins : List Str} (h : BxAtR r H B I vb bs ins) (rl : Reel H r) (l : Rl r H H1) : BxAtR r H1 B I vb bs ins := ⟨l.k _ _ h.nB h.hB, Paired.mapP h.pb fun _ _ z => Tp.keep (Rl.tk rl l) z, l.k _ _ h.nI h.hI, h.nB, h.nI⟩
def spBoxes : Sp := fun vs H Q _ => ∃ (r nl : Addr) (room : Int) (ns : List Str), vs = [.ref r, .ref nl, .int room] ∧ Dr H r nl ns ∧ ns.Nodup ∧ 1 ≤ room ∧ room ≤ 65536 ∧ ∀ (p B I : Addr) (vb : List V) (bs : List (Str × Int)) (ins : List Str) (H' : Hp), Rl r H H' → H' p = some (.tup [.ref B, .ref I]) → BxAtR r H' B I vb bs ins → BxIn ns bs ins → Q (.ref p) H'
theorem ins_nd {ins : List Str} {x : Str} (h : ins.Nodup) (n : x ∉ ins) (i : Nat) : (ins.take i ++ x :: ins.drop i).Nodup := by
  rw [List.nodup_append, List.nodup_cons]
  refine ⟨h.sublist (List.take_sublist _ _), ⟨fun z => n (List.mem_of_mem_drop z), h.sublist (List.drop_sublist _ _)⟩, fun a ha b hb e => ?_⟩
  rcases List.mem_cons.mp hb with z | z
  · exact n (by rw [← z, ← e]; exact List.mem_of_mem_take ha)
  · have hd := h
    rw [← List.take_append_drop i ins, List.nodup_append] at hd
    exact hd.2.2 a ha b z e
theorem ins_mem {ins : List Str} {x y : Str} {i : Nat} : y ∈ ins.take i ++ x :: ins.drop i → y = x ∨ y ∈ ins := fun h => by
  rcases List.mem_append.mp h with z | z
  · exact .inr (List.mem_of_mem_take z)
  · rcases List.mem_cons.mp z with z | z
    · exact .inl z
    · exact .inr (List.mem_of_mem_drop z)
theorem scBoxes : FnScope ["reel", "names", "room", "boxes", "name", "size", "inputs"] ["reel", "names", "room"] (defScope sBoxes) := ⟨rfl, rfl, rfl, by decide +kernel, rfl, by decide +kernel, by decide +kernel⟩
theorem gBoxes_law_take : (defScope sBoxes).names.lookup (Str.ofString "_law_take") = some .globalImplicit := by decide +kernel
theorem gBoxes_len : (defScope sBoxes).names.lookup (Str.ofString "len") = some .globalImplicit := by decide +kernel
theorem gBoxes_min : (defScope sBoxes).names.lookup (Str.ofString "min") = some .globalImplicit := by decide +kernel
theorem ok_boxes {f : Addr} {fd : FuncData} (F : Fun K "_law_boxes" "_law_boxes" sBoxes f fd) (m_len : mg "len" = none) (m_min : mg "min" = none) (TK : Has P w K mg base "_law_take" ["reel", "many"] 1 spTake) : FnOk P w K mg base CX0 2 f fd ["reel", "names", "room"] spBoxes := by
  refine F.ok scBoxes (fun vs H Q E h => ?_) (fun cdv A outer s H vs Q E hr h => ?_)
  · obtain ⟨r, nl, room, ns, rfl, _⟩ := h
    rfl
  · obtain ⟨r, nl, room, ns, rfl, D, nd, r1, r9, q⟩ := h
    refine goL ⟨_, (L3.cons (L3.set 3 scBoxes.nd (L3.lst L3.n))
      (L3.cons (L3.for_ (L3.iL (L3.v 1)) (L3.gn 4 scBoxes.nd) (L3.cons (L3.set 5 scBoxes.nd (L3.callB L3.c_min gBoxes_min m_min (by decide +kernel) (L3.k (L3.v 2) (L3.k (L3.op L3.o_add L3.int (L3.own TK hr gBoxes_law_take (L3.k (L3.v 0) (L3.k (L3.ix L3.ixL (L3.lst (L3.k L3.int (L3.k L3.int (L3.k L3.int L3.n)))) (L3.own TK hr gBoxes_law_take (L3.k (L3.v 0) (L3.k L3.int L3.n)))) L3.n)))) L3.n))))
      (L3.cons (L3.set 2 scBoxes.nd (L3.op L3.o_div (L3.v 2) (L3.v 5)))
      (L3.one (L3.ex (L3.append (L3.v 3) (L3.k (L3.tup (L3.k (L3.v 4) (L3.k (L3.v 5) L3.n))) L3.n)))))))
      (L3.cons (L3.set 6 scBoxes.nd (L3.lst L3.n))
      (L3.cons (L3.for_ (L3.iL (L3.v 1)) (L3.gn 4 scBoxes.nd) (L3.one (L3.ifs (L3.cmp L3.o_eq (L3.own TK hr gBoxes_law_take (L3.k (L3.v 0) (L3.k L3.int L3.n))) L3.int) (L3.one (L3.ex (L3.insert (L3.v 6) (L3.k (L3.own TK hr gBoxes_law_take (L3.k (L3.v 0) (L3.k (L3.op L3.o_add (L3.callB L3.c_len gBoxes_len m_len PySem.boot_len (L3.k (L3.v 6) L3.n)) L3.int) L3.n))) (L3.k (L3.v 4) L3.n))))) L3.nil)))
      (L3.one (L3.ret (L3.tup (L3.k (L3.v 3) (L3.k (L3.v 6) L3.n))))))))), ?_⟩
    refine cut1 fun Rk kR => ?_
    refine ⟨(by show 0 ≤ sizeLine; decide), fun B hB => ?_⟩
    have Br : B ≠ r := D.rl.ne hB
    have Bn : B ≠ nl := (ne_of_none D.hn hB).symm
    have lB : Rl r H (upd H B (.lst [])) := Rl.new D.rl hB
    have gB : (upd H B (.lst [])) B = some (.lst []) := upd_same
    generalize upd H B (.lst []) = H1 at lB gB ⊢
    refine gn_go ?_
    refine kR _ _ ?_
    refine normS [some (.ref r), some (.ref nl), some (.int room), some (.ref B), none, none, none] rfl ?_
    refine cut1 fun Rk kR => ?_
    refine ⟨_, rfl, nl, rfl, ⟨_, SqL.of (D.go lB).hn⟩, ?_⟩
    refine for_list (xs := ns.map V.str) (fun i σ Hx => (∃ rm o4 o5, σ = [some (.ref r), some (.ref nl), some (.int rm), some (.ref B), o4, o5, none] ∧ 1 ≤ rm ∧ rm ≤ 65536) ∧ Rl r H Hx ∧ ∃ vb bs, Hx B = some (.lst vb) ∧ Paired (BoxAt Hx) vb bs ∧ bs.map (·.1) = ns.take i ∧ ∀ b ∈ bs, 1 ≤ b.2) ⟨⟨_, _, _, rfl, r1, r9⟩, lB, [], [], gB, .nil, rfl, fun b hb => nomatch hb⟩ (fun i σ Hx _ z => SqL.of (D.go z.2.1).hn) (fun i x0 σ Hx hx z => ?_) (fun σ Hx z => ?_)
    · obtain ⟨⟨rm, o4, o5, rfl, m1, m9⟩, lx, vb, bs, hb, pb, nm, sz1⟩ := z
      obtain ⟨x, hxi, rfl⟩ := map_get hx
      have il : i < ns.length := (List.getElem?_eq_some_iff.mp hxi).1
      have l4 := D.l4
      refine gn_go ?_
      refine normS [some (.ref r), some (.ref nl), some (.int rm), some (.ref B), some (.str x), o5, none] rfl ?_
      refine cut1 fun Rj kj => ?_
      refine ⟨_, rfl, _, rfl, (by show 3 ≤ sizeLine; decide), fun L hL => ?_⟩
      have Lr : L ≠ r := lx.rl.ne hL
      have ll : Rl r Hx (upd Hx L (.lst [.int 3, .int 4, .int 16])) := Rl.new lx.rl hL
      have gL : (upd Hx L (.lst [.int 3, .int 4, .int 16])) L = some (.lst [.int 3, .int 4, .int 16]) := upd_same
      generalize upd Hx L (.lst [.int 3, .int 4, .int 16]) = H3 at ll gL ⊢
      refine ⟨_, rfl, r, 3, rfl, ll.rl, by decide, by decide, fun j H4 j0 j1 l4 => ?_⟩
      obtain ⟨_, hat, mm, rfl, mm0, mm1⟩ := atI_all (P := fun v => ∃ mm : Int, v = .int mm ∧ 0 < mm ∧ mm ≤ 40) (xs := [.int 3, .int 4, .int 16]) (r := j) j0 j1 (fun x hx => by
        rcases List.mem_cons.mp hx with e | hx
        · exact ⟨_, e, by decide, by decide⟩
        rcases List.mem_cons.mp hx with e | hx
        · exact ⟨_, e, by decide, by decide⟩
        · exact ⟨_, List.mem_singleton.mp hx, by decide, by decide⟩)
      refine ⟨L, _, _, _, rfl, rfl, SqL.of (l4.k _ _ Lr gL), hat, r, mm, rfl, l4.rl, mm0, by omega, fun k H5 k0 k1 l5 => ⟨_, _, rfl, rfl, _, _, rfl, ?_⟩⟩
      obtain ⟨sz, esz, s0, s1⟩ : ∃ sz, sz = (if 1 + k < rm then 1 + k else rm) ∧ 1 ≤ sz ∧ sz ≤ rm := by
        refine ⟨_, rfl, ?_, ?_⟩ <;> split <;> omega
      refine gn_go ?_
      refine kj _ _ ?_
      refine normS [some (.ref r), some (.ref nl), some (.int rm), some (.ref B), some (.str x), some (.int sz), none] (by subst esz; rfl) ?_
      have lx5 := lx.trans (ll.trans (l4.trans l5))
      have tk5 := Rl.tk lx.rl (ll.trans (l4.trans l5))
      have hb5 := (ll.trans (l4.trans l5)).k _ _ Br hb
      refine cut1 fun Rj kj => ?_
      refine ⟨_, rfl, _, rfl, _, _, rfl, rfl, ⟨by omega, Int.lt_of_le_of_lt (show sz ≤ 65536 by omega) (by decide +kernel)⟩, ?_⟩
      have q1 : 1 ≤ rm / sz := Int.le_ediv_of_mul_le (by omega) (by omega)
      have q2 : rm / sz ≤ 65536 := Int.le_trans (Int.ediv_le_self _ (by omega)) m9
      refine gn_go ?_
      refine kj _ _ ?_
      refine ⟨_, rfl, .inl ⟨rfl, _, SqL.of hb5⟩, _, rfl, _, rfl, (by show 2 ≤ sizeLine; decide), fun p hp => ?_⟩
      have bl := Paired.length pb
      have bl2 : bs.length = min i ns.length := by rw [← List.length_map (f := (·.1)), nm, List.length_take]
      have pB : p ≠ B := (ne_of_none hb5 hp).symm
      have hb6 : (upd H5 p (.tup [.str x, .int sz])) B = some (.lst vb) := by rw [upd_ne pB.symm]; exact hb5
      refine ⟨B, _, _, rfl, rfl, hb6, small1000 (by omega), ⟨_, _, _, rfl, q1, q2⟩, Rl.put (lx5.trans (Rl.new l5.rl hp)) Br hB, vb ++ [.ref p], bs ++ [(x, sz)], upd_same, ?_, ?_, fun b hb => ?_⟩
      · refine Paired.snoc (Paired.mapP pb fun _ _ z => Tp.keep ((tk5.trans (tk_new hp _)).trans (TW.TK.lst hb6)) z) ⟨p, rfl, ?_⟩
        rw [upd_ne pB, upd_same]
      · rw [List.map_append, nm, List.take_add_one, hxi]
        rfl
      · rcases List.mem_append.mp hb with z | z
        · exact sz1 b z
        · rw [List.mem_singleton.mp z]; exact s0
    obtain ⟨⟨rm, o4, o5, rfl, _, _⟩, lx, vb, bs, hb, pb, nm, sz1⟩ := z
    rw [List.length_map, List.take_length] at nm
    refine kR _ _ ?_
    refine cut1 fun Rk kR => ?_
    refine ⟨(by show 0 ≤ sizeLine; decide), fun I hI => ?_⟩
    have Ir : I ≠ r := lx.rl.ne hI
    have Bi : B ≠ I := ne_of_none hb hI
    have lI : Rl r Hx (upd Hx I (.lst [])) := Rl.new lx.rl hI
    have gI : (upd Hx I (.lst [])) I = some (.lst []) := upd_same
    generalize upd Hx I (.lst []) = Hi at lI gI ⊢
    have tkI := Rl.tk lx.rl lI
    have hbI := lI.k _ _ Br hb
    have pbI := Paired.mapP pb fun _ _ z => Tp.keep tkI z
    refine gn_go ?_
    refine kR _ _ ?_
    refine normS [some (.ref r), some (.ref nl), some (.int rm), some (.ref B), o4, o5, some (.ref I)] rfl ?_
    refine cut1 fun Rk kR => ?_
    refine ⟨_, rfl, nl, rfl, ⟨_, SqL.of (D.go (lx.trans lI)).hn⟩, ?_⟩
    refine for_list (xs := ns.map V.str) (fun i σ Hy => (∃ o4 o5, σ = [some (.ref r), some (.ref nl), some (.int rm), some (.ref B), o4, o5, some (.ref I)]) ∧ Reel Hy r ∧ Rl r Hx Hy ∧ ∃ ins, Hy I = some (.lst (ins.map V.str)) ∧ ins.Nodup ∧ ins.length ≤ i ∧ ∀ y ∈ ins, y ∈ ns.take i) ⟨⟨_, _, rfl⟩, lI.rl, lI, [], gI, List.nodup_nil, Nat.le_refl _, fun y hy => nomatch hy⟩ (fun i σ Hy _ z => SqL.of (D.go (lx.trans z.2.2.1)).hn) (fun i x0 σ Hy hx z => ?_) (fun σ Hy z => ?_)
    · obtain ⟨⟨o4, o5, rfl⟩, ly, lxy, ins, gi, ni, il, sub⟩ := z
      obtain ⟨x, hxi, rfl⟩ := map_get hx
      have inl : i < ns.length := (List.getElem?_eq_some_iff.mp hxi).1
      have l4 := D.l4
      have up : ∀ y, y ∈ ns.take i → y ∈ ns.take (i + 1) := fun y hy => by rw [List.take_add_one]; exact List.mem_append.mpr (.inl hy)
      refine gn_go ?_
      refine normS [some (.ref r), some (.ref nl), some (.int rm), some (.ref B), some (.str x), o5, some (.ref I)] rfl ?_
      refine ⟨_, rfl, r, 2, rfl, ly, by decide, by decide, fun j H4 j0 j1 l4 => ⟨rfl, _, rfl, ?_⟩⟩
      have gi4 := l4.k _ _ Ir gi
      refine ite2 (fun _ => ?_) (fun _ => ?_)
      · refine ⟨_, rfl, .inl ⟨rfl, _, SqL.of gi4⟩, _, rfl, _, rfl, I, _, rfl, .inl (SqL.of gi4), _, _, rfl, rfl, r, _, rfl, l4.rl, by rw [List.length_map]; omega, by rw [List.length_map]; exact Int.lt_of_le_of_lt (show _ ≤ (5 : Int) by omega) (by decide), fun k H5 k0 k1 l5 => ?_⟩
        rw [List.length_map] at k1
        have gi5 := l5.k _ _ Ir gi4
        have nx : x ∉ ins := fun z => by
          obtain ⟨j, hj, e⟩ := List.getElem_of_mem (sub x z)
          rw [List.length_take] at hj
          rw [List.getElem_take] at e
          have e1 : ns[j]? = some x := by rw [List.getElem?_eq_getElem (by omega), e]
          have := (List.getElem?_inj (by omega) nd).mp (e1.trans hxi.symm)
          omega
        have l45 := l4.trans l5
        refine ⟨_, rfl, I, _, _, k, rfl, rfl, gi5, k0, by rw [List.length_map]; omega, by rw [List.length_map]; omega, ⟨_, _, rfl⟩, ((lxy.trans l45).put Ir hI).rl, (lxy.trans l45).put Ir hI, ins.take k.toNat ++ x :: ins.drop k.toNat, ?_, ins_nd ni nx _, ?_, fun y hy => ?_⟩
        · rw [upd_same, List.map_append, List.map_take, List.map_cons, List.map_drop]
        · rw [List.length_append, List.length_cons, List.length_take, List.length_drop]
          omega
        · rcases ins_mem hy with z | z
          · rw [z, List.take_add_one, hxi]; exact List.mem_append.mpr (.inr List.mem_cons_self)
          · exact up y (sub y z)
      · exact ⟨⟨_, _, rfl⟩, l4.rl, lxy.trans l4, ins, gi4, ni, by omega, fun y hy => up y (sub y hy)⟩
    obtain ⟨⟨o4, o5, rfl⟩, ly, lxy, ins, gi, ni, il, sub⟩ := z
    rw [List.length_map, List.take_length] at sub
    refine kR _ _ ?_
    refine ⟨_, rfl, _, rfl, (by show 2 ≤ sizeLine; decide), fun p hp => ?_⟩
    have lp : Rl r Hy (upd Hy p (.tup [.ref B, .ref I])) := Rl.new ly hp
    exact q p B I vb bs ins _ (lx.trans (lxy.trans lp)) upd_same (BxAtR.go ⟨lxy.k _ _ Br hb, Paired.mapP pb fun _ _ z => Tp.keep (Rl.tk lx.rl lxy) z, gi, Br, Ir⟩ ly lp) ⟨nm, sz1, ni, sub⟩
theorem has_boxes (s : Src K mg "_law_boxes" sBoxes) (m_len : mg "len" = none) (m_min : mg "min" = none) (TK : Has P w K mg base "_law_take" ["reel", "many"] 1 spTake) : Has P w K mg base "_law_boxes" ["reel", "names", "room"] 2 spBoxes :=
  let ⟨f, fd, F, m⟩ := s
  ⟨f, fd, ok_boxes F m_len m_min TK, F.kp, bnd3 F fun _ _ _ _ _ _ _ _ _ => rfl, m⟩
end
end TW
set_option Elab.async false
set_option linter.all false
set_option maxRecDepth 100000
set_option exponentiation.threshold 4000
set_option maxHeartbeats 1000000
namespace TW
open PySem L2
section
variable {P : Program} {w : World} {K : PySem.W.Frag} {mg : Str → Option Value} {base : Heap}
abbrev sPick : Stmt := top 25
abbrev sTold : Stmt := top 37
abbrev sIsR : Stmt := top 38
abbrev sAlk : Stmt := top 35
theorem scPick : FnScope ["boxes", "inputs", "nodes"] ["boxes", "inputs", "nodes"] (defScope sPick) := ⟨rfl, rfl, rfl, by decide +kernel, rfl, by decide +kernel, by decide +kernel⟩
theorem gPick_program_of : (defScope sPick).names.lookup (Str.ofString "program_of") = some .globalImplicit := by decide +kernel
theorem ok_pick {C : Addr} {f : Addr} {fd : FuncData} (F : Fun K "picked_program" "picked_program" sPick f fd) (PO : HasX P w K mg base "program_of" ["boxes", "inputs", "nodes"] 24 (spProgOfX C)) : FnOk P w K mg base (CX1 P w base) 25 f fd ["boxes", "inputs", "nodes"] (spProgOfX C) := by
  refine F.okX scPick (fun vs H Q E h => ?_) (fun cdv A outer s H vs Q E hr h => ?_)
  · obtain ⟨B, I, N, vb, vn, bs, ins, nds, rfl, _⟩ := h
    rfl
  · obtain ⟨B, I, N, vb, vn, bs, ins, nds, rfl, ap, q1, q2⟩ := h
    refine goL ⟨_, (L3.one (L3.ret (L3.ownX passX PO hr gPick_program_of (L3.k (L3.v 0) (L3.k (L3.v 1) (L3.k (L3.v 2) L3.n)))))), ?_⟩
    exact ⟨_, rfl, _, rfl, _, rfl, B, I, N, vb, vn, bs, ins, nds, rfl, ap, q1, q2⟩
theorem has_pick {C : Addr} (s : Src K mg "picked_program" sPick) (PO : HasX P w K mg base "program_of" ["boxes", "inputs", "nodes"] 24 (spProgOfX C)) : HasX P w K mg base "picked_program" ["boxes", "inputs", "nodes"] 25 (spProgOfX C) :=
  let ⟨f, fd, F, m⟩ := s
  ⟨f, fd, ok_pick F PO, F.kp, bnd3 F fun _ _ _ _ _ _ _ _ _ => rfl, m⟩
/-! ### _law_told, _law_is_refusal -/
def spTold (C : Addr) : Sp := fun vs H Q _ => ∃ (B I N : Addr) (vb vn : List V) (bs : List (Str × Int)) (ins : List Str) (nds : List Np), vs = [.ref B, .ref I, .ref N] ∧ AskP H B I N vb vn bs ins nds ∧ (ProgG bs ins nds → ∀ p' B' I' N' H', New3 H H' p' B' I' N' vb (ins.map V.str) vn → Q (.ref p') H') ∧ (¬ ProgG bs ins nds → ∀ (ea : Addr) (H' : Hp), Same H H' → H' ea = some (exO ea C) → Q (.ref ea) H')
theorem scTold : FnScope ["boxes", "inputs", "nodes", "found", "e"] ["boxes", "inputs", "nodes"] (defScope sTold) := ⟨rfl, rfl, rfl, by decide +kernel, rfl, by decide +kernel, by decide +kernel⟩
theorem gTold_picked_program : (defScope sTold).names.lookup (Str.ofString "picked_program") = some .globalImplicit := by decide +kernel
theorem gTold_TwinError : (defScope sTold).names.lookup (Str.ofString "TwinError") = some .globalImplicit := by decide +kernel
theorem ok_told {T cNoProgram dNoChange dNoForm dNoNode dNoPair dNoPaper dNoPicks dNoRow dNoWorths dNoneYet dTooMany : Addr} {f : Addr} {fd : FuncData} (F : Fun K "_law_told" "_law_told" sTold f fd) (R : Rfs K mg T cNoProgram dNoChange dNoForm dNoNode dNoPair dNoPaper dNoPicks dNoRow dNoWorths dNoneYet dTooMany) (PP : HasX P w K mg base "picked_program" ["boxes", "inputs", "nodes"] 25 (spProgOfX cNoProgram)) : FnOk P w K mg base CX0 26 f fd ["boxes", "inputs", "nodes"] (spTold cNoProgram) := by
  refine F.ok scTold (fun vs H Q E h => ?_) (fun cdv A outer s H vs Q E hr h => ?_)
  · obtain ⟨B, I, N, vb, vn, bs, ins, nds, rfl, _⟩ := h
    rfl
  · obtain ⟨B, I, N, vb, vn, bs, ins, nds, rfl, ap, q1, q2⟩ := h
    refine goL ⟨_, (L3.cons (L3.set 3 scTold.nd L3.non)
      (L3.cons (L3.try_ 4 3 scTold.nd R.t gTold_TwinError (fun W pn Ex hp => (L3.one (L3.set 3 scTold.nd (L3.ownX hp PP hr gTold_picked_program (L3.k (L3.v 0) (L3.k (L3.v 1) (L3.k (L3.v 2) L3.n))))))))
      (L3.one (L3.ret (L3.v 3))))), ?_⟩
    refine ⟨_, rfl, _, rfl, _, rfl, B, I, N, vb, vn, bs, ins, nds, rfl, ap, fun g p' B' I' N' H' n3 => ⟨_, rfl, q1 g p' B' I' N' H' n3⟩, fun n H' s' => ?_⟩
    exact ⟨_, _, _, rfl, R.x_NoProgram, (by simp), fun ea hea => ⟨_, rfl, q2 n ea _ (same_add s' hea) upd_same⟩⟩
theorem has_told {T cNoProgram dNoChange dNoForm dNoNode dNoPair dNoPaper dNoPicks dNoRow dNoWorths dNoneYet dTooMany : Addr} (s : Src K mg "_law_told" sTold) (R : Rfs K mg T cNoProgram dNoChange dNoForm dNoNode dNoPair dNoPaper dNoPicks dNoRow dNoWorths dNoneYet dTooMany) (PP : HasX P w K mg base "picked_program" ["boxes", "inputs", "nodes"] 25 (spProgOfX cNoProgram)) : Has P w K mg base "_law_told" ["boxes", "inputs", "nodes"] 26 (spTold cNoProgram) :=
  let ⟨f, fd, F, m⟩ := s
  ⟨f, fd, ok_told F R PP, F.kp, bnd3 F fun _ _ _ _ _ _ _ _ _ => rfl, m⟩
def spIsR (C : Addr) : Sp := fun vs H Q _ => ∃ a : Addr, vs = [.ref a] ∧ ((H a = some (exO a C) ∧ ∀ H', Same H H' → Q (.bl true) H') ∨ ∃ zs, H a = some (.tup zs) ∧ ∀ H', Same H H' → Q (.bl false) H')
theorem scIsR : FnScope ["found"] ["found"] (defScope sIsR) := ⟨rfl, rfl, rfl, by decide +kernel, rfl, by decide +kernel, by decide +kernel⟩
theorem gIsR_NoChange : (defScope sIsR).names.lookup (Str.ofString "NoChange") = some .globalImplicit := by decide +kernel
theorem gIsR_NoForm : (defScope sIsR).names.lookup (Str.ofString "NoForm") = some .globalImplicit := by decide +kernel
theorem gIsR_NoNode : (defScope sIsR).names.lookup (Str.ofString "NoNode") = some .globalImplicit := by decide +kernel
theorem gIsR_NoPair : (defScope sIsR).names.lookup (Str.ofString "NoPair") = some .globalImplicit := by decide +kernel
theorem gIsR_NoPaper : (defScope sIsR).names.lookup (Str.ofString "NoPaper") = some .globalImplicit := by decide +kernel
theorem gIsR_NoPicks : (defScope sIsR).names.lookup (Str.ofString "NoPicks") = some .globalImplicit := by decide +kernel
theorem gIsR_NoProgram : (defScope sIsR).names.lookup (Str.ofString "NoProgram") = some .globalImplicit := by decide +kernel
theorem gIsR_NoRow : (defScope sIsR).names.lookup (Str.ofString "NoRow") = some .globalImplicit := by decide +kernel
theorem gIsR_NoWorths : (defScope sIsR).names.lookup (Str.ofString "NoWorths") = some .globalImplicit := by decide +kernel
theorem gIsR_NoneYet : (defScope sIsR).names.lookup (Str.ofString "NoneYet") = some .globalImplicit := by decide +kernel
theorem gIsR_TooMany : (defScope sIsR).names.lookup (Str.ofString "TooMany") = some .globalImplicit := by decide +kernel
theorem gIsR_ValueError : (defScope sIsR).names.lookup (Str.ofString "ValueError") = some .globalImplicit := by decide +kernel
theorem gIsR_isinstance : (defScope sIsR).names.lookup (Str.ofString "isinstance") = some .globalImplicit := by decide +kernel
theorem ok_isR {T cNoProgram dNoChange dNoForm dNoNode dNoPair dNoPaper dNoPicks dNoRow dNoWorths dNoneYet dTooMany : Addr} {f : Addr} {fd : FuncData} (F : Fun K "_law_is_refusal" "_law_is_refusal" sIsR f fd) (R : Rfs K mg T cNoProgram dNoChange dNoForm dNoNode dNoPair dNoPaper dNoPicks dNoRow dNoWorths dNoneYet dTooMany) (m_isinstance : mg "isinstance" = none) (m_ValueError : mg "ValueError" = none) : FnOk P w K mg base CX0 1 f fd ["found"] (spIsR cNoProgram) := by
  refine F.ok scIsR (fun vs H Q E h => ?_) (fun cdv A outer s H vs Q E hr h => ?_)
  · obtain ⟨a, rfl, _⟩ := h
    rfl
  · obtain ⟨a, rfl, h⟩ := h
    refine goL ⟨_, (L3.cons (L3.ifs (L3.tval (L3.callB L3.c_isA gIsR_isinstance m_isinstance (by decide +kernel) (L3.k (L3.v 0) (L3.k (L3.tup (L3.k (L3.glob (w := .ref dNoChange) gIsR_NoChange R.m_NoChange rfl) (L3.k (L3.glob (w := .ref dNoForm) gIsR_NoForm R.m_NoForm rfl) (L3.k (L3.glob (w := .ref dNoNode) gIsR_NoNode R.m_NoNode rfl) (L3.k (L3.glob (w := .ref dNoPair) gIsR_NoPair R.m_NoPair rfl) (L3.k (L3.glob (w := .ref dNoPaper) gIsR_NoPaper R.m_NoPaper rfl) (L3.k (L3.glob (w := .ref dNoPicks) gIsR_NoPicks R.m_NoPicks rfl) (L3.k (L3.glob (w := .ref dNoRow) gIsR_NoRow R.m_NoRow rfl) (L3.k (L3.glob (w := .ref dNoWorths) gIsR_NoWorths R.m_NoWorths rfl) (L3.k (L3.glob (w := .ref dNoneYet) gIsR_NoneYet R.m_NoneYet rfl) (L3.k (L3.glob (w := .ref dTooMany) gIsR_TooMany R.m_TooMany rfl) L3.n))))))))))) L3.n)))) (L3.one (L3.ret L3.bl)) L3.nil)
      (L3.one (L3.ret (L3.andE2 (L3.callB L3.c_isA gIsR_isinstance m_isinstance (by decide +kernel) (L3.k (L3.v 0) (L3.k (L3.glob (w := .ref cNoProgram) gIsR_NoProgram R.x_NoProgram.m rfl) L3.n))) (L3.oneE (L3.callB L3.c_isA gIsR_isinstance m_isinstance (by decide +kernel) (L3.k (L3.v 0) (L3.k (L3.bltn (w := .ty "ValueError") gIsR_ValueError m_ValueError (by decide +kernel) rfl) L3.n)))))))), ?_⟩
    refine ⟨_, rfl, (by show 10 ≤ sizeLine; decide), fun t ht => ?_⟩
    have s1 := same_new ht (.tup [.ref dNoChange, .ref dNoForm, .ref dNoNode, .ref dNoPair, .ref dNoPaper, .ref dNoPicks, .ref dNoRow, .ref dNoWorths, .ref dNoneYet, .ref dTooMany])
    rcases h with ⟨ha, q⟩ | ⟨zs, ha, q⟩
    · have hes := s1 _ _ ha
      refine .inl ⟨a, cNoProgram, false, hes, R.k_NoProgram, .inr (.inr ⟨t, [dNoChange, dNoForm, dNoNode, dNoPair, dNoPaper, dNoPicks, dNoRow, dNoWorths, dNoneYet, dTooMany], rfl, upd_same, R.o_NoProgram⟩), _, rfl, ?_⟩
      refine iteF ?_
      refine ⟨_, rfl, .inl ⟨a, cNoProgram, true, hes, R.k_NoProgram, .inl ⟨_, rfl, R.i_NoProgram_NoProgram⟩, _, rfl, ?_⟩⟩
      refine iteT ?_
      exact ⟨_, rfl, .inl ⟨a, cNoProgram, true, hes, R.k_NoProgram, .inr (.inl ⟨_, rfl, R.v_NoProgram⟩), q _ s1⟩⟩
    · have hes := s1 _ _ ha
      refine .inr ⟨a, zs, false, hes, .inr ⟨t, [dNoChange, dNoForm, dNoNode, dNoPair, dNoPaper, dNoPicks, dNoRow, dNoWorths, dNoneYet, dTooMany], rfl, upd_same, R.tn⟩, _, rfl, ?_⟩
      refine iteF ?_
      refine ⟨_, rfl, .inr ⟨a, zs, false, hes, .inl ⟨_, rfl, R.tn_NoProgram⟩, _, rfl, ?_⟩⟩
      exact iteF (q _ s1)
theorem has_isR {T cNoProgram dNoChange dNoForm dNoNode dNoPair dNoPaper dNoPicks dNoRow dNoWorths dNoneYet dTooMany : Addr} (s : Src K mg "_law_is_refusal" sIsR) (R : Rfs K mg T cNoProgram dNoChange dNoForm dNoNode dNoPair dNoPaper dNoPicks dNoRow dNoWorths dNoneYet dTooMany) (m_isinstance : mg "isinstance" = none) (m_ValueError : mg "ValueError" = none) : Has P w K mg base "_law_is_refusal" ["found"] 1 (spIsR cNoProgram) :=
  let ⟨f, fd, F, m⟩ := s
  ⟨f, fd, ok_isR F R m_isinstance m_ValueError, F.kp, bnd1 F fun _ _ _ _ _ _ _ => rfl, m⟩
/-! ### _law_alike -/
def Al (H : Hp) : Nat → V → V → Prop
  | 0, _, _ => False
  | n + 1, x, y => (∃ i, x = .int i ∧ y = .int i) ∨ (∃ s, x = .str s ∧ y = .str s) ∨ ∃ a b xs ys, x = .ref a ∧ y = .ref b ∧ ((H a = some (.lst xs) ∧ H b = some (.lst ys)) ∨ (H a = some (.tup xs) ∧ H b = some (.tup ys))) ∧ xs.length = ys.length ∧ xs.length ≤ 900 ∧ ∀ (i : Nat) (x y : V), xs[i]? = some x → ys[i]? = some y → Al H n x y
theorem Al.same {H H' : Hp} (s : Same H H') : ∀ {n : Nat} {x y : V}, Al H n x y → Al H' n x y
  | 0, _, _, h => h
  | n + 1, x, y, h => by
    rcases h with h | h | ⟨a, b, xs, ys, h1, h2, h3, h4, h5, h6⟩
    · exact .inl h
    · exact .inr (.inl h)
    · exact .inr (.inr ⟨a, b, xs, ys, h1, h2, h3.elim (fun z => .inl ⟨s _ _ z.1, s _ _ z.2⟩) (fun z => .inr ⟨s _ _ z.1, s _ _ z.2⟩), h4, h5, fun i x y hx hy => Al.same s (h6 i x y hx hy)⟩)
theorem cut1' {u1 u2 : TS} {D D' : L2.Ends} {σ : L2.St} {H : Hp} (h : ∀ R : L2.St → Hp → Prop, (∀ σ H, u2 D σ H → R σ H) → u1 { D with nx := R } σ H) : tNext { D' with nx := tSeq u1 u2 D } σ H := h _ fun _ _ z => z
def spAlk (n : Nat) : Sp := fun vs H Q _ => ∃ (x y : V), vs = [x, y] ∧ Al H n x y ∧ ∀ H', Same H H' → Q (.bl true) H'
theorem none_alk {f : Addr} {fd : FuncData} : FnOk P w K mg base CX0 1 f fd ["found", "due"] (spAlk 0) := by
  have no : ∀ vs H Q E, ¬ spAlk 0 vs H Q E := fun vs H Q E h => by
    obtain ⟨x, y, _, h, _⟩ := h
    exact h
  exact ⟨fun vs H Q E h => absurd h (no vs H Q E), fun A outer s H args us vs Q E _ _ _ _ h => absurd h (no vs H Q E)⟩
theorem scAlk : FnScope ["found", "due", "k"] ["found", "due"] (defScope sAlk) := ⟨rfl, rfl, rfl, by decide +kernel, rfl, by decide +kernel, by decide +kernel⟩
theorem gAlk_law_alike : (defScope sAlk).names.lookup (Str.ofString "_law_alike") = some .globalImplicit := by decide +kernel
theorem gAlk_bool : (defScope sAlk).names.lookup (Str.ofString "bool") = some .globalImplicit := by decide +kernel
theorem gAlk_int : (defScope sAlk).names.lookup (Str.ofString "int") = some .globalImplicit := by decide +kernel
theorem gAlk_isinstance : (defScope sAlk).names.lookup (Str.ofString "isinstance") = some .globalImplicit := by decide +kernel
theorem gAlk_len : (defScope sAlk).names.lookup (Str.ofString "len") = some .globalImplicit := by decide +kernel
theorem gAlk_list : (defScope sAlk).names.lookup (Str.ofString "list") = some .globalImplicit := by decide +kernel
theorem gAlk_range : (defScope sAlk).names.lookup (Str.ofString "range") = some .globalImplicit := by decide +kernel
theorem gAlk_str : (defScope sAlk).names.lookup (Str.ofString "str") = some .globalImplicit := by decide +kernel
theorem gAlk_tuple : (defScope sAlk).names.lookup (Str.ofString "tuple") = some .globalImplicit := by decide +kernel
theorem ok_alk {n : Nat} {f : Addr} {fd : FuncData} (F : Fun K "_law_alike" "_law_alike" sAlk f fd) (m_isinstance : mg "isinstance" = none) (m_len : mg "len" = none) (m_range : mg "range" = none) (m_bool : mg "bool" = none) (m_int : mg "int" = none) (m_str : mg "str" = none) (m_tuple : mg "tuple" = none) (m_list : mg "list" = none) (G : Has P w K mg base "_law_alike" ["found", "due"] (n + 1) (spAlk n)) : FnOk P w K mg base CX0 (n + 1 + 1) f fd ["found", "due"] (spAlk (n + 1)) := by
  refine F.ok scAlk (fun vs H Q E h => ?_) (fun cdv A outer s H vs Q E hr h => ?_)
  · obtain ⟨x, y, rfl, _⟩ := h
    rfl
  · obtain ⟨x, y, rfl, al, q⟩ := h
    refine goL ⟨_, (L3.cons (L3.ifs (L3.cmp L3.o_isN (L3.v 1) L3.non) (L3.one (L3.ret (L3.cmpE L3.o_isN (L3.v 0) L3.non))) L3.nil)
      (L3.cons (L3.ifs (L3.tval (L3.callB L3.c_isi gAlk_isinstance m_isinstance (by decide +kernel) (L3.k (L3.v 1) (L3.k (L3.bltn (w := .ty "bool") gAlk_bool m_bool (by decide +kernel) rfl) L3.n)))) (L3.one (L3.ret (L3.andE2 (L3.callB L3.c_isi gAlk_isinstance m_isinstance (by decide +kernel) (L3.k (L3.v 0) (L3.k (L3.bltn (w := .ty "bool") gAlk_bool m_bool (by decide +kernel) rfl) L3.n))) (L3.oneE (L3.cmpE L3.o_eq (L3.v 0) (L3.v 1)))))) L3.nil)
      (L3.cons (L3.ifs (L3.tval (L3.callB L3.c_isi gAlk_isinstance m_isinstance (by decide +kernel) (L3.k (L3.v 1) (L3.k (L3.bltn (w := .ty "int") gAlk_int m_int (by decide +kernel) rfl) L3.n)))) (L3.one (L3.ret (L3.andE2 (L3.callB L3.c_isi gAlk_isinstance m_isinstance (by decide +kernel) (L3.k (L3.v 0) (L3.k (L3.bltn (w := .ty "int") gAlk_int m_int (by decide +kernel) rfl) L3.n))) (L3.andE2 (L3.ntE (L3.callB L3.c_isi gAlk_isinstance m_isinstance (by decide +kernel) (L3.k (L3.v 0) (L3.k (L3.bltn (w := .ty "bool") gAlk_bool m_bool (by decide +kernel) rfl) L3.n)))) (L3.oneE (L3.cmpE L3.o_eq (L3.v 0) (L3.v 1))))))) L3.nil)
      (L3.cons (L3.ifs (L3.tval (L3.callB L3.c_isi gAlk_isinstance m_isinstance (by decide +kernel) (L3.k (L3.v 1) (L3.k (L3.bltn (w := .ty "str") gAlk_str m_str (by decide +kernel) rfl) L3.n)))) (L3.one (L3.ret (L3.andE2 (L3.callB L3.c_isi gAlk_isinstance m_isinstance (by decide +kernel) (L3.k (L3.v 0) (L3.k (L3.bltn (w := .ty "str") gAlk_str m_str (by decide +kernel) rfl) L3.n))) (L3.oneE (L3.cmpE L3.o_eq (L3.v 0) (L3.v 1)))))) L3.nil)
      (L3.cons (L3.ifs (L3.tval (L3.callB L3.c_isi gAlk_isinstance m_isinstance (by decide +kernel) (L3.k (L3.v 1) (L3.k (L3.bltn (w := .ty "tuple") gAlk_tuple m_tuple (by decide +kernel) rfl) L3.n)))) (L3.one (L3.ifs (L3.nt (L3.tval (L3.callB L3.c_isi gAlk_isinstance m_isinstance (by decide +kernel) (L3.k (L3.v 0) (L3.k (L3.bltn (w := .ty "tuple") gAlk_tuple m_tuple (by decide +kernel) rfl) L3.n))))) (L3.one (L3.ret L3.bl)) L3.nil)) (L3.one (L3.ifs (L3.nt (L3.tval (L3.callB L3.c_isi gAlk_isinstance m_isinstance (by decide +kernel) (L3.k (L3.v 0) (L3.k (L3.bltn (w := .ty "list") gAlk_list m_list (by decide +kernel) rfl) L3.n))))) (L3.one (L3.ret L3.bl)) L3.nil)))
      (L3.cons (L3.ifs (L3.cmp L3.o_ne (L3.callB L3.c_len gAlk_len m_len PySem.boot_len (L3.k (L3.v 0) L3.n)) (L3.callB L3.c_len gAlk_len m_len PySem.boot_len (L3.k (L3.v 1) L3.n))) (L3.one (L3.ret L3.bl)) L3.nil)
      (L3.cons (L3.for_ (L3.iR gAlk_range m_range (L3.k (L3.callB L3.c_len gAlk_len m_len PySem.boot_len (L3.k (L3.v 1) L3.n)) L3.n)) (L3.gn 2 scAlk.nd) (L3.one (L3.ifs (L3.nt (L3.tval (L3.own G hr gAlk_law_alike (L3.k (L3.ix L3.ixLT (L3.v 0) (L3.v 2)) (L3.k (L3.ix L3.ixLT (L3.v 1) (L3.v 2)) L3.n))))) (L3.one (L3.ret L3.bl)) L3.nil)))
      (L3.one (L3.ret L3.bl))))))))), ?_⟩
    refine ⟨_, rfl, rfl, _, rfl, ?_⟩
    rcases al with ⟨i, rfl, rfl⟩ | ⟨z, rfl, rfl⟩ | ⟨a, b, xs, ys, rfl, rfl, hh, hl, h9, all⟩
    · refine ite2 (fun c => absurd (of_decide_eq_true c) (fun z => nomatch z)) (fun _ => ?_)
      refine ⟨_, rfl, _, "bool", _, false, rfl, TyOf.int _, rfl, false, rfl, iteF ?_⟩
      refine ⟨_, rfl, _, "int", _, true, rfl, TyOf.int _, rfl, true, rfl, iteT ?_⟩
      refine ⟨_, rfl, _, "int", _, true, rfl, TyOf.int _, rfl, true, rfl, iteT ?_⟩
      refine ⟨_, rfl, _, "bool", _, false, rfl, TyOf.int _, rfl, false, rfl, true, rfl, iteT ?_⟩
      refine ⟨_, rfl, _, rfl, rfl, ?_⟩
      rw [decide_eq_true rfl]
      exact q _ (same_refl _)
    · refine ite2 (fun c => absurd (of_decide_eq_true c) (fun z => nomatch z)) (fun _ => ?_)
      refine ⟨_, rfl, _, "bool", _, false, rfl, TyOf.str _, rfl, false, rfl, iteF ?_⟩
      refine ⟨_, rfl, _, "int", _, false, rfl, TyOf.str _, rfl, false, rfl, iteF ?_⟩
      refine ⟨_, rfl, _, "str", _, true, rfl, TyOf.str _, rfl, true, rfl, iteT ?_⟩
      refine ⟨_, rfl, _, "str", _, true, rfl, TyOf.str _, rfl, true, rfl, iteT ?_⟩
      refine ⟨_, rfl, _, rfl, rfl, ?_⟩
      rw [decide_eq_true rfl]
      exact q _ (same_refl _)
    refine ite2 (fun c => absurd (of_decide_eq_true c) (fun z => nomatch z)) (fun _ => ?_)
    have lena : SqL K H a xs ∨ SqT K H a xs := hh.elim (fun z => .inl (SqL.of z.1)) (fun z => .inr (SqT.of z.1))
    have lenb : SqL K H b ys ∨ SqT K H b ys := hh.elim (fun z => .inl (SqL.of z.2)) (fun z => .inr (SqT.of z.2))
    have tyb : ∃ tb, TyOf K H (.ref b) tb ∧ TyOf K H (.ref a) tb ∧ ((tb = .type "tuple" ∧ ∃ u v, H a = some (.tup u) ∧ H b = some (.tup v)) ∨ (tb = .type "list" ∧ ∃ u v, H a = some (.lst u) ∧ H b = some (.lst v))) := hh.elim (fun z => ⟨_, TyOf.lst z.2, TyOf.lst z.1, .inr ⟨rfl, _, _, z.1, z.2⟩⟩) (fun z => ⟨_, TyOf.tup z.2, TyOf.tup z.1, .inl ⟨rfl, _, _, z.1, z.2⟩⟩)
    obtain ⟨tb, t1, t2, hk⟩ := tyb
    have k1 : PySem.W.kitOne K tb (.type "bool") = some false := by rcases hk with ⟨rfl, _⟩ | ⟨rfl, _⟩ <;> rfl
    have k2 : PySem.W.kitOne K tb (.type "int") = some false := by rcases hk with ⟨rfl, _⟩ | ⟨rfl, _⟩ <;> rfl
    have k3 : PySem.W.kitOne K tb (.type "str") = some false := by rcases hk with ⟨rfl, _⟩ | ⟨rfl, _⟩ <;> rfl
    refine ⟨_, rfl, _, "bool", _, false, rfl, t1, k1, false, rfl, iteF ?_⟩
    refine ⟨_, rfl, _, "int", _, false, rfl, t1, k2, false, rfl, iteF ?_⟩
    refine cut1' fun Rk kR => ?_
    refine ⟨_, rfl, _, "str", _, false, rfl, t1, k3, false, rfl, iteF ?_⟩
    refine kR _ _ ?_
    refine cut1 fun Rk kR => ?_
    suffices hs : Rk (L2.start ["found", "due", "k"] [.ref a, .ref b]) H by
      rcases hk with ⟨rfl, _⟩ | ⟨rfl, _⟩
      · refine ⟨_, rfl, _, "tuple", _, true, rfl, t1, rfl, true, rfl, iteT ?_⟩
        exact ⟨_, rfl, _, "tuple", _, true, rfl, t2, rfl, true, rfl, iteF hs⟩
      · refine ⟨_, rfl, _, "tuple", _, false, rfl, t1, rfl, false, rfl, iteF ?_⟩
        exact ⟨_, rfl, _, "list", _, true, rfl, t2, rfl, true, rfl, iteF hs⟩
    refine kR _ _ ?_
    refine cut1 fun Rk kR => ?_
    refine ⟨_, rfl, a, xs, rfl, lena, _, rfl, b, ys, rfl, lenb, rfl, _, rfl, ?_⟩
    refine ite2 (fun c => ?_) (fun _ => ?_)
    · rw [hl, decide_eq_true rfl] at c
      exact absurd c (by decide)
    refine kR _ _ ?_
    refine ⟨_, rfl, b, ys, rfl, lenb, _, rfl, by omega, by omega, ?_⟩
    refine for_range (lo := 0) (n := ((ys.length : Nat) : Int).toNat) (fun i σ Hx => (∃ o, σ = [some (.ref a), some (.ref b), o]) ∧ Same H Hx) ⟨⟨_, rfl⟩, same_refl _⟩ (fun i σ Hx hi z => ?_) (fun σ Hx z => ?_)
    · obtain ⟨⟨o, rfl⟩, sx⟩ := z
      rw [Int.toNat_natCast] at hi
      have i0 : 0 + (i : Int) = (i : Nat) := Int.zero_add _
      obtain ⟨u, hu⟩ : ∃ u, xs[i]? = some u := ⟨_, List.getElem?_eq_getElem (by omega)⟩
      obtain ⟨v, hv⟩ : ∃ v, ys[i]? = some v := ⟨_, List.getElem?_eq_getElem hi⟩
      have au : atI xs (0 + (i : Int)) = some u := by rw [i0]; exact atI_nat hu
      have av : atI ys (0 + (i : Int)) = some v := by rw [i0]; exact atI_nat hv
      have al := (all i u v hu hv).same sx
      refine gn_go ?_
      refine ⟨_, rfl, _, rfl, ?_⟩
      rcases hh with ⟨ha, hb⟩ | ⟨ha, hb⟩
      · refine .inl ⟨a, _, _, _, rfl, rfl, SqL.of (sx _ _ ha), au, _, rfl, _, rfl, .inl ⟨b, _, _, _, rfl, rfl, SqL.of (sx _ _ hb), av, u, v, rfl, al, fun H' s' => ⟨_, rfl, iteF ?_⟩⟩⟩
        exact ⟨⟨_, rfl⟩, same_trans sx s'⟩
      · refine .inr ⟨a, _, _, _, rfl, rfl, SqT.of (sx _ _ ha), au, _, rfl, _, rfl, .inr ⟨b, _, _, _, rfl, rfl, SqT.of (sx _ _ hb), av, u, v, rfl, al, fun H' s' => ⟨_, rfl, iteF ?_⟩⟩⟩
        exact ⟨⟨_, rfl⟩, same_trans sx s'⟩
    obtain ⟨⟨o, rfl⟩, sx⟩ := z
    exact q _ sx
theorem has_alk (s : Src K mg "_law_alike" sAlk) (m_isinstance : mg "isinstance" = none) (m_len : mg "len" = none) (m_range : mg "range" = none) (m_bool : mg "bool" = none) (m_int : mg "int" = none) (m_str : mg "str" = none) (m_tuple : mg "tuple" = none) (m_list : mg "list" = none) : ∀ n : Nat, Has P w K mg base "_law_alike" ["found", "due"] (n + 1) (spAlk n) := by
  obtain ⟨f, fd, F, m⟩ := s
  have b : Binds K fd ["found", "due"] [] := bnd2 F fun _ _ _ _ _ _ _ _ => rfl
  intro n
  have all : FnOk P w K mg base CX0 (n + 1) f fd ["found", "due"] (spAlk n) := by
    induction n with
    | zero => exact none_alk
    | succ n ih => exact ok_alk F m_isinstance m_len m_range m_bool m_int m_str m_tuple m_list ⟨f, fd, ih, F.kp, b, m⟩
  exact ⟨f, fd, all, F.kp, b, m⟩
end
end TW
set_option Elab.async false
set_option linter.all false
set_option maxRecDepth 100000
set_option exponentiation.threshold 4000
set_option maxHeartbeats 1000000
namespace TW
open PySem L2
section
variable {P : Program} {w : World} {K : PySem.W.Frag} {mg : Str → Option Value} {base : Heap}
abbrev sBent : Stmt := top 36
theorem cut_from (xs : List V) {k : Nat} (h : k ≤ xs.length) : cutV xs (some (k : Int)) none = xs.drop k := by
  unfold cutV
  have e0 : HT.sIx xs.length 0 (some (k : Int)) = k := by rw [HT.sIx_nat]; omega
  have e1 : HT.sIx xs.length xs.length none = xs.length := rfl
  rw [e0, e1]
  exact List.take_of_length_le (by rw [List.length_drop]; exact Nat.le_refl _)
theorem cut_to (xs : List V) {k : Nat} (h : k ≤ xs.length) : cutV xs none (some (k : Int)) = xs.take k := by
  unfold cutV
  have e0 : HT.sIx xs.length 0 none = 0 := rfl
  have e1 : HT.sIx xs.length xs.length (some (k : Int)) = k := by rw [HT.sIx_nat]; omega
  rw [e0, e1, List.drop_zero, Nat.sub_zero]
/-! ### what is none -/
structure AskR (bs : List (Str × Int)) (ins : List Str) (nds : List Np) : Prop where
  b9 : bs.length ≤ 900
  i9 : ins.length ≤ 900
  n9 : nds.length ≤ 900
  bs2 : ∀ b ∈ bs, b.1.length ≤ 2000
  is2 : ∀ x ∈ ins, x.length ≤ 2000
  ld : ∀ nd ∈ nds, ∀ l ∈ nd.leads, l.natAbs < 2 ^ 1900
  td : ∀ nd ∈ nds, ∀ e ∈ nd.tolds, e.okIn tagB ∧ e.dep < 20
structure BadE (bs : List (Str × Int)) (m : Nat) (e : Np) : Prop where
  ld : ∀ l ∈ e.leads, l.natAbs < 2 ^ 1900
  td : ∀ x ∈ e.tolds, x.okIn tagB ∧ x.dep < 20
  no : ¬ NodeG bs m e
structure Pt3 (H : Hp) (B I N : Addr) (vb vn : List V) (bs : List (Str × Int)) (ins : List Str) (nds : List Np) : Prop where
  hB : H B = some (.lst vb)
  pb : Paired (BoxAt H) vb bs
  hI : H I = some (.lst (ins.map V.str))
  hN : H N = some (.lst vn)
  pn : Paired (NpAt H) vn nds
theorem Pt3.same {H H' : Hp} {B I N : Addr} {vb vn : List V} {bs : List (Str × Int)} {ins : List Str} {nds : List Np} (h : Pt3 H B I N vb vn bs ins nds) (s : Same H H') : Pt3 H' B I N vb vn bs ins nds := ⟨s _ _ h.hB, Paired.mapP h.pb fun _ _ z => Tp.keep (Same.tk s) z, s _ _ h.hI, s _ _ h.hN, Paired.mapP h.pn fun _ _ z => NpAt.keep (Same.tk s) z⟩
structure GoodQ (ns : List Str) (bs : List (Str × Int)) (ins : List Str) (nds : List Np) : Prop where
  nm : NamesOk ns
  bx : BxIn ns bs ins
  one : 1 ≤ nds.length
  few : nds.length ≤ 40
  nd : ∀ e ∈ nds, NpOk ns nds.length e
section
variable {ns : List Str} {bs : List (Str × Int)} {ins : List Str} {nds : List Np} (g : GoodQ ns bs ins nds)
theorem GoodQ.bl (g : GoodQ ns bs ins nds) : bs.length ≤ 4 := by rw [← List.length_map (f := (·.1)), g.bx.nm]; exact g.nm.l4
theorem GoodQ.il (g : GoodQ ns bs ins nds) : ins.length ≤ 4 := Nat.le_trans (sub_len g.bx.nd g.bx.sub) g.nm.l4
theorem GoodQ.ask (g : GoodQ ns bs ins nds) : AskR bs ins nds := by
  have bl := g.bl
  have il := g.il
  have nl := g.few
  have nm8 : ∀ x ∈ ns, x.length ≤ 2000 := fun x hx => Nat.le_trans (g.nm.ok x hx).len (by decide)
  refine ⟨by omega, by omega, by omega, fun b hb => nm8 _ (by rw [← g.bx.nm]; exact List.mem_map.mpr ⟨b, hb, rfl⟩), fun x hx => nm8 x (g.bx.sub x hx), fun e he l hl => ?_, fun e he x hx => ?_⟩
  · have := (g.nd e he).ld l hl
    exact Nat.lt_of_lt_of_le (show l.natAbs < 2 ^ 6 by omega) (Nat.pow_le_pow_right (by decide) (by decide))
  · have := (g.nd e he).td x hx
    exact ⟨this.1.imp fun _ _ z => z.1, by omega⟩
theorem GoodQ.prog (g : GoodQ ns bs ins nds) : ProgG bs ins nds := by
  refine ⟨⟨g.bx.sz, by rw [g.bx.nm]; exact g.nm.nd⟩, ⟨fun x hx => by rw [g.bx.nm]; exact g.bx.sub x hx, g.bx.nd⟩, g.one, fun e he => ⟨(g.nd e he).ld, fun x hx => ?_⟩⟩
  refine knows_okIn (((g.nd e he).td x hx).1.imp fun t y z => ⟨z.1, by rw [g.bx.nm]; exact z.2⟩)
theorem GoodQ.nob (g : GoodQ ns bs ins nds) : ("nobox" : Str) ∉ bs.map (·.1) := fun z => by rw [g.bx.nm] at z; exact (g.nm.ok _ z).no rfl
theorem nob_knows {bs : List (Str × Int)} (h : ("nobox" : Str) ∉ bs.map (·.1)) : bxB bs "box" "nobox" = false := decide_eq_false fun z => h z.2
theorem bent_size (g : GoodQ ns bs ins nds) {k : Nat} {b : Str × Int} (hk : bs[k]? = some b) {s : Int} (hs : s < 1) : AskR (bs.take k ++ [(b.1, s)] ++ bs.drop (k + 1)) ins nds ∧ ¬ ProgG (bs.take k ++ [(b.1, s)] ++ bs.drop (k + 1)) ins nds := by
  have a := g.ask
  have kl := (List.getElem?_eq_some_iff.mp hk).1
  refine ⟨⟨?_, a.i9, a.n9, fun c hc => ?_, a.is2, a.ld, a.td⟩, fun p => ?_⟩
  · have := a.b9
    rw [List.length_append, List.length_append, List.length_take, List.length_drop]
    show _ + 1 + _ ≤ _
    omega
  · rcases List.mem_append.mp hc with z | z
    · rcases List.mem_append.mp z with z | z
      · exact a.bs2 c (List.mem_of_mem_take z)
      · rw [List.mem_singleton.mp z]; exact a.bs2 b (List.mem_of_getElem? hk)
    · exact a.bs2 c (List.mem_of_mem_drop z)
  · have := p.1.1 (b.1, s) (List.mem_append.mpr (.inl (List.mem_append.mpr (.inr (List.mem_singleton.mpr rfl)))))
    have : 1 ≤ s := this
    omega
theorem bent_twice (g : GoodQ ns bs ins nds) {k : Nat} {b : Str × Int} (hk : bs[k]? = some b) (k3 : k < 3) {s : Int} : AskR (bs.take 3 ++ [(b.1, s)]) ins nds ∧ ¬ ProgG (bs.take 3 ++ [(b.1, s)]) ins nds := by
  have a := g.ask
  refine ⟨⟨?_, a.i9, a.n9, fun c hc => ?_, a.is2, a.ld, a.td⟩, fun p => ?_⟩
  · rw [List.length_append, List.length_take]
    show _ + 1 ≤ 900
    omega
  · rcases List.mem_append.mp hc with z | z
    · exact a.bs2 c (List.mem_of_mem_take z)
    · rw [List.mem_singleton.mp z]; exact a.bs2 b (List.mem_of_getElem? hk)
  · have nd := p.1.2
    rw [List.map_append, List.nodup_append] at nd
    have hm : b ∈ bs.take 3 := List.mem_of_getElem? (i := k) (by rw [List.getElem?_take, if_pos k3]; exact hk)
    exact nd.2.2 b.1 (List.mem_map.mpr ⟨b, hm, rfl⟩) b.1 (List.mem_singleton.mpr rfl) rfl
theorem bent_input (g : GoodQ ns bs ins nds) : AskR bs (ins ++ [("nobox" : Str)]) nds ∧ ¬ ProgG bs (ins ++ [("nobox" : Str)]) nds := by
  have a := g.ask
  have il := g.il
  refine ⟨⟨a.b9, ?_, a.n9, a.bs2, fun c hc => ?_, a.ld, a.td⟩, fun p => ?_⟩
  · rw [List.length_append]
    show _ + 1 ≤ 900
    omega
  · rcases List.mem_append.mp hc with z | z
    · exact a.is2 c z
    · rw [List.mem_singleton.mp z]; decide
  · exact g.nob (p.2.1.1 _ (List.mem_append.mpr (.inr (List.mem_singleton.mpr rfl))))
theorem bent_again (g : GoodQ ns bs ins nds) {x : Str} (hx : x ∈ ins) : AskR bs (ins ++ [x]) nds ∧ ¬ ProgG bs (ins ++ [x]) nds := by
  have a := g.ask
  have il := g.il
  refine ⟨⟨a.b9, ?_, a.n9, a.bs2, fun c hc => ?_, a.ld, a.td⟩, fun p => ?_⟩
  · rw [List.length_append]
    show _ + 1 ≤ 900
    omega
  · rcases List.mem_append.mp hc with z | z
    · exact a.is2 c z
    · rw [List.mem_singleton.mp z]; exact a.is2 x hx
  · have nd := p.2.1.2
    rw [List.nodup_append] at nd
    exact nd.2.2 x hx x (List.mem_singleton.mpr rfl) rfl
theorem bent_node (g : GoodQ ns bs ins nds) {k : Nat} (hk : k < nds.length) {e : Np} (h : BadE bs nds.length e) : AskR bs ins (nds.take k ++ [e] ++ nds.drop (k + 1)) ∧ ¬ ProgG bs ins (nds.take k ++ [e] ++ nds.drop (k + 1)) := by
  have a := g.ask
  have hl : (nds.take k ++ [e] ++ nds.drop (k + 1)).length = nds.length := by
    rw [List.length_append, List.length_append, List.length_take, List.length_drop]
    show _ + 1 + _ = _
    omega
  have mem : ∀ {P : Np → Prop}, (∀ d ∈ nds, P d) → P e → ∀ d ∈ nds.take k ++ [e] ++ nds.drop (k + 1), P d := fun h1 h2 d hd => by
    rcases List.mem_append.mp hd with z | z
    · rcases List.mem_append.mp z with z | z
      · exact h1 d (List.mem_of_mem_take z)
      · rw [List.mem_singleton.mp z]; exact h2
    · exact h1 d (List.mem_of_mem_drop z)
  refine ⟨⟨a.b9, a.i9, by rw [hl]; exact a.n9, a.bs2, a.is2, mem a.ld h.ld, mem a.td h.td⟩, fun p => h.no ?_⟩
  have := p.2.2.2 e (List.mem_append.mpr (.inl (List.mem_append.mpr (.inr (List.mem_singleton.mpr rfl)))))
  rw [hl] at this
  exact this
theorem bent_none (g : GoodQ ns bs ins nds) : AskR bs ins [] ∧ ¬ ProgG bs ins [] := by
  have a := g.ask
  exact ⟨⟨a.b9, a.i9, Nat.zero_le _, a.bs2, a.is2, (fun _ h => nomatch h), (fun _ h => nomatch h)⟩, fun p => by have := p.2.2.1; simp at this⟩
end
/-- a node that names no box -/
theorem bad_box {bs : List (Str × Int)} {m : Nat} {e : Np} (h : ("nobox" : Str) ∉ bs.map (·.1)) (hl : ∀ l ∈ e.leads, l = 0) (ht : ∀ x ∈ e.tolds, x.okIn tagB ∧ x.dep < 20) (hx : ∃ x ∈ e.tolds, x.knows (bxB bs) = false) : BadE bs m e := by
  refine ⟨fun l z => by rw [hl l z]; decide, ht, fun n => ?_⟩
  obtain ⟨x, hm, hf⟩ := hx
  rw [n.2 x hm] at hf
  cases hf
/-- a node that leads to none -/
theorem bad_lead {bs : List (Str × Int)} {m : Nat} {e : Np} {b : Int} (hb : ¬ (0 ≤ b ∧ b < (m : Int))) (b9 : b.natAbs < 2 ^ 100) (hl : ∀ l ∈ e.leads, l = 0 ∨ l = b) (hm : b ∈ e.leads) (ht : ∀ x ∈ e.tolds, x.okIn tagB ∧ x.dep < 20) : BadE bs m e := by
  refine ⟨fun l z => ?_, ht, fun n => hb (n.1 b hm)⟩
  rcases hl l z with e | e
  · rw [e]; decide
  · rw [e]; exact Nat.lt_of_lt_of_le b9 (Nat.pow_le_pow_right (by decide) (by decide))
def BadV (bs : List (Str × Int)) (m : Nat) (H : Hp) (v : V) : Prop := ∃ e, NpAt H v e ∧ BadE bs m e
theorem BadV.keep {bs : List (Str × Int)} {m : Nat} {H H' : Hp} {v : V} (h : BadV bs m H v) (k : TK H H') : BadV bs m H' v := let ⟨e, a, b⟩ := h; ⟨e, a.keep k, b⟩
end
end TW
set_option Elab.async false
set_option linter.all false
set_option maxRecDepth 100000
set_option exponentiation.threshold 4000
set_option maxHeartbeats 1000000
namespace TW
open PySem L2
section
variable {P : Program} {w : World} {K : PySem.W.Frag} {mg : Str → Option Value} {base : Heap}
/-! ### _law_bent -/
def spBent : Sp := fun vs H Q _ => ∃ (r B I N : Addr) (vb vn : List V) (ns : List Str) (bs : List (Str × Int)) (ins : List Str) (nds : List Np), vs = [.ref r, .ref B, .ref I, .ref N] ∧ Reel H r ∧ Pt3 H B I N vb vn bs ins nds ∧ (B ≠ r ∧ I ≠ r ∧ N ≠ r) ∧ GoodQ ns bs ins nds ∧
  ∀ (p B' I' N' : Addr) (vb' vn' : List V) (bs' : List (Str × Int)) (ins' : List Str) (nds' : List Np) (H' : Hp), H' p = some (.tup [.ref B', .ref I', .ref N']) → Pt3 H' B' I' N' vb' vn' bs' ins' nds' → AskR bs' ins' nds' → ¬ ProgG bs' ins' nds' → Q (.ref p) H'
theorem Pt3.go {r : Addr} {H H' : Hp} {B I N : Addr} {vb vn : List V} {bs : List (Str × Int)} {ins : List Str} {nds : List Np} (h : Pt3 H B I N vb vn bs ins nds) (n : B ≠ r ∧ I ≠ r ∧ N ≠ r) (rl : Reel H r) (l : Rl r H H') : Pt3 H' B I N vb vn bs ins nds := ⟨l.k _ _ n.1 h.hB, Paired.mapP h.pb fun _ _ z => Tp.keep (Rl.tk rl l) z, l.k _ _ n.2.1 h.hI, l.k _ _ n.2.2 h.hN, Paired.mapP h.pn fun _ _ z => NpAt.keep (Rl.tk rl l) z⟩
theorem Paired.put {α β : Type} {R : α → β → Prop} : ∀ {xs : List α} {ys : List β} {x : α} {y : β} (k : Nat), Paired R xs ys → k < xs.length → R x y → Paired R (xs.take k ++ [x] ++ xs.drop (k + 1)) (ys.take k ++ [y] ++ ys.drop (k + 1))
  | _ :: _, _ :: _, _, _, 0, .cons _ t, _, h => .cons h t
  | _ :: _, _ :: _, _, _, k + 1, .cons a t, hk, h => .cons a (Paired.put k t (by simpa using hk) h)
theorem cutV_to3 (xs : List V) : cutV xs none (some ((3 : Nat) : Int)) = xs.take 3 := by
  by_cases h : 3 ≤ xs.length
  · exact cut_to xs h
  · unfold cutV
    have e0 : HT.sIx xs.length 0 none = 0 := rfl
    have e1 : HT.sIx xs.length xs.length (some ((3 : Nat) : Int)) = xs.length := by rw [HT.sIx_nat]; omega
    rw [e0, e1, List.drop_zero, Nat.sub_zero, List.take_length, List.take_of_length_le (by omega)]
theorem Paired.takeP {α β : Type} {R : α → β → Prop} : ∀ {xs : List α} {ys : List β} (k : Nat), Paired R xs ys → Paired R (xs.take k) (ys.take k)
  | _, _, 0, _ => .nil
  | _, _, _ + 1, .nil => .nil
  | _, _, k + 1, .cons a t => .cons a (Paired.takeP k t)
theorem scBent : FnScope ["reel", "boxes", "inputs", "nodes", "way", "at", "far", "k", "size", "beyond", "kinds"] ["reel", "boxes", "inputs", "nodes"] (defScope sBent) := ⟨rfl, rfl, rfl, by decide +kernel, rfl, by decide +kernel, by decide +kernel⟩
theorem gBent_law_take : (defScope sBent).names.lookup (Str.ofString "_law_take") = some .globalImplicit := by decide +kernel
theorem gBent_len : (defScope sBent).names.lookup (Str.ofString "len") = some .globalImplicit := by decide +kernel
theorem gBent_min : (defScope sBent).names.lookup (Str.ofString "min") = some .globalImplicit := by decide +kernel
structure Kd (r : Addr) (H7 H : Hp) (kl : Addr) (vs : List V) (bs : List (Str × Int)) (m n : Nat) : Prop where
  lk : Rl r H7 H
  hk : H kl = some (.lst vs)
  kr : kl ≠ r
  k0 : H7 kl = none
  al : ∀ v ∈ vs, BadV bs m H v
  v0 : 0 < vs.length
  vl : vs.length ≤ n
theorem Kd.go {r : Addr} {H7 H H' : Hp} {kl : Addr} {vs : List V} {bs : List (Str × Int)} {m n : Nat} (h : Kd r H7 H kl vs bs m n) (l : Rl r H H') : Kd r H7 H' kl vs bs m n := ⟨h.lk.trans l, l.k _ _ h.kr h.hk, h.kr, h.k0, fun v hv => (h.al v hv).keep (Rl.tk h.lk.rl l), h.v0, h.vl⟩
theorem Kd.cat {r : Addr} {H7 H : Hp} {kl kn : Addr} {vs ws : List V} {bs : List (Str × Int)} {m n k : Nat} (h : Kd r H7 H kl vs bs m n) (b : ∀ v ∈ ws, BadV bs m H v) (hk : ws.length ≤ k) (hn : H kn = none) : Kd r H7 (upd H kn (.lst (vs ++ ws))) kn (vs ++ ws) bs m (n + k) := by
  have l : Rl r H (upd H kn (.lst (vs ++ ws))) := Rl.new h.lk.rl hn
  have kr : kn ≠ r := h.lk.rl.ne hn
  have v0 := h.v0
  have vl := h.vl
  refine ⟨h.lk.trans l, upd_same, kr, Rl.no h.lk kr hn, fun v hv => ?_, by rw [List.length_append]; omega, by rw [List.length_append]; omega⟩
  rcases List.mem_append.mp hv with z | z
  · exact (h.al v z).keep (Rl.tk h.lk.rl l)
  · exact (b v z).keep (Rl.tk h.lk.rl l)
theorem Kd.app {r : Addr} {H7 H : Hp} {kl : Addr} {vs : List V} {v : V} {bs : List (Str × Int)} {m n : Nat} (h : Kd r H7 H kl vs bs m n) (b : BadV bs m H v) : Kd r H7 (upd H kl (.lst (vs ++ [v]))) kl (vs ++ [v]) bs m (n + 1) := by
  have tk : TK H (upd H kl (.lst (vs ++ [v]))) := TK.lst h.hk
  have vl := h.vl
  refine ⟨h.lk.put h.kr h.k0, upd_same, h.kr, h.k0, fun u hu => ?_, by rw [List.length_append]; show 0 < _ + 1; omega, by rw [List.length_append]; show _ + 1 ≤ _; omega⟩
  rcases List.mem_append.mp hu with z | z
  · exact (h.al u z).keep tk
  · rw [List.mem_singleton.mp z]; exact b.keep tk
theorem ok_bent {f : Addr} {fd : FuncData} (F : Fun K "_law_bent" "_law_bent" sBent f fd) (m_len : mg "len" = none) (m_min : mg "min" = none) (TK : Has P w K mg base "_law_take" ["reel", "many"] 1 spTake) : FnOk P w K mg base CX0 2 f fd ["reel", "boxes", "inputs", "nodes"] spBent := by
  refine F.ok scBent (fun vs H Q E h => ?_) (fun cdv A outer s H vs Q E hr h => ?_)
  · obtain ⟨r, B, I, N, vb, vn, ns, bs, ins, nds, rfl, _⟩ := h
    rfl
  · obtain ⟨r, B, I, N, vb, vn, ns, bs, ins, nds, rfl, rl, pt, ne, gq, q⟩ := h
    have vbl := Paired.length pt.pb
    have vnl := Paired.length pt.pn
    have one := gq.one
    have few := gq.few
    have b4 := gq.bl
    have i4 := gq.il
    refine goL ⟨_, (L3.cons (L3.set 4 scBent.nd (L3.own TK hr gBent_law_take (L3.k (L3.v 0) (L3.k L3.int L3.n))))
      (L3.cons (L3.set 5 scBent.nd (L3.own TK hr gBent_law_take (L3.k (L3.v 0) (L3.k (L3.callB L3.c_len gBent_len m_len PySem.boot_len (L3.k (L3.v 3) L3.n)) L3.n))))
      (L3.cons (L3.set 6 scBent.nd (L3.ix L3.ixL (L3.lst (L3.k L3.int (L3.k L3.int (L3.k (L3.op L3.o_pow L3.int L3.int) L3.n)))) (L3.own TK hr gBent_law_take (L3.k (L3.v 0) (L3.k L3.int L3.n)))))
      (L3.cons (L3.ifs (L3.tw (L3.and2 (L3.cmp L3.o_eq (L3.v 4) L3.int) (L3.and1 (L3.cmp (L3.o_neD (m := 2) (up_ne hr _ (by decide))) (L3.v 1) (L3.lst L3.n))))) (L3.cons (L3.set 7 scBent.nd (L3.own TK hr gBent_law_take (L3.k (L3.v 0) (L3.k (L3.callB L3.c_len gBent_len m_len PySem.boot_len (L3.k (L3.v 1) L3.n)) L3.n))))
      (L3.one (L3.ret (L3.tup (L3.k (L3.op L3.o_cat (L3.op L3.o_cat (L3.slL2 (L3.v 1) (L3.v 7)) (L3.lst (L3.k (L3.tup (L3.k (L3.ix L3.ixT (L3.ix L3.ixL (L3.v 1) (L3.v 7)) L3.int) (L3.k (L3.op L3.o_sub L3.int (L3.v 6)) L3.n))) L3.n))) (L3.slL1 (L3.v 1) (L3.op L3.o_add (L3.v 7) L3.int))) (L3.k (L3.v 2) (L3.k (L3.v 3) L3.n))))))) L3.nil)
      (L3.cons (L3.ifs (L3.tw (L3.and2 (L3.cmp L3.o_eq (L3.v 4) L3.int) (L3.and1 (L3.cmp (L3.o_neD (m := 2) (up_ne hr _ (by decide))) (L3.v 1) (L3.lst L3.n))))) (L3.cons (L3.set 8 scBent.nd (L3.ix L3.ixL (L3.lst (L3.k L3.int (L3.k L3.int (L3.k L3.int L3.n)))) (L3.own TK hr gBent_law_take (L3.k (L3.v 0) (L3.k L3.int L3.n)))))
      (L3.one (L3.ret (L3.tup (L3.k (L3.op L3.o_cat (L3.slL2 (L3.v 1) L3.int) (L3.lst (L3.k (L3.tup (L3.k (L3.ix L3.ixT (L3.ix L3.ixL (L3.v 1) (L3.own TK hr gBent_law_take (L3.k (L3.v 0) (L3.k (L3.callB L3.c_min gBent_min m_min (by decide +kernel) (L3.k L3.int (L3.k (L3.callB L3.c_len gBent_len m_len PySem.boot_len (L3.k (L3.v 1) L3.n)) L3.n))) L3.n)))) L3.int) (L3.k (L3.v 8) L3.n))) L3.n))) (L3.k (L3.v 2) (L3.k (L3.v 3) L3.n))))))) L3.nil)
      (L3.cons (L3.ifs (L3.cmp L3.o_eq (L3.v 4) L3.int) (L3.one (L3.ret (L3.tup (L3.k (L3.v 1) (L3.k (L3.op L3.o_cat (L3.v 2) (L3.lst (L3.k L3.str L3.n))) (L3.k (L3.v 3) L3.n)))))) L3.nil)
      (L3.cons (L3.ifs (L3.tw (L3.and2 (L3.cmp L3.o_eq (L3.v 4) L3.int) (L3.and1 (L3.cmp (L3.o_neD (m := 2) (up_ne hr _ (by decide))) (L3.v 2) (L3.lst L3.n))))) (L3.one (L3.ret (L3.tup (L3.k (L3.v 1) (L3.k (L3.op L3.o_cat (L3.v 2) (L3.lst (L3.k (L3.ix L3.ixL (L3.v 2) (L3.own TK hr gBent_law_take (L3.k (L3.v 0) (L3.k (L3.callB L3.c_len gBent_len m_len PySem.boot_len (L3.k (L3.v 2) L3.n)) L3.n)))) L3.n))) (L3.k (L3.v 3) L3.n)))))) L3.nil)
      (L3.cons (L3.set 9 scBent.nd (L3.ix L3.ixL (L3.lst (L3.k (L3.neg (L3.v 6)) (L3.k (L3.op L3.o_add (L3.op L3.o_sub (L3.callB L3.c_len gBent_len m_len PySem.boot_len (L3.k (L3.v 3) L3.n)) L3.int) (L3.v 6)) L3.n))) (L3.own TK hr gBent_law_take (L3.k (L3.v 0) (L3.k L3.int L3.n)))))
      (L3.cons (L3.set 10 scBent.nd (L3.lst (L3.k (L3.tup (L3.k L3.str (L3.k L3.str (L3.k L3.int L3.n)))) (L3.k (L3.tup (L3.k L3.str (L3.k L3.str (L3.k (L3.tup (L3.k L3.str (L3.k L3.int L3.n))) (L3.k L3.int L3.n))))) L3.n))))
      (L3.cons (L3.set 10 scBent.nd (L3.op L3.o_cat (L3.v 10) (L3.lst (L3.k (L3.tup (L3.k L3.str (L3.k (L3.tup (L3.k L3.str (L3.k (L3.tup (L3.k L3.str (L3.k L3.int L3.n))) (L3.k (L3.tup (L3.k L3.str (L3.k L3.str L3.n))) L3.n)))) (L3.k L3.int L3.n)))) L3.n))))
      (L3.cons (L3.set 10 scBent.nd (L3.op L3.o_cat (L3.v 10) (L3.lst (L3.k (L3.tup (L3.k L3.str (L3.k (L3.tup (L3.k L3.str (L3.k (L3.tup (L3.k L3.str (L3.k (L3.tup (L3.k L3.str (L3.k L3.str L3.n))) (L3.k (L3.tup (L3.k L3.str (L3.k L3.int L3.n))) L3.n)))) L3.n))) (L3.k L3.int (L3.k L3.int L3.n))))) (L3.k (L3.tup (L3.k L3.str (L3.k (L3.tup (L3.k L3.str (L3.k L3.int L3.n))) (L3.k (L3.v 9) L3.n)))) L3.n)))))
      (L3.cons (L3.set 10 scBent.nd (L3.op L3.o_cat (L3.v 10) (L3.lst (L3.k (L3.tup (L3.k L3.str (L3.k (L3.tup (L3.k L3.str L3.n)) (L3.k (L3.v 9) (L3.k L3.int L3.n))))) (L3.k (L3.tup (L3.k L3.str (L3.k (L3.tup (L3.k L3.str L3.n)) (L3.k L3.int (L3.k (L3.v 9) L3.n))))) L3.n)))))
      (L3.cons (L3.ifs (L3.cmp (L3.o_neD (m := 2) (up_ne hr _ (by decide))) (L3.v 1) (L3.lst L3.n)) (L3.cons (L3.ex (L3.append (L3.v 10) (L3.k (L3.tup (L3.k L3.str (L3.k (L3.ix L3.ixT (L3.ix L3.ixL (L3.v 1) L3.int) L3.int) (L3.k (L3.tup (L3.k L3.str (L3.k (L3.tup (L3.k L3.str (L3.k L3.int L3.n))) (L3.k (L3.tup (L3.k L3.str (L3.k L3.str L3.n))) L3.n)))) (L3.k L3.int L3.n))))) L3.n)))
      (L3.one (L3.set 10 scBent.nd (L3.op L3.o_cat (L3.v 10) (L3.lst (L3.k (L3.tup (L3.k L3.str (L3.k (L3.ix L3.ixT (L3.ix L3.ixL (L3.v 1) L3.int) L3.int) (L3.k (L3.v 9) L3.n)))) (L3.k (L3.tup (L3.k L3.str (L3.k (L3.ix L3.ixT (L3.ix L3.ixL (L3.v 1) (L3.neg L3.int)) L3.int) (L3.k (L3.tup (L3.k L3.str (L3.k L3.int L3.n))) (L3.k (L3.v 9) L3.n))))) L3.n))))))) L3.nil)
      (L3.cons (L3.ifs (L3.cmp L3.o_lt (L3.v 4) L3.int) (L3.one (L3.ret (L3.tup (L3.k (L3.v 1) (L3.k (L3.v 2) (L3.k (L3.op L3.o_cat (L3.op L3.o_cat (L3.slL2 (L3.v 3) (L3.v 5)) (L3.lst (L3.k (L3.ix L3.ixL (L3.v 10) (L3.own TK hr gBent_law_take (L3.k (L3.v 0) (L3.k (L3.callB L3.c_len gBent_len m_len PySem.boot_len (L3.k (L3.v 10) L3.n)) L3.n)))) L3.n))) (L3.slL1 (L3.v 3) (L3.op L3.o_add (L3.v 5) L3.int))) L3.n)))))) L3.nil)
      (L3.one (L3.ret (L3.tup (L3.k (L3.v 1) (L3.k (L3.v 2) (L3.k (L3.lst L3.n) L3.n)))))))))))))))))))), ?_⟩
    refine cut3 fun Rk kR => ?_
    refine ⟨_, rfl, r, 8, rfl, rl, by decide, by decide, fun wy H1 w0 w1 l1 => ?_⟩
    have pt1 := pt.go ne rl l1
    refine gn_go ?_
    refine ⟨_, rfl, _, rfl, N, _, rfl, .inl (SqL.of pt1.hN), r, _, rfl, l1.rl, by omega, Int.lt_of_le_of_lt (show ((vn.length : Nat) : Int) ≤ 40 by omega) (by decide), fun at0 H2 a0 a1 l2 => ?_⟩
    refine gn_go ?_
    obtain ⟨k1, ek⟩ : ∃ k1 : Nat, at0 = (k1 : Int) := ⟨at0.toNat, by omega⟩
    have k1l : k1 < nds.length := by omega
    refine ⟨_, _, rfl, rfl, ⟨by decide, by decide, by decide⟩, (by show 3 ≤ sizeLine; decide), fun L hL => ?_⟩
    have l02 := l1.trans l2
    have Lr : L ≠ r := l02.rl.ne hL
    have ll : Rl r H2 (upd H2 L (.lst [.int 1, .int 2, .int (10 ^ Int.toNat 20)])) := Rl.new l02.rl hL
    have gL : (upd H2 L (.lst [.int 1, .int 2, .int (10 ^ Int.toNat 20)])) L = some (.lst [.int 1, .int 2, .int (10 ^ Int.toNat 20)]) := upd_same
    generalize upd H2 L (.lst [.int 1, .int 2, .int (10 ^ Int.toNat 20)]) = H3 at ll gL ⊢
    refine ⟨_, rfl, r, 3, rfl, ll.rl, by decide, by decide, fun j H4 j0 j1 l4 => ?_⟩
    obtain ⟨_, hat, far, rfl, f0, f9⟩ := atI_all (P := fun v => ∃ far : Int, v = .int far ∧ 0 < far ∧ far < 2 ^ 90) (xs := [.int 1, .int 2, .int (10 ^ Int.toNat 20)]) (r := j) j0 j1 (fun x hx => by
      rcases List.mem_cons.mp hx with e | hx
      · exact ⟨_, e, by decide, by decide⟩
      rcases List.mem_cons.mp hx with e | hx
      · exact ⟨_, e, by decide, by decide⟩
      · exact ⟨_, List.mem_singleton.mp hx, by decide, by decide⟩)
    refine ⟨L, _, _, _, rfl, rfl, SqL.of (l4.k _ _ Lr gL), hat, ?_⟩
    have l04 := l02.trans (ll.trans l4)
    have rl4 := l04.rl
    have pt4 := pt.go ne rl l04
    refine gn_go ?_
    refine kR _ _ ?_
    refine normS [some (.ref r), some (.ref B), some (.ref I), some (.ref N), some (.int wy), some (.int (k1 : Int)), some (.int far), none, none, none, none] (by rw [ek]; rfl) ?_
    clear hat gL hL Lr ll l4 l02 l1 l2 pt1 ek a0 a1 j0 j1 l04
    have fin : ∀ (H9 : Hp) (B' I' N' : Addr) (vb' vn' : List V) (bs' : List (Str × Int)) (ins' : List Str) (nds' : List Np) (p : Addr), Pt3 H9 B' I' N' vb' vn' bs' ins' nds' → AskR bs' ins' nds' ∧ ¬ ProgG bs' ins' nds' → H9 p = none → Q (.ref p) (upd H9 p (.tup [.ref B', .ref I', .ref N'])) := fun H9 B' I' N' vb' vn' bs' ins' nds' p h1 h2 hp => q p B' I' N' vb' vn' bs' ins' nds' _ upd_same (h1.same (same_new hp _)) h2.1 h2.2
    refine cut1 fun Rk kR => ?_
    refine ⟨_, rfl, rfl, _, rfl, ?_⟩
    suffices hs : ∀ H5, Rl r H4 H5 → Rk [some (.ref r), some (.ref B), some (.ref I), some (.ref N), some (.int wy), some (.int (k1 : Int)), some (.int far), none, none, none, none] H5 by
      refine ite2 (fun _ => ?_) (fun _ => iteF (hs H4 (Rl.refl rl4)))
      refine ⟨_, rfl, (by show 0 ≤ sizeLine; decide), fun z hz => ?_⟩
      have lz : Rl r H4 (upd H4 z (.lst [])) := Rl.new rl4 hz
      have gz : (upd H4 z (.lst [])) z = some (.lst []) := upd_same
      generalize upd H4 z (.lst []) = H5 at lz gz ⊢
      have pt5 := pt4.go ne rl4 lz
      refine ⟨_, RB.nil (SqL.of pt5.hB) (SqL.of gz), _, rfl, ?_⟩
      refine ite2 (fun c => ?_) (fun _ => hs H5 lz)
      have bpos : 0 < vb.length := by
        cases vb with
        | nil => exact absurd c (by decide)
        | cons a l => exact Nat.succ_pos _
      refine ⟨_, rfl, _, rfl, B, _, rfl, .inl (SqL.of pt5.hB), r, _, rfl, lz.rl, by omega, Int.lt_of_le_of_lt (show ((vb.length : Nat) : Int) ≤ 4 by omega) (by decide), fun j H6 j0 j1 l6 => ?_⟩
      have pt6 := pt5.go ne lz.rl l6
      obtain ⟨k, ek⟩ : ∃ k : Nat, j = (k : Int) := ⟨j.toNat, by omega⟩
      subst ek
      have kl : k < vb.length := by omega
      obtain ⟨b, hbk, pb0, epb, hpb⟩ := Paired.get pt6.pb (List.getElem?_eq_getElem kl)
      have hbv : vb[k]? = some (.ref pb0) := by rw [List.getElem?_eq_getElem kl, epb]
      refine gn_go ?_
      refine ⟨_, rfl, _, rfl, _, rfl, B, _, rfl, SqL.of pt6.hB, fun pa hpa => ?_⟩
      rw [cut_to vb (by omega)]
      have sa : Same H6 (upd H6 pa (.lst (vb.take k))) := same_new hpa _
      have ga : (upd H6 pa (.lst (vb.take k))) pa = some (.lst (vb.take k)) := upd_same
      generalize upd H6 pa (.lst (vb.take k)) = Ha at sa ga ⊢
      refine ⟨_, rfl, _, rfl, B, _, _, _, rfl, rfl, SqL.of (sa _ _ pt6.hB), atI_nat hbv, pb0, _, _, _, rfl, rfl, SqT.of (sa _ _ hpb), rfl, _, rfl, _, _, rfl, rfl, (by show 2 ≤ sizeLine; decide), fun pb1 hpb1 => ?_⟩
      have sb : Same Ha (upd Ha pb1 (.tup [.str b.1, .int (1 - far)])) := same_new hpb1 _
      have gb : (upd Ha pb1 (.tup [.str b.1, .int (1 - far)])) pb1 = some (.tup [.str b.1, .int (1 - far)]) := upd_same
      generalize upd Ha pb1 (.tup [.str b.1, .int (1 - far)]) = Hb at sb gb ⊢
      refine ⟨(by show 1 ≤ sizeLine; decide), fun pc hpc => ?_⟩
      have sc : Same Hb (upd Hb pc (.lst [.ref pb1])) := same_new hpc _
      have gc : (upd Hb pc (.lst [.ref pb1])) pc = some (.lst [.ref pb1]) := upd_same
      generalize upd Hb pc (.lst [.ref pb1]) = Hc at sc gc ⊢
      refine ⟨pa, pc, _, _, rfl, rfl, sc _ _ (sb _ _ ga), gc, Nat.le_trans (show _ ≤ 100 by rw [List.length_take]; show _ + 1 ≤ 100; omega) (by decide), fun pd hpd => ?_⟩
      have sd : Same Hc (upd Hc pd (.lst (vb.take k ++ [.ref pb1]))) := same_new hpd _
      have gd : (upd Hc pd (.lst (vb.take k ++ [.ref pb1]))) pd = some (.lst (vb.take k ++ [.ref pb1])) := upd_same
      generalize upd Hc pd (.lst (vb.take k ++ [.ref pb1])) = Hd at sd gd ⊢
      refine ⟨_, rfl, _, rfl, _, _, rfl, rfl, _, rfl, B, _, rfl, SqL.of (sd _ _ (sc _ _ (sb _ _ (sa _ _ pt6.hB)))), fun pe hpe => ?_⟩
      rw [show (k : Int) + 1 = ((k + 1 : Nat) : Int) by omega, cut_from vb (by omega)]
      have se : Same Hd (upd Hd pe (.lst (vb.drop (k + 1)))) := same_new hpe _
      have ge : (upd Hd pe (.lst (vb.drop (k + 1)))) pe = some (.lst (vb.drop (k + 1))) := upd_same
      generalize upd Hd pe (.lst (vb.drop (k + 1))) = He at se ge ⊢
      refine ⟨pd, pe, _, _, rfl, rfl, se _ _ gd, ge, Nat.le_trans (show _ ≤ 100 by rw [List.length_append, List.length_take, List.length_drop]; show _ + 1 + _ ≤ 100; omega) (by decide), fun pf hpf => ?_⟩
      have sf : Same He (upd He pf (.lst (vb.take k ++ [.ref pb1] ++ vb.drop (k + 1)))) := same_new hpf _
      have gf : (upd He pf (.lst (vb.take k ++ [.ref pb1] ++ vb.drop (k + 1)))) pf = some (.lst (vb.take k ++ [.ref pb1] ++ vb.drop (k + 1))) := upd_same
      generalize upd He pf (.lst (vb.take k ++ [.ref pb1] ++ vb.drop (k + 1))) = Hf at sf gf ⊢
      refine ⟨_, rfl, _, rfl, (by show 3 ≤ sizeLine; decide), fun p hp => ?_⟩
      have sab := same_trans sa (same_trans sb (same_trans sc (same_trans sd (same_trans se sf))))
      have pt9 := pt6.same sab
      exact fin _ pf I N _ vn _ ins nds p ⟨gf, Paired.put k pt9.pb kl ⟨pb1, rfl, (same_trans sc (same_trans sd (same_trans se sf))) _ _ gb⟩, pt9.hI, pt9.hN, pt9.pn⟩ (bent_size (s := 1 - far) gq hbk (by omega)) hp
    intro Hm lNX
    have pt4 := pt4.go ne rl4 lNX
    have rl4 := lNX.rl
    clear lNX
    refine kR _ _ ?_
    refine cut1 fun Rk kR => ?_
    refine ⟨_, rfl, rfl, _, rfl, ?_⟩
    suffices hs : ∀ H5, Rl r Hm H5 → Rk [some (.ref r), some (.ref B), some (.ref I), some (.ref N), some (.int wy), some (.int (k1 : Int)), some (.int far), none, none, none, none] H5 by
      refine ite2 (fun _ => ?_) (fun _ => iteF (hs Hm (Rl.refl rl4)))
      refine ⟨_, rfl, (by show 0 ≤ sizeLine; decide), fun z hz => ?_⟩
      have lz : Rl r Hm (upd Hm z (.lst [])) := Rl.new rl4 hz
      have gz : (upd Hm z (.lst [])) z = some (.lst []) := upd_same
      generalize upd Hm z (.lst []) = H5 at lz gz ⊢
      have pt5 := pt4.go ne rl4 lz
      refine ⟨_, RB.nil (SqL.of pt5.hB) (SqL.of gz), _, rfl, ?_⟩
      refine ite2 (fun c => ?_) (fun _ => hs H5 lz)
      have bpos : 0 < vb.length := by
        cases vb with
        | nil => exact absurd c (by decide)
        | cons a l => exact Nat.succ_pos _
      refine ⟨(by show 3 ≤ sizeLine; decide), fun L hL => ?_⟩
      have Lr : L ≠ r := lz.rl.ne hL
      have ll : Rl r H5 (upd H5 L (.lst [.int 1, .int 2, .int 16])) := Rl.new lz.rl hL
      have gL : (upd H5 L (.lst [.int 1, .int 2, .int 16])) L = some (.lst [.int 1, .int 2, .int 16]) := upd_same
      generalize upd H5 L (.lst [.int 1, .int 2, .int 16]) = H6 at ll gL ⊢
      refine ⟨_, rfl, r, 3, rfl, ll.rl, by decide, by decide, fun j H7 j0 j1 l7 => ?_⟩
      obtain ⟨_, hat, sz, rfl⟩ := atI_all (P := fun v => ∃ sz : Int, v = .int sz) (xs := [.int 1, .int 2, .int 16]) (r := j) j0 j1 (fun x hx => by
        rcases List.mem_cons.mp hx with e | hx
        · exact ⟨_, e⟩
        rcases List.mem_cons.mp hx with e | hx
        · exact ⟨_, e⟩
        · exact ⟨_, List.mem_singleton.mp hx⟩)
      refine ⟨L, _, _, _, rfl, rfl, SqL.of (l7.k _ _ Lr gL), hat, ?_⟩
      have l57 := ll.trans l7
      have pt7 := pt5.go ne lz.rl l57
      refine gn_go ?_
      refine ⟨_, rfl, _, rfl, B, _, rfl, SqL.of pt7.hB, fun pa hpa => ?_⟩
      rw [show (3 : Int) = ((3 : Nat) : Int) from rfl, cutV_to3]
      have sa : Same H7 (upd H7 pa (.lst (vb.take 3))) := same_new hpa _
      have ga : (upd H7 pa (.lst (vb.take 3))) pa = some (.lst (vb.take 3)) := upd_same
      generalize upd H7 pa (.lst (vb.take 3)) = Ha at sa ga ⊢
      have rla := l57.rl.same sa
      refine ⟨_, rfl, _, rfl, _, rfl, B, _, rfl, .inl (SqL.of (sa _ _ pt7.hB)), _, _, rfl, r, _, rfl, rla, ?_, ?_, fun i Hb i0 i1 lb => ?_⟩
      · split <;> omega
      · exact Int.lt_of_le_of_lt (show _ ≤ (4 : Int) by split <;> omega) (by decide)
      have i2 : i < 3 ∧ i < ((vb.length : Nat) : Int) := by split at i1 <;> omega
      obtain ⟨k, ek⟩ : ∃ k : Nat, i = (k : Int) := ⟨i.toNat, by omega⟩
      subst ek
      have kl : k < vb.length := by omega
      have ptb := (pt7.same sa).go ne rla lb
      obtain ⟨b, hbk, pb0, epb, hpb⟩ := Paired.get ptb.pb (List.getElem?_eq_getElem kl)
      have hbv : vb[k]? = some (.ref pb0) := by rw [List.getElem?_eq_getElem kl, epb]
      have par : pa ≠ r := l57.rl.ne hpa
      have gab := lb.k _ _ par ga
      refine ⟨B, _, _, _, rfl, rfl, SqL.of ptb.hB, atI_nat hbv, pb0, _, _, _, rfl, rfl, SqT.of hpb, rfl, _, rfl, (by show 2 ≤ sizeLine; decide), fun pb1 hpb1 => ?_⟩
      have sc : Same Hb (upd Hb pb1 (.tup [.str b.1, .int sz])) := same_new hpb1 _
      have gc : (upd Hb pb1 (.tup [.str b.1, .int sz])) pb1 = some (.tup [.str b.1, .int sz]) := upd_same
      generalize upd Hb pb1 (.tup [.str b.1, .int sz]) = Hc at sc gc ⊢
      refine ⟨(by show 1 ≤ sizeLine; decide), fun pc hpc => ?_⟩
      have sd : Same Hc (upd Hc pc (.lst [.ref pb1])) := same_new hpc _
      have gd : (upd Hc pc (.lst [.ref pb1])) pc = some (.lst [.ref pb1]) := upd_same
      generalize upd Hc pc (.lst [.ref pb1]) = Hd at sd gd ⊢
      refine ⟨pa, pc, _, _, rfl, rfl, sd _ _ (sc _ _ gab), gd, Nat.le_trans (show _ ≤ 100 by rw [List.length_take]; show _ + 1 ≤ 100; omega) (by decide), fun pd hpd => ?_⟩
      have se : Same Hd (upd Hd pd (.lst (vb.take 3 ++ [.ref pb1]))) := same_new hpd _
      have ge : (upd Hd pd (.lst (vb.take 3 ++ [.ref pb1]))) pd = some (.lst (vb.take 3 ++ [.ref pb1])) := upd_same
      generalize upd Hd pd (.lst (vb.take 3 ++ [.ref pb1])) = He at se ge ⊢
      refine ⟨_, rfl, _, rfl, (by show 3 ≤ sizeLine; decide), fun p hp => ?_⟩
      have sab := same_trans sc (same_trans sd se)
      have pt9 := ptb.same sab
      exact fin _ pd I N _ vn _ ins nds p ⟨ge, Paired.snoc (Paired.takeP 3 pt9.pb) ⟨pb1, rfl, (same_trans sd se) _ _ gc⟩, pt9.hI, pt9.hN, pt9.pn⟩ (bent_twice (s := sz) gq hbk (by omega)) hp
    intro Hn lNX
    have pt4 := pt4.go ne rl4 lNX
    have rl4 := lNX.rl
    clear lNX
    refine kR _ _ ?_
    refine cut1 fun Rk kR => ?_
    refine ⟨_, rfl, rfl, _, rfl, ?_⟩
    refine ite2 (fun _ => ?_) (fun _ => ?_)
    · refine ⟨_, rfl, _, rfl, (by show 1 ≤ sizeLine; decide), fun pa hpa => ?_⟩
      have sa : Same Hn (upd Hn pa (.lst [.str "nobox"])) := same_new hpa _
      have ga : (upd Hn pa (.lst [.str "nobox"])) pa = some (.lst [.str "nobox"]) := upd_same
      generalize upd Hn pa (.lst [.str "nobox"]) = Ha at sa ga ⊢
      refine ⟨I, pa, _, _, rfl, rfl, sa _ _ pt4.hI, ga, Nat.le_trans (show _ ≤ 100 by rw [List.length_map]; show _ + 1 ≤ 100; omega) (by decide), fun pb hpb => ?_⟩
      have sb : Same Ha (upd Ha pb (.lst (ins.map V.str ++ [.str "nobox"]))) := same_new hpb _
      have gb : (upd Ha pb (.lst (ins.map V.str ++ [.str "nobox"]))) pb = some (.lst (ins.map V.str ++ [.str "nobox"])) := upd_same
      generalize upd Ha pb (.lst (ins.map V.str ++ [.str "nobox"])) = Hb at sb gb ⊢
      refine ⟨_, rfl, (by show 3 ≤ sizeLine; decide), fun p hp => ?_⟩
      have pt9 := pt4.same (same_trans sa sb)
      exact fin _ B pb N vb vn bs _ nds p ⟨pt9.hB, pt9.pb, by rw [gb, List.map_append]; rfl, pt9.hN, pt9.pn⟩ (bent_input gq) hp
    refine kR _ _ ?_
    refine cut1 fun Rk kR => ?_
    refine ⟨_, rfl, rfl, _, rfl, ?_⟩
    suffices hs : ∀ H5, Rl r Hn H5 → Rk [some (.ref r), some (.ref B), some (.ref I), some (.ref N), some (.int wy), some (.int (k1 : Int)), some (.int far), none, none, none, none] H5 by
      refine ite2 (fun _ => ?_) (fun _ => iteF (hs Hn (Rl.refl rl4)))
      refine ⟨_, rfl, (by show 0 ≤ sizeLine; decide), fun z hz => ?_⟩
      have lz : Rl r Hn (upd Hn z (.lst [])) := Rl.new rl4 hz
      have gz : (upd Hn z (.lst [])) z = some (.lst []) := upd_same
      generalize upd Hn z (.lst []) = H5 at lz gz ⊢
      have pt5 := pt4.go ne rl4 lz
      refine ⟨_, RB.nil (SqL.of pt5.hI) (SqL.of gz), _, rfl, ?_⟩
      refine ite2 (fun c => ?_) (fun _ => hs H5 lz)
      have ipos : 0 < ins.length := by
        cases ins with
        | nil => exact absurd c (by decide)
        | cons a l => exact Nat.succ_pos _
      refine ⟨_, rfl, _, rfl, _, rfl, _, rfl, _, rfl, I, _, rfl, .inl (SqL.of pt5.hI), r, _, rfl, lz.rl, by rw [List.length_map]; omega, Int.lt_of_le_of_lt (show (((ins.map V.str).length : Nat) : Int) ≤ 4 by rw [List.length_map]; omega) (by decide), fun j H6 j0 j1 l6 => ?_⟩
      rw [List.length_map] at j1
      obtain ⟨x, hxm, hat⟩ := atI_map V.str ins j0 j1
      have pt6 := pt5.go ne lz.rl l6
      refine ⟨I, _, _, _, rfl, rfl, SqL.of pt6.hI, hat, (by show 1 ≤ sizeLine; decide), fun pa hpa => ?_⟩
      have sa : Same H6 (upd H6 pa (.lst [.str x])) := same_new hpa _
      have ga : (upd H6 pa (.lst [.str x])) pa = some (.lst [.str x]) := upd_same
      generalize upd H6 pa (.lst [.str x]) = Ha at sa ga ⊢
      refine ⟨I, pa, _, _, rfl, rfl, sa _ _ pt6.hI, ga, Nat.le_trans (show _ ≤ 100 by rw [List.length_map]; show _ + 1 ≤ 100; omega) (by decide), fun pb hpb => ?_⟩
      have sb : Same Ha (upd Ha pb (.lst (ins.map V.str ++ [.str x]))) := same_new hpb _
      have gb : (upd Ha pb (.lst (ins.map V.str ++ [.str x]))) pb = some (.lst (ins.map V.str ++ [.str x])) := upd_same
      generalize upd Ha pb (.lst (ins.map V.str ++ [.str x])) = Hb at sb gb ⊢
      refine ⟨_, rfl, (by show 3 ≤ sizeLine; decide), fun p hp => ?_⟩
      have pt9 := pt6.same (same_trans sa sb)
      exact fin _ B pb N vb vn bs _ nds p ⟨pt9.hB, pt9.pb, by rw [gb, List.map_append]; rfl, pt9.hN, pt9.pn⟩ (bent_again gq hxm) hp
    intro Ho lNX
    have pt4 := pt4.go ne rl4 lNX
    have rl4 := lNX.rl
    clear lNX
    refine kR _ _ ?_
    refine cut1 fun Rk kR => ?_
    refine ⟨_, rfl, _, rfl, _, rfl, N, _, rfl, .inl (SqL.of pt4.hN), _, _, rfl, rfl, _, rfl, _, _, rfl, rfl, (by show 2 ≤ sizeLine; decide), fun L hL => ?_⟩
    have Lr : L ≠ r := rl4.ne hL
    have ll : Rl r Ho (upd Ho L (.lst [.int (-far), .int ((vn.length : Int) - 1 + far)])) := Rl.new rl4 hL
    have gL : (upd Ho L (.lst [.int (-far), .int ((vn.length : Int) - 1 + far)])) L = some (.lst [.int (-far), .int ((vn.length : Int) - 1 + far)]) := upd_same
    generalize upd Ho L (.lst [.int (-far), .int ((vn.length : Int) - 1 + far)]) = H6 at ll gL ⊢
    refine ⟨_, rfl, r, 2, rfl, ll.rl, by decide, by decide, fun j H7 j0 j1 l7 => ?_⟩
    obtain ⟨_, hat, bd, rfl, bdn, bd9⟩ := atI_all (P := fun v => ∃ bd : Int, v = .int bd ∧ ¬ (0 ≤ bd ∧ bd < (nds.length : Int)) ∧ bd.natAbs < 2 ^ 100) (xs := [.int (-far), .int ((vn.length : Int) - 1 + far)]) (r := j) j0 j1 (fun x hx => by
      rcases List.mem_cons.mp hx with e | hx
      · exact ⟨_, e, by omega, by omega⟩
      · exact ⟨_, List.mem_singleton.mp hx, by omega, by omega⟩)
    refine ⟨L, _, _, _, rfl, rfl, SqL.of (l7.k _ _ Lr gL), hat, ?_⟩
    have l57 := ll.trans l7
    have pt4 := pt4.go ne rl4 l57
    have rl4 := l57.rl
    refine gn_go ?_
    refine kR _ _ ?_
    refine normS [some (.ref r), some (.ref B), some (.ref I), some (.ref N), some (.int wy), some (.int (k1 : Int)), some (.int far), none, none, some (.int bd), none] rfl ?_
    clear hat gL hL Lr ll l7 l57
    have nob := gq.nob
    have nok := nob_knows nob
    refine cut1 fun Rk kR => ?_
    refine ⟨(by show 3 ≤ sizeLine; decide), fun au1 hau1 => ?_⟩
    have al1 : Rl r H7 (upd H7 au1 (.tup [.str "pick", .str "nobox", .int 0])) := Rl.new rl4 hau1
    have ag1 : (upd H7 au1 (.tup [.str "pick", .str "nobox", .int 0])) au1 = some (.tup [.str "pick", .str "nobox", .int 0]) := upd_same
    generalize upd H7 au1 (.tup [.str "pick", .str "nobox", .int 0]) = aH1 at al1 ag1 ⊢
    refine ⟨(by show 2 ≤ sizeLine; decide), fun au2 hau2 => ?_⟩
    have al2 : Rl r aH1 (upd aH1 au2 (.tup [.str "number", .int 1])) := Rl.new al1.rl hau2
    have ag2 : (upd aH1 au2 (.tup [.str "number", .int 1])) au2 = some (.tup [.str "number", .int 1]) := upd_same
    generalize upd aH1 au2 (.tup [.str "number", .int 1]) = aH2 at al2 ag2 ⊢
    refine ⟨(by show 4 ≤ sizeLine; decide), fun au3 hau3 => ?_⟩
    have al3 : Rl r aH2 (upd aH2 au3 (.tup [.str "put", .str "nobox", .ref au2, .int 0])) := Rl.new al2.rl hau3
    have ag3 : (upd aH2 au3 (.tup [.str "put", .str "nobox", .ref au2, .int 0])) au3 = some (.tup [.str "put", .str "nobox", .ref au2, .int 0]) := upd_same
    generalize upd aH2 au3 (.tup [.str "put", .str "nobox", .ref au2, .int 0]) = aH3 at al3 ag3 ⊢
    refine ⟨(by show 2 ≤ sizeLine; decide), fun au4 hau4 => ?_⟩
    have al4 : Rl r aH3 (upd aH3 au4 (.lst [.ref au1, .ref au3])) := Rl.new al3.rl hau4
    have ag4 : (upd aH3 au4 (.lst [.ref au1, .ref au3])) au4 = some (.lst [.ref au1, .ref au3]) := upd_same
    generalize upd aH3 au4 (.lst [.ref au1, .ref au3]) = aH4 at al4 ag4 ⊢
    have at4 := TW.TK.refl aH4
    have at3 := (Rl.tk al3.rl al4).trans at4
    have at2 := (Rl.tk al2.rl al3).trans at3
    have at1 := (Rl.tk al1.rl al2).trans at2
    have ag1 := at1 _ _ ag1
    have ag2 := at2 _ _ ag2
    have ag3 := at3 _ _ ag3
    have abad : ∀ v ∈ ([.ref au1, .ref au3] : List V), BadV bs nds.length aH4 v := (fun v hv => by
      rcases List.mem_cons.mp hv with e | hv
      · rw [e]; exact ⟨.pick "nobox" 0, ⟨au1, rfl, ag1⟩, bad_box nob (fun l hl => List.mem_singleton.mp hl) (fun x hx => by rw [List.mem_singleton.mp hx]; exact ⟨rfl, (show 0 < 20 by decide)⟩) ⟨_, List.mem_cons_self, nok⟩⟩
      · rw [List.mem_singleton.mp hv]; exact ⟨.put "nobox" (.num 1) 0, ⟨_, ⟨au3, rfl, ag3⟩, ⟨au2, rfl, ag2⟩⟩, bad_box nob (fun l hl => List.mem_singleton.mp hl) (fun x hx => by
        rcases List.mem_cons.mp hx with e | hx
        · rw [e]; exact ⟨rfl, (show 0 < 20 by decide)⟩
        · rw [List.mem_singleton.mp hx]; exact ⟨(by show (1 : Int).natAbs < 2 ^ 100; decide), by decide⟩) ⟨_, List.mem_cons_self, nok⟩⟩)
    have aLr : au4 ≠ r := Reel.ne al3.rl hau4
    have kd : Kd r H7 aH4 au4 [.ref au1, .ref au3] bs nds.length 2 := ⟨(((al1.trans al2).trans al3).trans al4), ag4, aLr, Rl.no ((al1.trans al2).trans al3) aLr hau4, abad, Nat.succ_pos _, Nat.le_refl 2⟩
    refine gn_go ?_
    refine kR _ _ ?_
    obtain ⟨vs, evs⟩ : ∃ vs : List V, vs = [.ref au1, .ref au3] := ⟨_, rfl⟩
    rw [← evs] at kd
    clear evs
    obtain ⟨kl, ekl⟩ : ∃ kl, kl = au4 := ⟨_, rfl⟩
    rw [← ekl] at kd
    refine normS [some (.ref r), some (.ref B), some (.ref I), some (.ref N), some (.int wy), some (.int (k1 : Int)), some (.int far), none, none, some (.int bd), some (.ref kl)] (by rw [ekl]; rfl) ?_
    refine cut1 fun Rk kR => ?_
    refine ⟨_, rfl, (by show 2 ≤ sizeLine; decide), fun bu1 hbu1 => ?_⟩
    have bl1 : Rl r aH4 (upd aH4 bu1 (.tup [.str "number", .int 1])) := Rl.new kd.lk.rl hbu1
    have bg1 : (upd aH4 bu1 (.tup [.str "number", .int 1])) bu1 = some (.tup [.str "number", .int 1]) := upd_same
    generalize upd aH4 bu1 (.tup [.str "number", .int 1]) = bH1 at bl1 bg1 ⊢
    refine ⟨(by show 2 ≤ sizeLine; decide), fun bu2 hbu2 => ?_⟩
    have bl2 : Rl r bH1 (upd bH1 bu2 (.tup [.str "box", .str "nobox"])) := Rl.new bl1.rl hbu2
    have bg2 : (upd bH1 bu2 (.tup [.str "box", .str "nobox"])) bu2 = some (.tup [.str "box", .str "nobox"]) := upd_same
    generalize upd bH1 bu2 (.tup [.str "box", .str "nobox"]) = bH2 at bl2 bg2 ⊢
    refine ⟨(by show 3 ≤ sizeLine; decide), fun bu3 hbu3 => ?_⟩
    have bl3 : Rl r bH2 (upd bH2 bu3 (.tup [.str "less", .ref bu1, .ref bu2])) := Rl.new bl2.rl hbu3
    have bg3 : (upd bH2 bu3 (.tup [.str "less", .ref bu1, .ref bu2])) bu3 = some (.tup [.str "less", .ref bu1, .ref bu2]) := upd_same
    generalize upd bH2 bu3 (.tup [.str "less", .ref bu1, .ref bu2]) = bH3 at bl3 bg3 ⊢
    refine ⟨(by show 3 ≤ sizeLine; decide), fun bu4 hbu4 => ?_⟩
    have bl4 : Rl r bH3 (upd bH3 bu4 (.tup [.str "say", .ref bu3, .int 0])) := Rl.new bl3.rl hbu4
    have bg4 : (upd bH3 bu4 (.tup [.str "say", .ref bu3, .int 0])) bu4 = some (.tup [.str "say", .ref bu3, .int 0]) := upd_same
    generalize upd bH3 bu4 (.tup [.str "say", .ref bu3, .int 0]) = bH4 at bl4 bg4 ⊢
    refine ⟨(by show 1 ≤ sizeLine; decide), fun bu5 hbu5 => ?_⟩
    have bl5 : Rl r bH4 (upd bH4 bu5 (.lst [.ref bu4])) := Rl.new bl4.rl hbu5
    have bg5 : (upd bH4 bu5 (.lst [.ref bu4])) bu5 = some (.lst [.ref bu4]) := upd_same
    generalize upd bH4 bu5 (.lst [.ref bu4]) = bH5 at bl5 bg5 ⊢
    have bt5 := TW.TK.refl bH5
    have bt4 := (Rl.tk bl4.rl bl5).trans bt5
    have bt3 := (Rl.tk bl3.rl bl4).trans bt4
    have bt2 := (Rl.tk bl2.rl bl3).trans bt3
    have bt1 := (Rl.tk bl1.rl bl2).trans bt2
    have bg1 := bt1 _ _ bg1
    have bg2 := bt2 _ _ bg2
    have bg3 := bt3 _ _ bg3
    have bg4 := bt4 _ _ bg4
    have bbad : ∀ v ∈ ([.ref bu4] : List V), BadV bs nds.length bH5 v := (fun v hv => by rw [List.mem_singleton.mp hv]; exact ⟨.say (.two .less (.num 1) (.box "box" "nobox")) 0, ⟨_, ⟨bu4, rfl, bg4⟩, ⟨_, _, ⟨bu3, rfl, bg3⟩, ⟨bu1, rfl, bg1⟩, ⟨bu2, rfl, bg2⟩⟩⟩, bad_box nob (fun l hl => List.mem_singleton.mp hl) (fun x hx => by rw [List.mem_singleton.mp hx]; exact ⟨⟨(by show (1 : Int).natAbs < 2 ^ 100; decide), rfl⟩, by decide⟩) ⟨_, List.mem_cons_self, by show (true && bxB bs "box" "nobox") = false; rw [nok]; rfl⟩⟩)
    have bkd := kd.go ((((bl1.trans bl2).trans bl3).trans bl4).trans bl5)
    refine ⟨kl, bu5, _, _, rfl, rfl, bkd.hk, bg5, Nat.le_trans (show _ ≤ 100 by show vs.length + 1 ≤ 100; have := bkd.vl; omega) (by decide), fun bkn hbkn => ?_⟩
    have bke := bkd.cat (k := 1) bbad (Nat.le_refl _) hbkn
    generalize upd bH5 bkn (.lst (vs ++ [.ref bu4])) = bHe at bke ⊢
    generalize vs ++ [.ref bu4] = bvs at bke
    refine gn_go ?_
    refine kR _ _ ?_
    refine normS [some (.ref r), some (.ref B), some (.ref I), some (.ref N), some (.int wy), some (.int (k1 : Int)), some (.int far), none, none, some (.int bd), some (.ref bkn)] rfl ?_
    refine cut1 fun Rk kR => ?_
    refine ⟨_, rfl, (by show 2 ≤ sizeLine; decide), fun cu1 hcu1 => ?_⟩
    have cl1 : Rl r bHe (upd bHe cu1 (.tup [.str "box", .str "nobox"])) := Rl.new bke.lk.rl hcu1
    have cg1 : (upd bHe cu1 (.tup [.str "box", .str "nobox"])) cu1 = some (.tup [.str "box", .str "nobox"]) := upd_same
    generalize upd bHe cu1 (.tup [.str "box", .str "nobox"]) = cH1 at cl1 cg1 ⊢
    refine ⟨(by show 2 ≤ sizeLine; decide), fun cu2 hcu2 => ?_⟩
    have cl2 : Rl r cH1 (upd cH1 cu2 (.tup [.str "number", .int 0])) := Rl.new cl1.rl hcu2
    have cg2 : (upd cH1 cu2 (.tup [.str "number", .int 0])) cu2 = some (.tup [.str "number", .int 0]) := upd_same
    generalize upd cH1 cu2 (.tup [.str "number", .int 0]) = cH2 at cl2 cg2 ⊢
    refine ⟨(by show 3 ≤ sizeLine; decide), fun cu3 hcu3 => ?_⟩
    have cl3 : Rl r cH2 (upd cH2 cu3 (.tup [.str "same", .ref cu1, .ref cu2])) := Rl.new cl2.rl hcu3
    have cg3 : (upd cH2 cu3 (.tup [.str "same", .ref cu1, .ref cu2])) cu3 = some (.tup [.str "same", .ref cu1, .ref cu2]) := upd_same
    generalize upd cH2 cu3 (.tup [.str "same", .ref cu1, .ref cu2]) = cH3 at cl3 cg3 ⊢
    refine ⟨(by show 2 ≤ sizeLine; decide), fun cu4 hcu4 => ?_⟩
    have cl4 : Rl r cH3 (upd cH3 cu4 (.tup [.str "not", .ref cu3])) := Rl.new cl3.rl hcu4
    have cg4 : (upd cH3 cu4 (.tup [.str "not", .ref cu3])) cu4 = some (.tup [.str "not", .ref cu3]) := upd_same
    generalize upd cH3 cu4 (.tup [.str "not", .ref cu3]) = cH4 at cl4 cg4 ⊢
    refine ⟨(by show 4 ≤ sizeLine; decide), fun cu5 hcu5 => ?_⟩
    have cl5 : Rl r cH4 (upd cH4 cu5 (.tup [.str "test", .ref cu4, .int 0, .int 0])) := Rl.new cl4.rl hcu5
    have cg5 : (upd cH4 cu5 (.tup [.str "test", .ref cu4, .int 0, .int 0])) cu5 = some (.tup [.str "test", .ref cu4, .int 0, .int 0]) := upd_same
    generalize upd cH4 cu5 (.tup [.str "test", .ref cu4, .int 0, .int 0]) = cH5 at cl5 cg5 ⊢
    refine ⟨(by show 2 ≤ sizeLine; decide), fun cu6 hcu6 => ?_⟩
    have cl6 : Rl r cH5 (upd cH5 cu6 (.tup [.str "number", .int 1])) := Rl.new cl5.rl hcu6
    have cg6 : (upd cH5 cu6 (.tup [.str "number", .int 1])) cu6 = some (.tup [.str "number", .int 1]) := upd_same
    generalize upd cH5 cu6 (.tup [.str "number", .int 1]) = cH6 at cl6 cg6 ⊢
    refine ⟨_, rfl, (by show 3 ≤ sizeLine; decide), fun cu7 hcu7 => ?_⟩
    have cl7 : Rl r cH6 (upd cH6 cu7 (.tup [.str "say", .ref cu6, .int bd])) := Rl.new cl6.rl hcu7
    have cg7 : (upd cH6 cu7 (.tup [.str "say", .ref cu6, .int bd])) cu7 = some (.tup [.str "say", .ref cu6, .int bd]) := upd_same
    generalize upd cH6 cu7 (.tup [.str "say", .ref cu6, .int bd]) = cH7 at cl7 cg7 ⊢
    refine ⟨(by show 2 ≤ sizeLine; decide), fun cu8 hcu8 => ?_⟩
    have cl8 : Rl r cH7 (upd cH7 cu8 (.lst [.ref cu5, .ref cu7])) := Rl.new cl7.rl hcu8
    have cg8 : (upd cH7 cu8 (.lst [.ref cu5, .ref cu7])) cu8 = some (.lst [.ref cu5, .ref cu7]) := upd_same
    generalize upd cH7 cu8 (.lst [.ref cu5, .ref cu7]) = cH8 at cl8 cg8 ⊢
    have ct8 := TW.TK.refl cH8
    have ct7 := (Rl.tk cl7.rl cl8).trans ct8
    have ct6 := (Rl.tk cl6.rl cl7).trans ct7
    have ct5 := (Rl.tk cl5.rl cl6).trans ct6
    have ct4 := (Rl.tk cl4.rl cl5).trans ct5
    have ct3 := (Rl.tk cl3.rl cl4).trans ct4
    have ct2 := (Rl.tk cl2.rl cl3).trans ct3
    have ct1 := (Rl.tk cl1.rl cl2).trans ct2
    have cg1 := ct1 _ _ cg1
    have cg2 := ct2 _ _ cg2
    have cg3 := ct3 _ _ cg3
    have cg4 := ct4 _ _ cg4
    have cg5 := ct5 _ _ cg5
    have cg6 := ct6 _ _ cg6
    have cg7 := ct7 _ _ cg7
    have cbad : ∀ v ∈ ([.ref cu5, .ref cu7] : List V), BadV bs nds.length cH8 v := (fun v hv => by
      rcases List.mem_cons.mp hv with e | hv
      · rw [e]; exact ⟨.test (.nt (.two .same (.box "box" "nobox") (.num 0))) 0 0, ⟨_, ⟨cu5, rfl, cg5⟩, ⟨_, ⟨cu4, rfl, cg4⟩, ⟨_, _, ⟨cu3, rfl, cg3⟩, ⟨cu1, rfl, cg1⟩, ⟨cu2, rfl, cg2⟩⟩⟩⟩, bad_box nob (fun l hl => (List.mem_cons.mp hl).elim id fun h => List.mem_singleton.mp h) (fun x hx => by rw [List.mem_singleton.mp hx]; exact ⟨⟨rfl, (by show (0 : Int).natAbs < 2 ^ 100; decide)⟩, by decide⟩) ⟨_, List.mem_cons_self, by show (bxB bs "box" "nobox" && true) = false; rw [nok]; rfl⟩⟩
      · rw [List.mem_singleton.mp hv]; exact ⟨.say (.num 1) bd, ⟨_, ⟨cu7, rfl, cg7⟩, ⟨cu6, rfl, cg6⟩⟩, bad_lead bdn bd9 (fun l hl => by rw [List.mem_singleton.mp hl]; exact .inr rfl) List.mem_cons_self (fun x hx => by rw [List.mem_singleton.mp hx]; exact ⟨(by show (1 : Int).natAbs < 2 ^ 100; decide), by decide⟩)⟩)
    have ckd := bke.go (((((((cl1.trans cl2).trans cl3).trans cl4).trans cl5).trans cl6).trans cl7).trans cl8)
    refine ⟨bkn, cu8, _, _, rfl, rfl, ckd.hk, cg8, Nat.le_trans (show _ ≤ 100 by show bvs.length + 2 ≤ 100; have := ckd.vl; omega) (by decide), fun ckn hckn => ?_⟩
    have cke := ckd.cat (k := 2) cbad (Nat.le_refl _) hckn
    generalize upd cH8 ckn (.lst (bvs ++ [.ref cu5, .ref cu7])) = cHe at cke ⊢
    generalize bvs ++ [.ref cu5, .ref cu7] = cvs at cke
    refine gn_go ?_
    refine kR _ _ ?_
    refine normS [some (.ref r), some (.ref B), some (.ref I), some (.ref N), some (.int wy), some (.int (k1 : Int)), some (.int far), none, none, some (.int bd), some (.ref ckn)] rfl ?_
    refine cut1 fun Rk kR => ?_
    refine ⟨_, rfl, (by show 1 ≤ sizeLine; decide), fun du1 hdu1 => ?_⟩
    have dl1 : Rl r cHe (upd cHe du1 (.tup [.str "yes"])) := Rl.new cke.lk.rl hdu1
    have dg1 : (upd cHe du1 (.tup [.str "yes"])) du1 = some (.tup [.str "yes"]) := upd_same
    generalize upd cHe du1 (.tup [.str "yes"]) = dH1 at dl1 dg1 ⊢
    refine ⟨_, rfl, (by show 4 ≤ sizeLine; decide), fun du2 hdu2 => ?_⟩
    have dl2 : Rl r dH1 (upd dH1 du2 (.tup [.str "test", .ref du1, .int bd, .int 0])) := Rl.new dl1.rl hdu2
    have dg2 : (upd dH1 du2 (.tup [.str "test", .ref du1, .int bd, .int 0])) du2 = some (.tup [.str "test", .ref du1, .int bd, .int 0]) := upd_same
    generalize upd dH1 du2 (.tup [.str "test", .ref du1, .int bd, .int 0]) = dH2 at dl2 dg2 ⊢
    refine ⟨(by show 1 ≤ sizeLine; decide), fun du3 hdu3 => ?_⟩
    have dl3 : Rl r dH2 (upd dH2 du3 (.tup [.str "yes"])) := Rl.new dl2.rl hdu3
    have dg3 : (upd dH2 du3 (.tup [.str "yes"])) du3 = some (.tup [.str "yes"]) := upd_same
    generalize upd dH2 du3 (.tup [.str "yes"]) = dH3 at dl3 dg3 ⊢
    refine ⟨_, rfl, (by show 4 ≤ sizeLine; decide), fun du4 hdu4 => ?_⟩
    have dl4 : Rl r dH3 (upd dH3 du4 (.tup [.str "test", .ref du3, .int 0, .int bd])) := Rl.new dl3.rl hdu4
    have dg4 : (upd dH3 du4 (.tup [.str "test", .ref du3, .int 0, .int bd])) du4 = some (.tup [.str "test", .ref du3, .int 0, .int bd]) := upd_same
    generalize upd dH3 du4 (.tup [.str "test", .ref du3, .int 0, .int bd]) = dH4 at dl4 dg4 ⊢
    refine ⟨(by show 2 ≤ sizeLine; decide), fun du5 hdu5 => ?_⟩
    have dl5 : Rl r dH4 (upd dH4 du5 (.lst [.ref du2, .ref du4])) := Rl.new dl4.rl hdu5
    have dg5 : (upd dH4 du5 (.lst [.ref du2, .ref du4])) du5 = some (.lst [.ref du2, .ref du4]) := upd_same
    generalize upd dH4 du5 (.lst [.ref du2, .ref du4]) = dH5 at dl5 dg5 ⊢
    have dt5 := TW.TK.refl dH5
    have dt4 := (Rl.tk dl4.rl dl5).trans dt5
    have dt3 := (Rl.tk dl3.rl dl4).trans dt4
    have dt2 := (Rl.tk dl2.rl dl3).trans dt3
    have dt1 := (Rl.tk dl1.rl dl2).trans dt2
    have dg1 := dt1 _ _ dg1
    have dg2 := dt2 _ _ dg2
    have dg3 := dt3 _ _ dg3
    have dg4 := dt4 _ _ dg4
    have dbad : ∀ v ∈ ([.ref du2, .ref du4] : List V), BadV bs nds.length dH5 v := (fun v hv => by
      rcases List.mem_cons.mp hv with e | hv
      · rw [e]; exact ⟨.test .yes bd 0, ⟨_, ⟨du2, rfl, dg2⟩, ⟨du1, rfl, dg1⟩⟩, bad_lead bdn bd9 (fun l hl => by
        rcases List.mem_cons.mp hl with e | hl
        · rw [e]; exact .inr rfl
        · rw [List.mem_singleton.mp hl]; exact .inl rfl) List.mem_cons_self (fun x hx => by rw [List.mem_singleton.mp hx]; exact ⟨True.intro, by decide⟩)⟩
      · rw [List.mem_singleton.mp hv]; exact ⟨.test .yes 0 bd, ⟨_, ⟨du4, rfl, dg4⟩, ⟨du3, rfl, dg3⟩⟩, bad_lead bdn bd9 (fun l hl => by
        rcases List.mem_cons.mp hl with e | hl
        · rw [e]; exact .inl rfl
        · rw [List.mem_singleton.mp hl]; exact .inr rfl) (List.mem_cons_of_mem _ List.mem_cons_self) (fun x hx => by rw [List.mem_singleton.mp hx]; exact ⟨True.intro, by decide⟩)⟩)
    have dkd := cke.go ((((dl1.trans dl2).trans dl3).trans dl4).trans dl5)
    refine ⟨ckn, du5, _, _, rfl, rfl, dkd.hk, dg5, Nat.le_trans (show _ ≤ 100 by show cvs.length + 2 ≤ 100; have := dkd.vl; omega) (by decide), fun dkn hdkn => ?_⟩
    have dke := dkd.cat (k := 2) dbad (Nat.le_refl _) hdkn
    generalize upd dH5 dkn (.lst (cvs ++ [.ref du2, .ref du4])) = dHe at dke ⊢
    generalize cvs ++ [.ref du2, .ref du4] = dvs at dke
    refine gn_go ?_
    refine kR _ _ ?_
    refine normS [some (.ref r), some (.ref B), some (.ref I), some (.ref N), some (.int wy), some (.int (k1 : Int)), some (.int far), none, none, some (.int bd), some (.ref dkn)] rfl ?_
    refine cut1 fun Rk kR => ?_
    have ptd := pt4.go ne rl4 dke.lk
    refine ⟨_, rfl, (by show 0 ≤ sizeLine; decide), fun z hz => ?_⟩
    have lz : Rl r dHe (upd dHe z (.lst [])) := Rl.new dke.lk.rl hz
    have gz : (upd dHe z (.lst [])) z = some (.lst []) := upd_same
    generalize upd dHe z (.lst []) = Hz at lz gz ⊢
    have kz := dke.go lz
    have ptz := ptd.go ne dke.lk.rl lz
    refine ⟨_, RB.nil (SqL.of ptz.hB) (SqL.of gz), _, rfl, ?_⟩
    suffices hs : ∀ (kl : Addr) (vs : List V) (Hx : Hp), Kd r H7 Hx kl vs bs nds.length 20 → Rk [some (.ref r), some (.ref B), some (.ref I), some (.ref N), some (.int wy), some (.int (k1 : Int)), some (.int far), none, none, some (.int bd), some (.ref kl)] Hx by
      refine ite2 (fun c => ?_) (fun _ => hs dkn dvs Hz ⟨kz.lk, kz.hk, kz.kr, kz.k0, kz.al, kz.v0, Nat.le_trans kz.vl (by decide)⟩)
      have bpos : 0 < vb.length := by
        cases vb with
        | nil => exact absurd c (by decide)
        | cons a l => exact Nat.succ_pos _
      refine cut1 fun Rm kM => ?_
      refine ⟨_, rfl, .inl ⟨rfl, _, SqL.of kz.hk⟩, ?_⟩
      obtain ⟨b0, hb0, pb0, epb, hpb⟩ := Paired.get ptz.pb (List.getElem?_eq_getElem bpos)
      have hbv : vb[0]? = some (.ref pb0) := by rw [List.getElem?_eq_getElem bpos, epb]
      refine ⟨_, rfl, B, _, _, _, rfl, rfl, SqL.of (ptz.hB), atI_nat hbv, pb0, _, _, _, rfl, rfl, SqT.of hpb, rfl, (by show 2 ≤ sizeLine; decide), fun eu1 heu1 => ?_⟩
      have el1 : Rl r Hz (upd Hz eu1 (.tup [.str "number", .int 1])) := Rl.new kz.lk.rl heu1
      have eg1 : (upd Hz eu1 (.tup [.str "number", .int 1])) eu1 = some (.tup [.str "number", .int 1]) := upd_same
      generalize upd Hz eu1 (.tup [.str "number", .int 1]) = eH1 at el1 eg1 ⊢
      refine ⟨(by show 2 ≤ sizeLine; decide), fun eu2 heu2 => ?_⟩
      have el2 : Rl r eH1 (upd eH1 eu2 (.tup [.str "box", .str "nobox"])) := Rl.new el1.rl heu2
      have eg2 : (upd eH1 eu2 (.tup [.str "box", .str "nobox"])) eu2 = some (.tup [.str "box", .str "nobox"]) := upd_same
      generalize upd eH1 eu2 (.tup [.str "box", .str "nobox"]) = eH2 at el2 eg2 ⊢
      refine ⟨(by show 3 ≤ sizeLine; decide), fun eu3 heu3 => ?_⟩
      have el3 : Rl r eH2 (upd eH2 eu3 (.tup [.str "plus", .ref eu1, .ref eu2])) := Rl.new el2.rl heu3
      have eg3 : (upd eH2 eu3 (.tup [.str "plus", .ref eu1, .ref eu2])) eu3 = some (.tup [.str "plus", .ref eu1, .ref eu2]) := upd_same
      generalize upd eH2 eu3 (.tup [.str "plus", .ref eu1, .ref eu2]) = eH3 at el3 eg3 ⊢
      refine ⟨(by show 4 ≤ sizeLine; decide), fun eu4 heu4 => ?_⟩
      have el4 : Rl r eH3 (upd eH3 eu4 (.tup [.str "put", .str b0.1, .ref eu3, .int 0])) := Rl.new el3.rl heu4
      have eg4 : (upd eH3 eu4 (.tup [.str "put", .str b0.1, .ref eu3, .int 0])) eu4 = some (.tup [.str "put", .str b0.1, .ref eu3, .int 0]) := upd_same
      generalize upd eH3 eu4 (.tup [.str "put", .str b0.1, .ref eu3, .int 0]) = eH4 at el4 eg4 ⊢
      have et4 := TW.TK.refl eH4
      have et3 := (Rl.tk el3.rl el4).trans et4
      have et2 := (Rl.tk el2.rl el3).trans et3
      have et1 := (Rl.tk el1.rl el2).trans et2
      have eg1 := et1 _ _ eg1
      have eg2 := et2 _ _ eg2
      have eg3 := et3 _ _ eg3
      have eg4 := et4 _ _ eg4
      have ekd := kz.go (((el1.trans el2).trans el3).trans el4)
      have ebv : BadV bs nds.length eH4 (.ref eu4) := ⟨.put b0.1 (.two .plus (.num 1) (.box "box" "nobox")) 0, ⟨_, ⟨eu4, rfl, eg4⟩, ⟨_, _, ⟨eu3, rfl, eg3⟩, ⟨eu1, rfl, eg1⟩, ⟨eu2, rfl, eg2⟩⟩⟩, bad_box nob (fun l hl => List.mem_singleton.mp hl) (fun x hx => by
        rcases List.mem_cons.mp hx with e | hx
        · rw [e]; exact ⟨rfl, (show 0 < 20 by decide)⟩
        · rw [List.mem_singleton.mp hx]; exact ⟨⟨(by show (1 : Int).natAbs < 2 ^ 100; decide), rfl⟩, by decide⟩) ⟨_, List.mem_cons_of_mem _ List.mem_cons_self, by show (true && bxB bs "box" "nobox") = false; rw [nok]; rfl⟩⟩
      refine ⟨dkn, _, _, rfl, rfl, ekd.hk, small1000 (by have := ekd.vl; omega), ?_⟩
      have eka := ekd.app ebv
      generalize upd eH4 dkn (.lst (dvs ++ [.ref eu4])) = Hf at eka ⊢
      generalize dvs ++ [.ref eu4] = fvs at eka
      refine kM _ _ ?_
      have ptf := pt4.go ne rl4 eka.lk
      obtain ⟨b0, hb0, pb0, epb, hpb⟩ := Paired.get ptf.pb (List.getElem?_eq_getElem bpos)
      have hbv : vb[0]? = some (.ref pb0) := by rw [List.getElem?_eq_getElem bpos, epb]
      obtain ⟨b1, hb1, pb1, epb1, hpb1⟩ := Paired.get ptf.pb (List.getElem?_eq_getElem (show vb.length - 1 < vb.length by omega))
      have hbv1 : atI vb (-1) = some (.ref pb1) := by
        have h1 : vb = vb.dropLast ++ [.ref pb1] := by
          have e := List.dropLast_concat_getLast (l := vb) (fun e => by rw [e] at bpos; cases bpos)
          rw [List.getLast_eq_getElem, epb1] at e
          exact e.symm
        rw [h1]
        exact atI_last _ _
      refine ⟨_, rfl, _, rfl, B, _, _, _, rfl, rfl, SqL.of (ptf.hB), atI_nat hbv, pb0, _, _, _, rfl, rfl, SqT.of hpb, rfl, _, rfl, (by show 3 ≤ sizeLine; decide), fun fu1 hfu1 => ?_⟩
      have fl1 : Rl r Hf (upd Hf fu1 (.tup [.str "pick", .str b0.1, .int bd])) := Rl.new eka.lk.rl hfu1
      have fg1 : (upd Hf fu1 (.tup [.str "pick", .str b0.1, .int bd])) fu1 = some (.tup [.str "pick", .str b0.1, .int bd]) := upd_same
      generalize upd Hf fu1 (.tup [.str "pick", .str b0.1, .int bd]) = fH1 at fl1 fg1 ⊢
      refine ⟨_, rfl, _, rfl, B, _, _, _, rfl, rfl, SqL.of ((ptf.go ne eka.lk.rl fl1).hB), hbv1, pb1, _, _, _, rfl, rfl, SqT.of ((Rl.tk eka.lk.rl fl1) _ _ hpb1), rfl, (by show 2 ≤ sizeLine; decide), fun fu2 hfu2 => ?_⟩
      have fl2 : Rl r fH1 (upd fH1 fu2 (.tup [.str "number", .int 0])) := Rl.new fl1.rl hfu2
      have fg2 : (upd fH1 fu2 (.tup [.str "number", .int 0])) fu2 = some (.tup [.str "number", .int 0]) := upd_same
      generalize upd fH1 fu2 (.tup [.str "number", .int 0]) = fH2 at fl2 fg2 ⊢
      refine ⟨_, rfl, (by show 4 ≤ sizeLine; decide), fun fu3 hfu3 => ?_⟩
      have fl3 : Rl r fH2 (upd fH2 fu3 (.tup [.str "put", .str b1.1, .ref fu2, .int bd])) := Rl.new fl2.rl hfu3
      have fg3 : (upd fH2 fu3 (.tup [.str "put", .str b1.1, .ref fu2, .int bd])) fu3 = some (.tup [.str "put", .str b1.1, .ref fu2, .int bd]) := upd_same
      generalize upd fH2 fu3 (.tup [.str "put", .str b1.1, .ref fu2, .int bd]) = fH3 at fl3 fg3 ⊢
      refine ⟨(by show 2 ≤ sizeLine; decide), fun fu4 hfu4 => ?_⟩
      have fl4 : Rl r fH3 (upd fH3 fu4 (.lst [.ref fu1, .ref fu3])) := Rl.new fl3.rl hfu4
      have fg4 : (upd fH3 fu4 (.lst [.ref fu1, .ref fu3])) fu4 = some (.lst [.ref fu1, .ref fu3]) := upd_same
      generalize upd fH3 fu4 (.lst [.ref fu1, .ref fu3]) = fH4 at fl4 fg4 ⊢
      have ft4 := TW.TK.refl fH4
      have ft3 := (Rl.tk fl3.rl fl4).trans ft4
      have ft2 := (Rl.tk fl2.rl fl3).trans ft3
      have ft1 := (Rl.tk fl1.rl fl2).trans ft2
      have fg1 := ft1 _ _ fg1
      have fg2 := ft2 _ _ fg2
      have fg3 := ft3 _ _ fg3
      have fbad : ∀ v ∈ ([.ref fu1, .ref fu3] : List V), BadV bs nds.length fH4 v := (fun v hv => by
        rcases List.mem_cons.mp hv with e | hv
        · rw [e]; exact ⟨.pick b0.1 bd, ⟨fu1, rfl, fg1⟩, bad_lead bdn bd9 (fun l hl => by rw [List.mem_singleton.mp hl]; exact .inr rfl) List.mem_cons_self (fun x hx => by rw [List.mem_singleton.mp hx]; exact ⟨rfl, (show 0 < 20 by decide)⟩)⟩
        · rw [List.mem_singleton.mp hv]; exact ⟨.put b1.1 (.num 0) bd, ⟨_, ⟨fu3, rfl, fg3⟩, ⟨fu2, rfl, fg2⟩⟩, bad_lead bdn bd9 (fun l hl => by rw [List.mem_singleton.mp hl]; exact .inr rfl) List.mem_cons_self (fun x hx => by
          rcases List.mem_cons.mp hx with e | hx
          · rw [e]; exact ⟨rfl, (show 0 < 20 by decide)⟩
          · rw [List.mem_singleton.mp hx]; exact ⟨(by show (0 : Int).natAbs < 2 ^ 100; decide), by decide⟩)⟩)
      have fkd := eka.go (((fl1.trans fl2).trans fl3).trans fl4)
      refine ⟨dkn, fu4, _, _, rfl, rfl, fkd.hk, fg4, Nat.le_trans (show _ ≤ 100 by show fvs.length + 2 ≤ 100; have := fkd.vl; omega) (by decide), fun fkn hfkn => ?_⟩
      have fke := fkd.cat (k := 2) fbad (Nat.le_refl _) hfkn
      generalize upd fH4 fkn (.lst (fvs ++ [.ref fu1, .ref fu3])) = fHe at fke ⊢
      generalize fvs ++ [.ref fu1, .ref fu3] = fvs at fke
      refine gn_go ?_
      exact hs _ _ _ ⟨fke.lk, fke.hk, fke.kr, fke.k0, fke.al, fke.v0, Nat.le_trans fke.vl (by decide)⟩
    intro kl vs Hx kd
    refine kR _ _ ?_
    have pt9 := pt4.go ne rl4 kd.lk
    refine cut1 fun Rk kR => ?_
    refine ⟨_, rfl, _, _, rfl, rfl, _, rfl, ?_⟩
    refine ite2 (fun _ => ?_) (fun _ => ?_)
    · refine ⟨_, rfl, _, rfl, _, rfl, _, rfl, _, rfl, N, _, rfl, SqL.of pt9.hN, fun pa hpa => ?_⟩
      rw [cut_to vn (by omega)]
      have sa : Same Hx (upd Hx pa (.lst (vn.take k1))) := same_new hpa _
      have ga : (upd Hx pa (.lst (vn.take k1))) pa = some (.lst (vn.take k1)) := upd_same
      generalize upd Hx pa (.lst (vn.take k1)) = Ha at sa ga ⊢
      have rla := kd.lk.rl.same sa
      have kda := kd.go (Rl.of kd.lk.rl sa)
      refine ⟨_, rfl, _, rfl, _, rfl, kl, _, rfl, .inl (SqL.of kda.hk), r, _, rfl, rla, by have := kd.v0; omega, Int.lt_of_le_of_lt (show ((vs.length : Nat) : Int) ≤ 20 by have := kd.vl; omega) (by decide), fun i Hb i0 i1 lb => ?_⟩
      have kdb := kda.go lb
      obtain ⟨v, hat, e, ev, be⟩ := atI_all (P := BadV bs nds.length Hb) (xs := vs) (r := i) i0 i1 kdb.al
      have par : pa ≠ r := kd.lk.rl.ne hpa
      have gab := lb.k _ _ par ga
      have ptb := (pt9.same sa).go ne rla lb
      refine ⟨kl, _, _, _, rfl, rfl, SqL.of kdb.hk, hat, (by show 1 ≤ sizeLine; decide), fun pc hpc => ?_⟩
      have sc : Same Hb (upd Hb pc (.lst [v])) := same_new hpc _
      have gc : (upd Hb pc (.lst [v])) pc = some (.lst [v]) := upd_same
      generalize upd Hb pc (.lst [v]) = Hc at sc gc ⊢
      refine ⟨pa, pc, _, _, rfl, rfl, sc _ _ gab, gc, Nat.le_trans (show _ ≤ 100 by rw [List.length_take]; show _ + 1 ≤ 100; omega) (by decide), fun pd hpd => ?_⟩
      have sd : Same Hc (upd Hc pd (.lst (vn.take k1 ++ [v]))) := same_new hpd _
      have gd : (upd Hc pd (.lst (vn.take k1 ++ [v]))) pd = some (.lst (vn.take k1 ++ [v])) := upd_same
      generalize upd Hc pd (.lst (vn.take k1 ++ [v])) = Hd at sd gd ⊢
      refine ⟨_, rfl, _, rfl, _, _, rfl, rfl, _, rfl, N, _, rfl, SqL.of (sd _ _ (sc _ _ ptb.hN)), fun pe hpe => ?_⟩
      rw [show (k1 : Int) + 1 = ((k1 + 1 : Nat) : Int) by omega, cut_from vn (by omega)]
      have se : Same Hd (upd Hd pe (.lst (vn.drop (k1 + 1)))) := same_new hpe _
      have ge : (upd Hd pe (.lst (vn.drop (k1 + 1)))) pe = some (.lst (vn.drop (k1 + 1))) := upd_same
      generalize upd Hd pe (.lst (vn.drop (k1 + 1))) = He at se ge ⊢
      refine ⟨pd, pe, _, _, rfl, rfl, se _ _ gd, ge, Nat.le_trans (show _ ≤ 100 by rw [List.length_append, List.length_take, List.length_drop]; show _ + 1 + _ ≤ 100; omega) (by decide), fun pf hpf => ⟨(by show 3 ≤ sizeLine; decide), fun p hp => ?_⟩⟩
      have sf : Same He (upd He pf (.lst (vn.take k1 ++ [v] ++ vn.drop (k1 + 1)))) := same_new hpf _
      have scf := same_trans sc (same_trans sd (same_trans se sf))
      have ptg := ptb.same scf
      exact fin _ B I pf vb _ bs ins _ p ⟨ptg.hB, ptg.pb, ptg.hI, upd_same, Paired.put k1 ptg.pn (by omega) (ev.keep (Same.tk scf))⟩ (bent_node gq k1l be) hp
    refine kR _ _ ?_
    refine ⟨_, rfl, _, rfl, (by show 0 ≤ sizeLine; decide), fun pa hpa => ⟨(by show 3 ≤ sizeLine; decide), fun p hp => ?_⟩⟩
    have ptn := pt9.same (same_new hpa (.lst []))
    exact fin _ B I pa vb [] bs ins [] p ⟨ptn.hB, ptn.pb, ptn.hI, upd_same, .nil⟩ (bent_none gq) hp
theorem has_bent (s : Src K mg "_law_bent" sBent) (m_len : mg "len" = none) (m_min : mg "min" = none) (TK : Has P w K mg base "_law_take" ["reel", "many"] 1 spTake) : Has P w K mg base "_law_bent" ["reel", "boxes", "inputs", "nodes"] 2 spBent :=
  let ⟨f, fd, F, m⟩ := s
  ⟨f, fd, ok_bent F m_len m_min TK, F.kp, bnd4 F fun _ _ _ _ _ _ _ _ _ _ => rfl, m⟩
end
end TW
set_option Elab.async false
set_option linter.all false
set_option maxRecDepth 100000
set_option exponentiation.threshold 4000
set_option maxHeartbeats 1000000
namespace TW
open PySem L2
section
variable {P : Program} {w : World} {K : PySem.W.Frag} {mg : Str → Option Value} {base : Heap}
/-! ### the law -/
abbrev sLaw : Stmt := top 39
def spLaw (K : PySem.W.Frag) : Sp := fun vs H Q _ => ∃ (a : Addr) (ns : List Int), vs = [.ref a] ∧ SqL K H a (ns.map V.int) ∧ ns.length ≤ 63 ∧ ∀ H', Q (.bl true) H'
theorem cells_of (sc : List Int) : ∃ cs : List Int, cutV (sc.map V.int) (some 1) (some 41) = cs.map V.int ∧ cs.length ≤ 40 := by
  have e1 : HT.sIx (sc.map V.int).length 0 (some ((1 : Nat) : Int)) = min 1 (sc.map V.int).length := HT.sIx_nat _ _ _
  have e2 : HT.sIx (sc.map V.int).length (sc.map V.int).length (some ((41 : Nat) : Int)) = min 41 (sc.map V.int).length := HT.sIx_nat _ _ _
  refine ⟨(sc.drop (HT.sIx (sc.map V.int).length 0 (some ((1 : Nat) : Int)))).take (HT.sIx (sc.map V.int).length (sc.map V.int).length (some ((41 : Nat) : Int)) - HT.sIx (sc.map V.int).length 0 (some ((1 : Nat) : Int))), ?_, ?_⟩
  · rw [List.map_take, List.map_drop]
    rfl
  · rw [List.length_take, List.length_drop, e1, e2, List.length_map]
    omega
theorem Rl.since {r : Addr} {H0 H H' : Hp} (h0 : H0 r = none) (s : Same H0 H) (l : Rl r H H') : Same H0 H' := fun b o h => l.k b o (ne_of_none h h0) (s b o h)
section
variable {H : Hp} {n : Nat}
theorem Al.str {x : Str} : Al H (n + 1) (.str x) (.str x) := .inr (.inl ⟨x, rfl, rfl⟩)
theorem Al.int {x : Int} : Al H (n + 1) (.int x) (.int x) := .inl ⟨x, rfl, rfl⟩
theorem Al.tup {a b : Addr} {xs ys : List V} (ha : H a = some (.tup xs)) (hb : H b = some (.tup ys)) (hl : xs.length = ys.length) (h9 : xs.length ≤ 900) (h : ∀ (i : Nat) (x y : V), xs[i]? = some x → ys[i]? = some y → Al H n x y) : Al H (n + 1) (.ref a) (.ref b) := .inr (.inr ⟨a, b, xs, ys, rfl, rfl, .inr ⟨ha, hb⟩, hl, h9, h⟩)
theorem Al.lst {a b : Addr} {xs : List V} (ha : H a = some (.lst xs)) (hb : H b = some (.lst xs)) (h9 : xs.length ≤ 900) (h : ∀ x ∈ xs, Al H n x x) : Al H (n + 1) (.ref a) (.ref b) := .inr (.inr ⟨a, b, xs, xs, rfl, rfl, .inl ⟨ha, hb⟩, rfl, h9, fun i x y h1 h2 => by
  rw [h1] at h2
  cases h2
  exact h x (List.mem_of_getElem? h1)⟩)
theorem Al.tp {v : V} {xs : List V} (hv : Tp H v xs) (h9 : xs.length ≤ 900) (h : ∀ x ∈ xs, Al H n x x) : Al H (n + 1) v v := by
  obtain ⟨p, rfl, hp⟩ := hv
  refine Al.tup hp hp rfl h9 fun i x y h1 h2 => ?_
  rw [h1] at h2
  cases h2
  exact h x (List.mem_of_getElem? h1)
end
theorem all1 {α : Type} {P : α → Prop} {a : α} (h : P a) : ∀ x ∈ [a], P x := fun x hx => by rw [List.mem_singleton.mp hx]; exact h
theorem allC {α : Type} {P : α → Prop} {a : α} {l : List α} (h : P a) (t : ∀ x ∈ l, P x) : ∀ x ∈ a :: l, P x := fun x hx => by
  rcases List.mem_cons.mp hx with e | e
  · rw [e]; exact h
  · exact t x e
theorem al_E {H : Hp} : ∀ {e : E} {v : V} {n : Nat}, EAt H v e → e.dep + 2 ≤ n → Al H n v v
  | .num i, v, n + 2, h, _ => Al.tp h (show 2 ≤ 900 by decide) (allC Al.str (all1 Al.int))
  | .box s x, v, n + 2, h, _ => Al.tp h (show 2 ≤ 900 by decide) (allC Al.str (all1 Al.str))
  | .yes, v, n + 2, h, _ => Al.tp h (show 1 ≤ 900 by decide) (all1 Al.str)
  | .nt a, v, n + 2, ⟨x, h, ha⟩, hn => Al.tp h (show 2 ≤ 900 by decide) (allC Al.str (all1 (al_E ha (by have : a.dep + 1 + 2 ≤ n + 2 := hn; omega))))
  | .two k a b, v, n + 2, ⟨x, y, h, ha, hb⟩, hn => Al.tp h (show 3 ≤ 900 by decide) (allC Al.str (allC (al_E ha (by have : max a.dep b.dep + 1 + 2 ≤ n + 2 := hn; omega)) (all1 (al_E hb (by have : max a.dep b.dep + 1 + 2 ≤ n + 2 := hn; omega)))))
theorem al_N {H : Hp} : ∀ {e : Np} {v : V}, NpAt H v e → (∀ x ∈ e.tolds, x.dep < 20) → Al H 22 v v
  | .put x s i, v, ⟨u, h, hu⟩, d => Al.tp h (show 4 ≤ 900 by decide) (allC Al.str (allC Al.str (allC (al_E hu (by have := d s (List.mem_cons_of_mem _ List.mem_cons_self); omega)) (all1 Al.int))))
  | .say s i, v, ⟨u, h, hu⟩, d => Al.tp h (show 3 ≤ 900 by decide) (allC Al.str (allC (al_E hu (by have := d s List.mem_cons_self; omega)) (all1 Al.int)))
  | .test c i j, v, ⟨u, h, hu⟩, d => Al.tp h (show 4 ≤ 900 by decide) (allC Al.str (allC (al_E hu (by have := d c List.mem_cons_self; omega)) (allC Al.int (all1 Al.int))))
  | .pick x i, v, h, _ => Al.tp h (show 3 ≤ 900 by decide) (allC Al.str (allC Al.str (all1 Al.int)))
  | .fin, v, h, _ => Al.tp h (show 1 ≤ 900 by decide) (all1 Al.str)
theorem al_three {H : Hp} {p p' B I N B' I' N' : Addr} {vb vn : List V} {bs : List (Str × Int)} {ins : List Str} {nds : List Np} (pt : Pt3 H B I N vb vn bs ins nds) (ak : AskR bs ins nds) (hp' : H p' = some (.tup [.ref B, .ref I, .ref N])) (hp : H p = some (.tup [.ref B', .ref I', .ref N'])) (hB : H B' = some (.lst vb)) (hI : H I' = some (.lst (ins.map V.str))) (hN : H N' = some (.lst vn)) : Al H 24 (.ref p) (.ref p') := by
  have b9 := ak.b9
  have n9 := ak.n9
  have lb := Paired.length pt.pb
  have ln := Paired.length pt.pn
  refine Al.tup hp hp' rfl (show 3 ≤ 900 by decide) fun i x y h1 h2 => ?_
  match i, h1, h2 with
  | 0, h1, h2 =>
    cases h1; cases h2
    refine Al.lst hB pt.hB (by omega) fun v hv => ?_
    obtain ⟨j, hj, rfl⟩ := List.getElem_of_mem hv
    obtain ⟨b, _, hb⟩ := Paired.get pt.pb (List.getElem?_eq_getElem hj)
    exact Al.tp hb (show 2 ≤ 900 by decide) (allC Al.str (all1 Al.int))
  | 1, h1, h2 =>
    cases h1; cases h2
    refine Al.lst hI pt.hI (by rw [List.length_map]; exact ak.i9) fun v hv => ?_
    obtain ⟨x, _, rfl⟩ := List.mem_map.mp hv
    exact Al.str
  | 2, h1, h2 =>
    cases h1; cases h2
    refine Al.lst hN pt.hN (by omega) fun v hv => ?_
    obtain ⟨j, hj, rfl⟩ := List.getElem_of_mem hv
    obtain ⟨e, he, hn⟩ := Paired.get pt.pn (List.getElem?_eq_getElem hj)
    exact al_N hn fun x hx => (ak.td e (List.mem_of_getElem? he) x hx).2
theorem scLaw : FnScope ["script", "reel", "names", "boxes", "inputs", "cells", "nodes", "bent", "three", "handed", "turn", "found"] ["script"] (defScope sLaw) := ⟨rfl, rfl, rfl, by decide +kernel, rfl, by decide +kernel, by decide +kernel⟩
theorem gLaw_law_alike : (defScope sLaw).names.lookup (Str.ofString "_law_alike") = some .globalImplicit := by decide +kernel
theorem gLaw_law_bent : (defScope sLaw).names.lookup (Str.ofString "_law_bent") = some .globalImplicit := by decide +kernel
theorem gLaw_law_boxes : (defScope sLaw).names.lookup (Str.ofString "_law_boxes") = some .globalImplicit := by decide +kernel
theorem gLaw_law_cell_at : (defScope sLaw).names.lookup (Str.ofString "_law_cell_at") = some .globalImplicit := by decide +kernel
theorem gLaw_law_is_refusal : (defScope sLaw).names.lookup (Str.ofString "_law_is_refusal") = some .globalImplicit := by decide +kernel
theorem gLaw_law_names : (defScope sLaw).names.lookup (Str.ofString "_law_names") = some .globalImplicit := by decide +kernel
theorem gLaw_law_reel : (defScope sLaw).names.lookup (Str.ofString "_law_reel") = some .globalImplicit := by decide +kernel
theorem gLaw_law_take : (defScope sLaw).names.lookup (Str.ofString "_law_take") = some .globalImplicit := by decide +kernel
theorem gLaw_law_told : (defScope sLaw).names.lookup (Str.ofString "_law_told") = some .globalImplicit := by decide +kernel
theorem gLaw_list : (defScope sLaw).names.lookup (Str.ofString "list") = some .globalImplicit := by decide +kernel
theorem gLaw_range : (defScope sLaw).names.lookup (Str.ofString "range") = some .globalImplicit := by decide +kernel
theorem ok_law {C : Addr} {f : Addr} {fd : FuncData} (F : Fun K "law" "law" sLaw f fd) (m_len : mg "len" = none) (m_range : mg "range" = none) (m_list : mg "list" = none) (CE : Has P w K mg base "_law_cell_at" ["script", "k"] 64 (spCell K)) (RE : Has P w K mg base "_law_reel" ["cell"] 64 spReel) (TK : Has P w K mg base "_law_take" ["reel", "many"] 64 spTake) (NS : Has P w K mg base "_law_names" ["reel", "many"] 64 spNames) (BX : Has P w K mg base "_law_boxes" ["reel", "names", "room"] 64 spBoxes) (NO : Has P w K mg base "_law_node" ["reel", "names", "many", "picks"] 64 spNode) (BE : Has P w K mg base "_law_bent" ["reel", "boxes", "inputs", "nodes"] 64 spBent) (TO : Has P w K mg base "_law_told" ["boxes", "inputs", "nodes"] 64 (spTold C)) (IR : Has P w K mg base "_law_is_refusal" ["found"] 64 (spIsR C)) (AL : Has P w K mg base "_law_alike" ["found", "due"] 64 (spAlk 24)) : FnOk P w K mg base CX0 65 f fd ["script"] (spLaw K) := by
  refine F.ok scLaw (fun vs H Q E h => ?_) (fun cdv A outer s H vs Q E hRm h => ?_)
  · obtain ⟨a, ns, rfl, _⟩ := h
    rfl
  · obtain ⟨a, sc, rfl, hS, h63, q⟩ := h
    refine goL ⟨_, (L3.cons (L3.set 1 scLaw.nd (L3.own RE hRm gLaw_law_reel (L3.k (L3.own CE hRm gLaw_law_cell_at (L3.k (L3.v 0) (L3.k L3.int L3.n))) L3.n)))
      (L3.cons (L3.set 2 scLaw.nd (L3.own NS hRm gLaw_law_names (L3.k (L3.v 1) (L3.k (L3.own TK hRm gLaw_law_take (L3.k (L3.v 1) (L3.k L3.int L3.n))) L3.n))))
      (L3.cons (L3.asg (L3.own BX hRm gLaw_law_boxes (L3.k (L3.v 1) (L3.k (L3.v 2) (L3.k (L3.op L3.o_pow L3.int L3.int) L3.n)))) (L3.gtup 2 (L3.gsk (L3.gn 3 scLaw.nd) (L3.gsk (L3.gn 4 scLaw.nd) L3.gsn))))
      (L3.cons (L3.set 5 scLaw.nd (L3.slL12 (L3.v 0) L3.int L3.int))
      (L3.cons (L3.ifs (L3.cmp (L3.o_eqD (m := 2) (up_ne hRm _ (by decide))) (L3.v 5) (L3.lst L3.n)) (L3.one (L3.set 5 scLaw.nd (L3.lst (L3.k L3.int L3.n)))) L3.nil)
      (L3.cons (L3.slc (i := 6) [none, some 2, some 5] ["cell", "names", "cells"] (show CompScope _ (defScope sLaw) from ⟨rfl, by decide +kernel, by decide +kernel, by decide +kernel⟩) (by rfl) (L3.iL (L3.v 5)) (fun _ _ _ _ _ => ⟨(L3.gn 0 (show (["cell", "names", "cells"] : List Str).Nodup from by decide +kernel)), L3.if0, (L3.own NO hRm (by rfl) (L3.k (L3.own RE hRm (by rfl) (L3.k (L3.v 0) L3.n)) (L3.k (L3.v 1) (L3.k (L3.callB L3.c_len (by rfl) m_len PySem.boot_len (L3.k (L3.v 2) L3.n)) (L3.k L3.bl L3.n)))))⟩) scLaw.nd)
      (L3.cons (L3.set 7 scLaw.nd (L3.cmpE L3.o_gt (L3.own TK hRm gLaw_law_take (L3.k (L3.v 1) (L3.k L3.int L3.n))) L3.int))
      (L3.cons (L3.set 8 scLaw.nd (L3.tup (L3.k (L3.v 3) (L3.k (L3.v 4) (L3.k (L3.v 6) L3.n)))))
      (L3.cons (L3.ifs (L3.tval (L3.v 7)) (L3.one (L3.set 8 scLaw.nd (L3.own BE hRm gLaw_law_bent (L3.k (L3.v 1) (L3.k (L3.v 3) (L3.k (L3.v 4) (L3.k (L3.v 6) L3.n))))))) L3.nil)
      (L3.cons (L3.set 9 scLaw.nd (L3.tup (L3.k (L3.callT L3.c_list gLaw_list m_list (by decide +kernel) (L3.k (L3.ix L3.ixT (L3.v 8) L3.int) L3.n)) (L3.k (L3.callT L3.c_list gLaw_list m_list (by decide +kernel) (L3.k (L3.ix L3.ixT (L3.v 8) L3.int) L3.n)) (L3.k (L3.callT L3.c_list gLaw_list m_list (by decide +kernel) (L3.k (L3.ix L3.ixT (L3.v 8) L3.int) L3.n)) L3.n)))))
      (L3.cons (L3.for_ (L3.iR gLaw_range m_range (L3.k L3.int L3.n)) (L3.gn 10 scLaw.nd) (L3.cons (L3.set 11 scLaw.nd (L3.own TO hRm gLaw_law_told (L3.k (L3.ix L3.ixT (L3.v 9) L3.int) (L3.k (L3.ix L3.ixT (L3.v 9) L3.int) (L3.k (L3.ix L3.ixT (L3.v 9) L3.int) L3.n)))))
      (L3.cons (L3.ifs (L3.tw (L3.or2 (L3.cmp L3.o_ne (L3.v 7) (L3.own IR hRm gLaw_law_is_refusal (L3.k (L3.v 11) L3.n))) (L3.or1 (L3.nt (L3.tval (L3.own AL hRm gLaw_law_alike (L3.k (L3.v 9) (L3.k (L3.v 8) L3.n)))))))) (L3.one (L3.ret L3.bl)) L3.nil)
      (L3.one (L3.ifs (L3.nt (L3.tval (L3.v 7))) (L3.cons (L3.ifs (L3.nt (L3.tval (L3.own AL hRm gLaw_law_alike (L3.k (L3.v 11) (L3.k (L3.v 8) L3.n))))) (L3.one (L3.ret L3.bl)) L3.nil)
      (L3.cons (L3.ex (L3.append (L3.ix L3.ixT (L3.v 11) L3.int) (L3.k (L3.tup (L3.k L3.str (L3.k L3.int L3.n))) L3.n)))
      (L3.cons (L3.ex (L3.append (L3.ix L3.ixT (L3.v 11) L3.int) (L3.k L3.str L3.n)))
      (L3.one (L3.ex (L3.append (L3.ix L3.ixT (L3.v 11) L3.int) (L3.k (L3.tup (L3.k L3.str L3.n)) L3.n))))))) L3.nil)))))
      (L3.one (L3.ret L3.bl))))))))))))), ?_⟩
    refine cut3 fun Rk kR => ?_
    refine ⟨_, rfl, a, sc, 0, rfl, hS, by decide, fun c => ⟨c, rfl, fun r a0 b0 hr b00 b01 => ?_⟩⟩
    have rl1 : Reel (upd H r (.lst [.int a0, .int b0])) r := ⟨a0, b0, upd_same, b00, b01⟩
    have s1 := same_new hr (.lst [.int a0, .int b0])
    generalize upd H r (.lst [.int a0, .int b0]) = H1 at rl1 s1 ⊢
    refine gn_go ?_
    refine ⟨_, rfl, _, rfl, r, 5, rfl, rl1, by decide, by decide, fun m H2 m0 m1 l2 => ⟨r, m, rfl, l2.rl, m0, by omega, fun nl ns H3 l3 nlr nl0 hnl nok => ?_⟩⟩
    refine gn_go ?_
    refine ⟨_, rfl, _, rfl, _, _, rfl, rfl, ⟨by decide, by decide, by decide⟩, r, nl, _, ns, rfl, ⟨l3.rl, nlr, hnl, nok.l4⟩, nok.nd, by decide, by decide, fun pbx B I vb bs ins H4 l4 hpbx bx bi => ?_⟩
    refine ⟨pbx, _, rfl, SqT.of hpbx, rfl, _, _, rfl, _, _, rfl, rfl, ?_⟩
    refine kR _ _ ?_
    refine normS [some (.ref a), some (.ref r), some (.ref nl), some (.ref B), some (.ref I), none, none, none, none, none, none, none] rfl ?_
    have l14 := l2.trans (l3.trans l4)
    have s4 := Rl.since hr s1 l14
    have hnl4 := l4.k _ _ nlr hnl
    have rl4 := l4.rl
    clear hpbx l2 l3 l4 l14 m0 m1 s1 rl1 hnl
    refine cut2 fun Rk kR => ?_
    suffices hs : ∀ (cl : Addr) (cs : List Int) (H5 : Hp), Same H4 H5 → H5 cl = some (.lst (cs.map V.int)) → 1 ≤ cs.length → cs.length ≤ 40 → Rk [some (.ref a), some (.ref r), some (.ref nl), some (.ref B), some (.ref I), some (.ref cl), none, none, none, none, none, none] H5 by
      obtain ⟨cs, ecs, c40⟩ := cells_of sc
      refine ⟨_, rfl, _, rfl, _, rfl, a, _, rfl, Same.seq s4 hS, fun cl hcl => ?_⟩
      rw [ecs]
      have sc1 : Same H4 (upd H4 cl (.lst (cs.map V.int))) := same_new hcl _
      have gc : (upd H4 cl (.lst (cs.map V.int))) cl = some (.lst (cs.map V.int)) := upd_same
      generalize upd H4 cl (.lst (cs.map V.int)) = Hc at sc1 gc ⊢
      refine gn_go ?_
      refine ⟨_, rfl, (by show 0 ≤ sizeLine; decide), fun z hz => ?_⟩
      have sz : Same Hc (upd Hc z (.lst [])) := same_new hz _
      have gz : (upd Hc z (.lst [])) z = some (.lst []) := upd_same
      generalize upd Hc z (.lst []) = Hz at sz gz ⊢
      refine ⟨_, RB.nil (SqL.of (sz _ _ gc)) (SqL.of gz), _, rfl, ?_⟩
      refine ite2 (fun _ => ?_) (fun cc => ?_)
      · refine ⟨(by show 1 ≤ sizeLine; decide), fun c2 hc2 => ?_⟩
        refine gn_go ?_
        exact hs c2 [0] _ (same_add (same_trans sc1 sz) hc2) upd_same (by decide) (by decide)
      · refine hs cl cs Hz (same_trans sc1 sz) (sz _ _ gc) ?_ c40
        cases cs with
        | nil => exact absurd rfl cc
        | cons x l => exact Nat.succ_pos _
    intro cl cs H5 s5 hcl c1 c40
    refine kR _ _ ?_
    have hnl5 := s5 _ _ hnl4
    have rl5 := rl4.same s5
    refine cut1 fun Rk kR => ?_
    refine ⟨_, rfl, cl, rfl, ⟨_, SqL.of hcl⟩, fun N hN0 => ?_⟩
    have nNr : N ≠ r := rl5.ne hN0
    refine comp_list (xs := cs.map V.int) (fun i Hx => Same H5 Hx ∧ ∃ (vs : List V) (es : List Np), Hx N = some (.lst vs) ∧ Paired (NpAt Hx) vs es ∧ es.length = i ∧ ∀ e ∈ es, NpOk ns (cs.length : Int) e) ⟨same_new hN0 _, [], [], upd_same, .nil, rfl, fun e he => nomatch he⟩ (fun i Hx _ z => SqL.of (z.1 _ _ hcl)) (fun i x Hx hx z => ?_) (fun Hx z => ?_)
    · obtain ⟨sx, vs, es, hvs, pvs, el, eo⟩ := z
      obtain ⟨c, hci, rfl⟩ := map_get hx
      have hil : i < (cs.map V.int).length := (List.getElem?_eq_some_iff.mp hx).1
      have vl := Paired.length pvs
      rw [List.length_map] at hil
      refine gn_go ?_
      refine turn0 (A := fun H3 => mApp _ N _ H3 _) ?_
      refine ⟨_, rfl, c, rfl, fun r1 a1 b1 hr1 b10 b11 => ?_⟩
      have rlx : Reel (upd Hx r1 (.lst [.int a1, .int b1])) r1 := ⟨a1, b1, upd_same, b10, b11⟩
      have sy := same_new hr1 (.lst [.int a1, .int b1])
      generalize upd Hx r1 (.lst [.int a1, .int b1]) = Hy at rlx sy ⊢
      have nNr1 : N ≠ r1 := ne_of_none hvs hr1
      have sxy := same_trans sx sy
      have hnly := sxy _ _ hnl5
      refine ⟨_, rfl, _, rfl, cl, _, rfl, .inl (SqL.of (sxy _ _ hcl)), r1, nl, _, ns, rfl, ⟨rlx, ne_of_none (sx _ _ hnl5) hr1, hnly, nok.l4⟩, by rw [List.length_map]; omega, by rw [List.length_map]; omega, fun v e Hw lw hv hok => ?_⟩
      rw [List.length_map] at hok
      have sw : Same Hx Hw := Rl.since hr1 sy lw
      have gN := sw _ _ hvs
      refine ⟨vs, gN, small1000 (by omega), comp_end (Pv := fun i Hx => Same H5 Hx ∧ ∃ (vs : List V) (es : List Np), Hx N = some (.lst vs) ∧ Paired (NpAt Hx) vs es ∧ es.length = i ∧ ∀ e ∈ es, NpOk ns (cs.length : Int) e) (by repeat' constructor) (by rw [List.length_map]; exact hil) ⟨same_put (same_trans sx sw) hN0, vs ++ [v], es ++ [e], upd_same, ?_, by rw [List.length_append, el]; rfl, fun d hd => ?_⟩⟩
      · exact Paired.snoc (Paired.mapP pvs fun _ _ h => NpAt.keep ((Same.tk sw).trans (TW.TK.lst gN)) h) (NpAt.keep (TW.TK.lst gN) hv)
      · rcases List.mem_append.mp hd with hd | hd
        · exact eo d hd
        · rw [List.mem_singleton.mp hd]; exact hok
    obtain ⟨sx, vn, nds, hN, pn, el, eo⟩ := z
    rw [List.length_map] at el
    refine gn_go ?_
    refine kR _ _ ?_
    refine normS [some (.ref a), some (.ref r), some (.ref nl), some (.ref B), some (.ref I), some (.ref cl), some (.ref N), none, none, none, none, none] rfl ?_
    have s45 := same_trans s5 sx
    have gq : GoodQ ns bs ins nds := ⟨nok, bi, by omega, by omega, fun e he => by rw [el]; exact eo e he⟩
    have pt : Pt3 Hx B I N vb vn bs ins nds := ⟨s45 _ _ bx.hB, Paired.mapP bx.pb fun _ _ z => Tp.keep (Same.tk s45) z, s45 _ _ bx.hI, hN, pn⟩
    have rlx := rl4.same s45
    have ne : B ≠ r ∧ I ≠ r ∧ N ≠ r := ⟨bx.nB, bx.nI, nNr⟩
    clear hN pn eo sx s45 s5 hnl4 hnl5 rl4 rl5 bx hcl hN0 s4
    refine cut1 fun Rk kR => ?_
    refine ⟨_, rfl, r, 4, rfl, rlx, by decide, by decide, fun k H6 k0 k4 l6 => ⟨_, _, rfl, rfl, ?_⟩⟩
    refine gn_go ?_
    refine kR _ _ ?_
    obtain ⟨bt, ebt⟩ : ∃ bt, bt = decide (k > 0) := ⟨_, rfl⟩
    refine normS [some (.ref a), some (.ref r), some (.ref nl), some (.ref B), some (.ref I), some (.ref cl), some (.ref N), some (.bl bt), none, none, none, none] (by rw [ebt]; rfl) ?_
    clear ebt
    have pt6 := pt.go ne rlx l6
    refine cut2 fun Rk kR => ?_
    suffices hs : ∀ (p3 B' I' N' : Addr) (vb vn : List V) (bs : List (Str × Int)) (ins : List Str) (nds : List Np) (H8 : Hp), H8 p3 = some (.tup [.ref B', .ref I', .ref N']) → Pt3 H8 B' I' N' vb vn bs ins nds → AskR bs ins nds → (bt = true ∧ ¬ ProgG bs ins nds ∨ bt = false ∧ ProgG bs ins nds) → Rk [some (.ref a), some (.ref r), some (.ref nl), some (.ref B), some (.ref I), some (.ref cl), some (.ref N), some (.bl bt), some (.ref p3), none, none, none] H8 by
      refine ⟨_, rfl, _, rfl, _, rfl, (by show 3 ≤ sizeLine; decide), fun p3 hp3 => ?_⟩
      have l7 : Rl r H6 (upd H6 p3 (.tup [.ref B, .ref I, .ref N])) := Rl.new l6.rl hp3
      have g7 : (upd H6 p3 (.tup [.ref B, .ref I, .ref N])) p3 = some (.tup [.ref B, .ref I, .ref N]) := upd_same
      generalize upd H6 p3 (.tup [.ref B, .ref I, .ref N]) = H7 at l7 g7 ⊢
      have pt7 := pt6.go ne l6.rl l7
      refine gn_go ?_
      refine ⟨_, rfl, _, rfl, ?_⟩
      refine ite2 (fun hb => ?_) (fun hb => ?_)
      · refine ⟨_, rfl, _, rfl, _, rfl, _, rfl, r, B, I, N, vb, vn, ns, bs, ins, nds, rfl, l7.rl, pt7, ne, gq, fun p B' I' N' vb' vn' bs' ins' nds' H' hp pt' ak no => ?_⟩
        refine gn_go ?_
        exact hs p B' I' N' vb' vn' bs' ins' nds' H' hp pt' ak (.inl ⟨hb, no⟩)
      · exact hs p3 B I N vb vn bs ins nds H7 g7 pt7 gq.ask (.inr ⟨by simpa using hb, gq.prog⟩)
    intro p3 B3 I3 N3 vb vn bs ins nds H8 hp3 pt ak hbt
    refine kR _ _ ?_
    clear gq pt6 rlx ne l6 k0 k4 el c1 c40 nNr
    have b9 := ak.b9
    have i9 := ak.i9
    have n9 := ak.n9
    have lb := Paired.length pt.pb
    have ln := Paired.length pt.pn
    refine cut1 fun Rk kR => ?_
    refine ⟨_, rfl, p3, _, _, _, rfl, rfl, SqT.of hp3, rfl, B3, _, rfl, .inl (SqL.of pt.hB), fun B4 hB4 => ?_⟩
    have sa : Same H8 (upd H8 B4 (.lst vb)) := same_new hB4 _
    have ga : (upd H8 B4 (.lst vb)) B4 = some (.lst vb) := upd_same
    generalize upd H8 B4 (.lst vb) = Ha at sa ga ⊢
    refine ⟨_, rfl, p3, _, _, _, rfl, rfl, SqT.of (sa _ _ hp3), rfl, I3, _, rfl, .inl (SqL.of (sa _ _ pt.hI)), fun I4 hI4 => ?_⟩
    have sb : Same Ha (upd Ha I4 (.lst (ins.map V.str))) := same_new hI4 _
    have gb : (upd Ha I4 (.lst (ins.map V.str))) I4 = some (.lst (ins.map V.str)) := upd_same
    generalize upd Ha I4 (.lst (ins.map V.str)) = Hb at sb gb ⊢
    have sab := same_trans sa sb
    refine ⟨_, rfl, p3, _, _, _, rfl, rfl, SqT.of (sab _ _ hp3), rfl, N3, _, rfl, .inl (SqL.of (sab _ _ pt.hN)), fun N4 hN4 => ?_⟩
    have sc2 : Same Hb (upd Hb N4 (.lst vn)) := same_new hN4 _
    have gc : (upd Hb N4 (.lst vn)) N4 = some (.lst vn) := upd_same
    generalize upd Hb N4 (.lst vn) = Hc at sc2 gc ⊢
    refine ⟨(by show 3 ≤ sizeLine; decide), fun hd hhd => ?_⟩
    have sd : Same Hc (upd Hc hd (.tup [.ref B4, .ref I4, .ref N4])) := same_new hhd _
    have gd : (upd Hc hd (.tup [.ref B4, .ref I4, .ref N4])) hd = some (.tup [.ref B4, .ref I4, .ref N4]) := upd_same
    generalize upd Hc hd (.tup [.ref B4, .ref I4, .ref N4]) = Hd at sd gd ⊢
    have sd8 := same_trans sab (same_trans sc2 sd)
    have pt9 := pt.same sd8
    have gp3 := sd8 _ _ hp3
    have gB := sd _ _ (sc2 _ _ (sb _ _ ga))
    have gI := sd _ _ (sc2 _ _ gb)
    have gN := sd _ _ gc
    refine gn_go ?_
    refine kR _ _ ?_
    refine normS [some (.ref a), some (.ref r), some (.ref nl), some (.ref B), some (.ref I), some (.ref cl), some (.ref N), some (.bl bt), some (.ref p3), some (.ref hd), none, none] rfl ?_
    clear hB4 hI4 hN4 hhd sa sb sc2 sd sab sd8 ga gb gc hp3 pt
    refine cut1 fun Rk kR => ?_
    refine ⟨_, rfl, by decide, by decide, ?_⟩
    refine for_range (lo := 0) (n := (2 : Int).toNat) (fun i σ Hx => (∃ o1 o2, σ = [some (.ref a), some (.ref r), some (.ref nl), some (.ref B), some (.ref I), some (.ref cl), some (.ref N), some (.bl bt), some (.ref p3), some (.ref hd), o1, o2]) ∧ Same Hd Hx) ⟨⟨_, _, rfl⟩, same_refl _⟩ (fun i σ Hx hi z => ?_) (fun σ Hx z => ?_)
    · obtain ⟨⟨o1, o2, rfl⟩, sx⟩ := z
      refine gn_go ?_
      have hdx := sx _ _ gd
      have ptx := pt9.same sx
      have askx : AskP Hx B4 I4 N4 vb vn bs ins nds := ⟨sx _ _ gB, ptx.pb, sx _ _ gI, sx _ _ gN, ptx.pn, ak.b9, ak.i9, ak.n9, ak.bs2, ak.is2, ak.ld, ak.td⟩
      have alh : ∀ {H' : Hp}, Same Hx H' → Al H' 24 (.ref hd) (.ref p3) := fun s' => have t := same_trans sx s'; al_three (pt9.same t) ak (t _ _ gp3) (t _ _ gd) (t _ _ gB) (t _ _ gI) (t _ _ gN)
      refine ⟨_, rfl, hd, _, _, _, rfl, rfl, SqT.of hdx, rfl, _, rfl, hd, _, _, _, rfl, rfl, SqT.of hdx, rfl, _, rfl, hd, _, _, _, rfl, rfl, SqT.of hdx, rfl, B4, I4, N4, vb, vn, bs, ins, nds, rfl, askx, fun gg p' B' I' N' H' n3 => ?_, fun no ea H' s' he => ?_⟩
      · obtain rfl : bt = false := hbt.elim (fun z => absurd gg z.2) (fun z => z.1)
        refine gn_go ?_
        refine normS [some (.ref a), some (.ref r), some (.ref nl), some (.ref B), some (.ref I), some (.ref cl), some (.ref N), some (.bl false), some (.ref p3), some (.ref hd), some (.int (0 + (i : Int))), some (.ref p')] rfl ?_
        refine cut1' fun Rj kj => ?_
        refine ⟨_, rfl, _, rfl, p', rfl, .inr ⟨_, n3.hp, fun H1 s1 => ?_⟩⟩
        refine ⟨rfl, _, rfl, ?_⟩
        refine iteF ?_
        refine ⟨_, rfl, _, rfl, _, _, rfl, alh (same_trans n3.s s1), fun H2 s2 => ⟨_, rfl, iteF ?_⟩⟩
        refine kj _ _ ?_
        have s12 := same_trans s1 s2
        have s02 := same_trans n3.s s12
        have t02 := same_trans sx s02
        refine ⟨_, rfl, _, rfl, ?_⟩
        refine iteT ?_
        refine ⟨_, rfl, _, rfl, _, _, rfl, al_three (pt9.same t02) ak (t02 _ _ gp3) (s12 _ _ n3.hp) (s12 _ _ n3.hB) (s12 _ _ n3.hI) (s12 _ _ n3.hN), fun H3 s3 => ⟨_, rfl, iteF ?_⟩⟩
        have s13 := same_trans s12 s3
        have s03 := same_trans n3.s s13
        have hp4 := s13 _ _ n3.hp
        have hB5 := s13 _ _ n3.hB
        have hI5 := s13 _ _ n3.hI
        have hN5 := s13 _ _ n3.hN
        refine ⟨_, rfl, p', _, _, _, rfl, rfl, SqT.of hp4, rfl, .inl ⟨rfl, _, SqL.of hB5⟩, (by show 2 ≤ sizeLine; decide), fun u hu => ?_⟩
        have su : Same H3 (upd H3 u (.tup [.str "more", .int 1])) := same_new hu _
        have gu : (upd H3 u (.tup [.str "more", .int 1])) u = some (.tup [.str "more", .int 1]) := upd_same
        generalize upd H3 u (.tup [.str "more", .int 1]) = Hu at su gu ⊢
        refine ⟨B', _, _, rfl, rfl, su _ _ hB5, small1000 (by omega), ?_⟩
        have t5 : Same Hx (upd Hu B' (.lst (vb ++ [.ref u]))) := same_put (same_trans s03 su) n3.nB
        have hp5 : (upd Hu B' (.lst (vb ++ [.ref u]))) p' = some (.tup [.ref B', .ref I', .ref N']) := TW.TK.lst (su _ _ hB5) _ _ (su _ _ hp4)
        have hI6 : (upd Hu B' (.lst (vb ++ [.ref u]))) I' = some (.lst (ins.map V.str)) := by rw [upd_ne n3.BI.symm]; exact su _ _ hI5
        have hN6 : (upd Hu B' (.lst (vb ++ [.ref u]))) N' = some (.lst vn) := by rw [upd_ne n3.BN.symm]; exact su _ _ hN5
        generalize upd Hu B' (.lst (vb ++ [.ref u])) = Hm at t5 hp5 hI6 hN6 ⊢
        refine ⟨_, rfl, p', _, _, _, rfl, rfl, SqT.of hp5, rfl, .inl ⟨rfl, _, SqL.of hI6⟩, I', _, _, rfl, rfl, hI6, small1000 (by rw [List.length_map]; omega), ?_⟩
        have t6 : Same Hx (upd Hm I' (.lst (ins.map V.str ++ [.str "more"]))) := same_put t5 n3.nI
        have hp6 : (upd Hm I' (.lst (ins.map V.str ++ [.str "more"]))) p' = some (.tup [.ref B', .ref I', .ref N']) := TW.TK.lst hI6 _ _ hp5
        have hN7 : (upd Hm I' (.lst (ins.map V.str ++ [.str "more"]))) N' = some (.lst vn) := by rw [upd_ne n3.IN.symm]; exact hN6
        generalize upd Hm I' (.lst (ins.map V.str ++ [.str "more"])) = Hn at t6 hp6 hN7 ⊢
        refine ⟨_, rfl, p', _, _, _, rfl, rfl, SqT.of hp6, rfl, .inl ⟨rfl, _, SqL.of hN7⟩, (by show 1 ≤ sizeLine; decide), fun w hw => ?_⟩
        have sv : Same Hn (upd Hn w (.tup [.str "end"])) := same_new hw _
        have gv : (upd Hn w (.tup [.str "end"])) w = some (.tup [.str "end"]) := upd_same
        generalize upd Hn w (.tup [.str "end"]) = Hv at sv gv ⊢
        refine ⟨N', _, _, rfl, rfl, sv _ _ hN7, small1000 (by omega), ?_⟩
        exact ⟨⟨_, _, rfl⟩, same_trans sx (same_put (same_trans t6 sv) n3.nN)⟩
      · obtain rfl : bt = true := hbt.elim (fun z => z.1) (fun z => absurd z.2 no)
        refine gn_go ?_
        refine normS [some (.ref a), some (.ref r), some (.ref nl), some (.ref B), some (.ref I), some (.ref cl), some (.ref N), some (.bl true), some (.ref p3), some (.ref hd), some (.int (0 + (i : Int))), some (.ref ea)] rfl ?_
        refine cut1' fun Rj kj => ?_
        refine ⟨_, rfl, _, rfl, ea, rfl, .inl ⟨he, fun H1 s1 => ?_⟩⟩
        refine ⟨rfl, _, rfl, ?_⟩
        refine iteF ?_
        refine ⟨_, rfl, _, rfl, _, _, rfl, alh (same_trans s' s1), fun H2 s2 => ⟨_, rfl, iteF ?_⟩⟩
        refine kj _ _ ?_
        refine ⟨_, rfl, _, rfl, ?_⟩
        exact iteF ⟨⟨_, _, rfl⟩, same_trans sx (same_trans s' (same_trans s1 s2))⟩
    refine kR _ _ ?_
    exact q _
end
end TW
set_option Elab.async false
set_option linter.all false
set_option maxRecDepth 100000
namespace TW
open PySem L2
theorem all_of {P : Program} {w : World} {K : PySem.W.Frag} {mg : Str → Option Value} {fa : Addr} (hfa : mg "law" = some (.ref fa)) (t : Tops K mg) :
    ∃ fd : FuncData, (∀ (s : Shared) (u : Value), BindsTo s fd ⟨[u], []⟩ [("script", u)]) ∧ ∀ base : Heap, K.In base → base.Ns mainGlobals mg → FnOk P w K mg base CX0 65 fa fd ["script"] (spLaw K) := by
  obtain ⟨f, fd, F, m⟩ := t.s_law
  have e := hfa.symm.trans m
  cases e
  refine ⟨fd, fun s u => ?_, fun base _ _ => ?_⟩
  · obtain ⟨oc, od, kV, doc, pm, an, cdv, ct, osl, rfl, lk, hcd⟩ := F.ex
    exact .of_eq rfl
  obtain ⟨T, cNoProgram, dNoChange, dNoForm, dNoNode, dNoPair, dNoPaper, dNoPicks, dNoRow, dNoWorths, dNoneYet, dTooMany, R⟩ := t.cl
  have TK' : Has P w K mg base "_law_take" ["reel", "many"] 1 spTake := has_take t.s_law_take
  have CE : Has P w K mg base "_law_cell_at" ["script", "k"] 1 (spCell K) := has_cell t.s_law_cell_at t.m_len
  have RE : Has P w K mg base "_law_reel" ["cell"] 1 spReel := has_reel t.s_law_reel t.m_abs
  have NS := has_names t.s_law_names t.m_range TK'
  have SM := has_sum t.s_law_sum t.m_len TK'
  have CO := has_cond t.s_law_condition TK' (SM 2)
  have NO := has_node t.s_law_node t.m_len TK' (SM 2) (CO 2)
  have BX := has_boxes t.s_law_boxes t.m_len t.m_min TK'
  have BE := has_bent t.s_law_bent t.m_len t.m_min TK'
  have AK : Has P w K mg base "all_known" ["known", "told"] 21 (spKnownB 20) := has_knownB t.s_all_known t.c_NAMELESS t.c_PARTED 20
  have RU := has_refUnkX t.s_refuse_unknown R.x_NoProgram AK
  have LE : Has P w K mg base "leads_of" ["node"] 1 spLeads := has_leads t.s_leads_of
  have TB : Has P w K mg base "told_by" ["node"] 1 spToldBy := has_toldBy t.s_told_by
  have RX := has_refBX (P := P) (w := w) (base := base) t.s_refuse_boxes R.x_NoProgram t.m_len t.m_set
  have RI := has_refIX (P := P) (w := w) (base := base) t.s_refuse_inputs R.x_NoProgram t.m_len t.m_set
  have RN := has_refNX t.s_refuse_nodes R.x_NoProgram t.m_len (LE.mono (by decide)) (TB.mono (by decide)) (RU.mono (by decide))
  have PO := has_progOfX t.s_program_of t.m_list (RX.mono (by decide)) (RI.mono (by decide)) (RN.mono (by decide))
  have PP := has_pick t.s_picked_program PO
  have TO := has_told t.s_law_told R PP
  have IR := has_isR (P := P) (w := w) (base := base) t.s_law_is_refusal R t.m_isinstance t.m_ValueError
  have AL : ∀ n, Has P w K mg base "_law_alike" ["found", "due"] (n + 1) (spAlk n) := has_alk t.s_law_alike t.m_isinstance t.m_len t.m_range t.m_bool t.m_int t.m_str t.m_tuple t.m_list
  exact ok_law F t.m_len t.m_range t.m_list (CE.mono (by decide)) (RE.mono (by decide)) (TK'.mono (by decide)) (NS.mono (by decide)) (BX.mono (by decide)) (NO.mono (by decide)) (BE.mono (by decide)) (TO.mono (by decide)) (IR.mono (by decide)) ((AL 24).mono (by decide))
end TW
set_option Elab.async false
set_option linter.all false
set_option maxRecDepth 100000
namespace TW
open PySem L2
theorem walk {l : PySem.W.OpenLaw} {q : Program} {loose : List Str} {XP : (Str → Option Value) → Heap → Prop} {YP : World → Heap → Prop} {d : DefRec} {K : Params → PySem.W.Frag} (hn : l.most = some 63) (hdf : d.params.defaults = [])
    (hY : ∀ (w : World) (h : Heap), YP w h → (K w.params).In h)
    (F : ∀ (w : World) (mg : Str → Option Value) (fa : Addr) (h : Heap), (K w.params).In h → h.Ns mainGlobals mg → mg d.name = some (.ref fa) →
      ∃ fd : FuncData, (∀ (s : Shared) (u : Value), BindsTo s fd ⟨[u], []⟩ [("script", u)]) ∧ ∀ base : Heap, (K w.params).In base → base.Ns mainGlobals mg → FnOk l.prog w (K w.params) mg base CX0 65 fa fd ["script"] (spLaw (K w.params))) :
    PySem.W.WalkO q loose XP YP l.row.toRowW d [] (fun f vs => PySem.call f vs) :=
  L2.walk_of (n := 63) (k := 65) (x := "script") (CX := fun _ => CX0) (sp := fun w => spLaw (K w.params)) hn (by decide) hdf ⟨rfl, by decide, by decide⟩ hY F (fun _ _ a ns hl _ hS => ⟨a, ns, rfl, hS, hl, fun _ => rfl⟩) fun _ _ _ _ _ z => z
end TW
def PySem.W.Fast.tw10058946685161056241 : Nat := 0
def PySem.W.Fast.tw10085222499077232501 : Nat := 0
def PySem.W.Fast.tw1014774375104869775 : Nat := 0
def PySem.W.Fast.tw10224343476311140609 : Nat := 0
def PySem.W.Fast.tw10284178796680845702 : Nat := 0
def PySem.W.Fast.tw10378826583656195169 : Nat := 0
def PySem.W.Fast.tw10396889205005380591 : Nat := 0
def PySem.W.Fast.tw10459622723859114818 : Nat := 0
def PySem.W.Fast.tw10496561822951313542 : Nat := 0
def PySem.W.Fast.tw1067416569962669985 : Nat := 0
def PySem.W.Fast.tw10676494301099343500 : Nat := 0
def PySem.W.Fast.tw10686143302828990474 : Nat := 0
def PySem.W.Fast.tw10687227549693134678 : Nat := 0
def PySem.W.Fast.tw10711225637936651121 : Nat := 0
def PySem.W.Fast.tw10832754966699756399 : Nat := 0
def PySem.W.Fast.tw10900434468868758500 : Nat := 0
def PySem.W.Fast.tw10913103809072580202 : Nat := 0
def PySem.W.Fast.tw10936980095731868112 : Nat := 0
def PySem.W.Fast.tw11110589566439934080 : Nat := 0
def PySem.W.Fast.tw11184638072470077229 : Nat := 0
def PySem.W.Fast.tw11194626671086640520 : Nat := 0
def PySem.W.Fast.tw11229853289032716288 : Nat := 0
def PySem.W.Fast.tw11267858139526841745 : Nat := 0
def PySem.W.Fast.tw11302543946623384830 : Nat := 0
def PySem.W.Fast.tw11324103047776131996 : Nat := 0
def PySem.W.Fast.tw11361837310549123111 : Nat := 0
def PySem.W.Fast.tw11450648679092367433 : Nat := 0
def PySem.W.Fast.tw11490150078137906068 : Nat := 0
def PySem.W.Fast.tw11542109948342003975 : Nat := 0
def PySem.W.Fast.tw11630290607551696095 : Nat := 0
def PySem.W.Fast.tw11685216977427442065 : Nat := 0
def PySem.W.Fast.tw11707863688584882004 : Nat := 0
def PySem.W.Fast.tw1175449772734160366 : Nat := 0
def PySem.W.Fast.tw1193351526392170955 : Nat := 0
def PySem.W.Fast.tw12011639538356977993 : Nat := 0
def PySem.W.Fast.tw1207425555874361454 : Nat := 0
def PySem.W.Fast.tw12083732175760043728 : Nat := 0
def PySem.W.Fast.tw12107916717161292403 : Nat := 0
def PySem.W.Fast.tw12113039373085215922 : Nat := 0
def PySem.W.Fast.tw12288096945916011124 : Nat := 0
def PySem.W.Fast.tw12300732317366522394 : Nat := 0
def PySem.W.Fast.tw12340132063334507644 : Nat := 0
def PySem.W.Fast.tw12464217413310049209 : Nat := 0
def PySem.W.Fast.tw1247379325714666416 : Nat := 0
def PySem.W.Fast.tw12538199170869774407 : Nat := 0
def PySem.W.Fast.tw12699798080370970324 : Nat := 0
def PySem.W.Fast.tw12756727012694866252 : Nat := 0
def PySem.W.Fast.tw12773444549036719541 : Nat := 0
def PySem.W.Fast.tw12813391399935883219 : Nat := 0
def PySem.W.Fast.tw12916081505222417302 : Nat := 0
def PySem.W.Fast.tw12923071384040531090 : Nat := 0
def PySem.W.Fast.tw12965972670809607170 : Nat := 0
def PySem.W.Fast.tw12994010094181395003 : Nat := 0
def PySem.W.Fast.tw13053090798438523797 : Nat := 0
def PySem.W.Fast.tw13089385522162066004 : Nat := 0
def PySem.W.Fast.tw13114836028001358010 : Nat := 0
def PySem.W.Fast.tw13183654479851841217 : Nat := 0
def PySem.W.Fast.tw13222995067330758552 : Nat := 0
def PySem.W.Fast.tw13253631722514443480 : Nat := 0
def PySem.W.Fast.tw13339493040922092152 : Nat := 0
def PySem.W.Fast.tw13353221736030777465 : Nat := 0
def PySem.W.Fast.tw13354762574354992120 : Nat := 0
def PySem.W.Fast.tw13476082833174120574 : Nat := 0
def PySem.W.Fast.tw13550180491790409698 : Nat := 0
def PySem.W.Fast.tw13587051066875418372 : Nat := 0
def PySem.W.Fast.tw1365290103515549443 : Nat := 0
def PySem.W.Fast.tw13726674470150234342 : Nat := 0
def PySem.W.Fast.tw13756646969630469120 : Nat := 0
def PySem.W.Fast.tw13782853810300717129 : Nat := 0
def PySem.W.Fast.tw13801542755169715154 : Nat := 0
def PySem.W.Fast.tw13808967277406070123 : Nat := 0
def PySem.W.Fast.tw13823440666474299010 : Nat := 0
def PySem.W.Fast.tw13829979222939822047 : Nat := 0
def PySem.W.Fast.tw13897160534777355240 : Nat := 0
def PySem.W.Fast.tw14002383092361677237 : Nat := 0
def PySem.W.Fast.tw14015658614329049118 : Nat := 0
def PySem.W.Fast.tw1403210473408738985 : Nat := 0
def PySem.W.Fast.tw14285252437370388239 : Nat := 0
def PySem.W.Fast.tw14285555991519552283 : Nat := 0
def PySem.W.Fast.tw1446337878960245860 : Nat := 0
def PySem.W.Fast.tw14508226088038434016 : Nat := 0
def PySem.W.Fast.tw1464016631339074415 : Nat := 0
def PySem.W.Fast.tw1470983140901747546 : Nat := 0
def PySem.W.Fast.tw14769120460293386064 : Nat := 0
def PySem.W.Fast.tw14789783050218658467 : Nat := 0
def PySem.W.Fast.tw147986342518225340 : Nat := 0
def PySem.W.Fast.tw14836093386200565866 : Nat := 0
def PySem.W.Fast.tw14895400040845721878 : Nat := 0
def PySem.W.Fast.tw15042034099912618297 : Nat := 0
def PySem.W.Fast.tw15177662383808644438 : Nat := 0
def PySem.W.Fast.tw15193511223888881683 : Nat := 0
def PySem.W.Fast.tw15248860490989179560 : Nat := 0
def PySem.W.Fast.tw15339628759488505249 : Nat := 0
def PySem.W.Fast.tw15398272323139973975 : Nat := 0
def PySem.W.Fast.tw154253103260710799 : Nat := 0
def PySem.W.Fast.tw15493874553432083609 : Nat := 0
def PySem.W.Fast.tw15561423347897131877 : Nat := 0
def PySem.W.Fast.tw15571613509689668745 : Nat := 0
def PySem.W.Fast.tw15650153464284784205 : Nat := 0
def PySem.W.Fast.tw15704723399381446728 : Nat := 0
def PySem.W.Fast.tw15731155936461808977 : Nat := 0
def PySem.W.Fast.tw15799466428475061097 : Nat := 0
def PySem.W.Fast.tw15829924676094825155 : Nat := 0
def PySem.W.Fast.tw16030341311192147056 : Nat := 0
def PySem.W.Fast.tw16037780828647427259 : Nat := 0
def PySem.W.Fast.tw16067332111127456219 : Nat := 0
def PySem.W.Fast.tw1607698325651018208 : Nat := 0
def PySem.W.Fast.tw16077181600813644047 : Nat := 0
def PySem.W.Fast.tw16087881952566594142 : Nat := 0
def PySem.W.Fast.tw16148569126860168772 : Nat := 0
def PySem.W.Fast.tw16170081992949436956 : Nat := 0
def PySem.W.Fast.tw16192339276431417308 : Nat := 0
def PySem.W.Fast.tw16224687393690118626 : Nat := 0
def PySem.W.Fast.tw16234521890846598350 : Nat := 0
def PySem.W.Fast.tw16307689643705609742 : Nat := 0
def PySem.W.Fast.tw16328643675542958679 : Nat := 0
def PySem.W.Fast.tw16395380577530334293 : Nat := 0
def PySem.W.Fast.tw16404900756494887135 : Nat := 0
def PySem.W.Fast.tw16430369014199443797 : Nat := 0
def PySem.W.Fast.tw16508620815973352184 : Nat := 0
def PySem.W.Fast.tw16555542752421339215 : Nat := 0
def PySem.W.Fast.tw16597145825540390040 : Nat := 0
def PySem.W.Fast.tw16600314404399087088 : Nat := 0
def PySem.W.Fast.tw16644288741146439230 : Nat := 0
def PySem.W.Fast.tw16667555068361100133 : Nat := 0
def PySem.W.Fast.tw16710511511975778927 : Nat := 0
def PySem.W.Fast.tw16837609663974319189 : Nat := 0
def PySem.W.Fast.tw16858341995427451881 : Nat := 0
def PySem.W.Fast.tw1691068141762627457 : Nat := 0
def PySem.W.Fast.tw16942597874901604430 : Nat := 0
def PySem.W.Fast.tw16957394718223846496 : Nat := 0
def PySem.W.Fast.tw16985060089828708835 : Nat := 0
def PySem.W.Fast.tw17010718430314443602 : Nat := 0
def PySem.W.Fast.tw17047884085725290907 : Nat := 0
def PySem.W.Fast.tw17187395916537012693 : Nat := 0
def PySem.W.Fast.tw17311428168691045121 : Nat := 0
def PySem.W.Fast.tw17320986800812221624 : Nat := 0
def PySem.W.Fast.tw17404873681469338981 : Nat := 0
def PySem.W.Fast.tw17446304920504520895 : Nat := 0
def PySem.W.Fast.tw17577099027032830815 : Nat := 0
def PySem.W.Fast.tw17634747486580618386 : Nat := 0
def PySem.W.Fast.tw17662653001644608751 : Nat := 0
def PySem.W.Fast.tw17741452920925453487 : Nat := 0
def PySem.W.Fast.tw17750463574699167245 : Nat := 0
def PySem.W.Fast.tw1788731303746578250 : Nat := 0
def PySem.W.Fast.tw17951828276046967306 : Nat := 0
def PySem.W.Fast.tw17956396862285365654 : Nat := 0
def PySem.W.Fast.tw17994129632475474721 : Nat := 0
def PySem.W.Fast.tw17995391552057897124 : Nat := 0
def PySem.W.Fast.tw17996150479071624110 : Nat := 0
def PySem.W.Fast.tw1800450557382935355 : Nat := 0
def PySem.W.Fast.tw18033858743791123728 : Nat := 0
def PySem.W.Fast.tw18091577697228442940 : Nat := 0
def PySem.W.Fast.tw18137751984808249428 : Nat := 0
def PySem.W.Fast.tw1815388714707917841 : Nat := 0
def PySem.W.Fast.tw18229589956150192701 : Nat := 0
def PySem.W.Fast.tw18284734860902259523 : Nat := 0
def PySem.W.Fast.tw18324228611304919003 : Nat := 0
def PySem.W.Fast.tw18346180556832392426 : Nat := 0
def PySem.W.Fast.tw18406547613709936061 : Nat := 0
def PySem.W.Fast.tw18415705423996440375 : Nat := 0
def PySem.W.Fast.tw18426891962185484005 : Nat := 0
def PySem.W.Fast.tw185770564442870666 : Nat := 0
def PySem.W.Fast.tw1871641014568026826 : Nat := 0
def PySem.W.Fast.tw1885188128626411432 : Nat := 0
def PySem.W.Fast.tw1923649113555605716 : Nat := 0
def PySem.W.Fast.tw1947118720600600525 : Nat := 0
def PySem.W.Fast.tw1958016911319424277 : Nat := 0
def PySem.W.Fast.tw2002419182824095119 : Nat := 0
def PySem.W.Fast.tw206204927791389911 : Nat := 0
def PySem.W.Fast.tw2062197485733666566 : Nat := 0
def PySem.W.Fast.tw2139039829797839375 : Nat := 0
def PySem.W.Fast.tw2164977209215686948 : Nat := 0
def PySem.W.Fast.tw2174959596568414350 : Nat := 0
def PySem.W.Fast.tw2179255298392380777 : Nat := 0
def PySem.W.Fast.tw2211637883831396181 : Nat := 0
def PySem.W.Fast.tw2259277959361855241 : Nat := 0
def PySem.W.Fast.tw226194131618439114 : Nat := 0
def PySem.W.Fast.tw2264990884983675977 : Nat := 0
def PySem.W.Fast.tw2273872173427813863 : Nat := 0
def PySem.W.Fast.tw2283392099805099599 : Nat := 0
def PySem.W.Fast.tw2314975791999722052 : Nat := 0
def PySem.W.Fast.tw2382435401192316681 : Nat := 0
def PySem.W.Fast.tw2429943640415005836 : Nat := 0
def PySem.W.Fast.tw2432294676819819088 : Nat := 0
def PySem.W.Fast.tw2444824979422163790 : Nat := 0
def PySem.W.Fast.tw2457558471806028250 : Nat := 0
def PySem.W.Fast.tw2531001901184550514 : Nat := 0
def PySem.W.Fast.tw2550738910822584123 : Nat := 0
def PySem.W.Fast.tw2696091608340444011 : Nat := 0
def PySem.W.Fast.tw2752471338486880150 : Nat := 0
def PySem.W.Fast.tw2775070667834268740 : Nat := 0
def PySem.W.Fast.tw2911853776785836088 : Nat := 0
def PySem.W.Fast.tw3056351808363191231 : Nat := 0
def PySem.W.Fast.tw312069063745172209 : Nat := 0
def PySem.W.Fast.tw3122737941473056104 : Nat := 0
def PySem.W.Fast.tw3176822194483469502 : Nat := 0
def PySem.W.Fast.tw3244304257053408883 : Nat := 0
def PySem.W.Fast.tw3277117862988160975 : Nat := 0
def PySem.W.Fast.tw3305189463683227176 : Nat := 0
def PySem.W.Fast.tw3335391703599849463 : Nat := 0
def PySem.W.Fast.tw333749950483806360 : Nat := 0
def PySem.W.Fast.tw3458514597900311497 : Nat := 0
def PySem.W.Fast.tw3488429530706322416 : Nat := 0
def PySem.W.Fast.tw3677972592421425286 : Nat := 0
def PySem.W.Fast.tw378077007382559101 : Nat := 0
def PySem.W.Fast.tw38122326695240244 : Nat := 0
def PySem.W.Fast.tw3840033013759960050 : Nat := 0
def PySem.W.Fast.tw3840688210347163993 : Nat := 0
def PySem.W.Fast.tw3889065650689209553 : Nat := 0
def PySem.W.Fast.tw3904378128170349767 : Nat := 0
def PySem.W.Fast.tw4076439571423287722 : Nat := 0
def PySem.W.Fast.tw4285867746790251923 : Nat := 0
def PySem.W.Fast.tw4340503034596335117 : Nat := 0
def PySem.W.Fast.tw4345169438068758957 : Nat := 0
def PySem.W.Fast.tw4421960861538449540 : Nat := 0
def PySem.W.Fast.tw4431726843370851445 : Nat := 0
def PySem.W.Fast.tw4441543618979751121 : Nat := 0
def PySem.W.Fast.tw4443091335779019912 : Nat := 0
def PySem.W.Fast.tw4499384132672471017 : Nat := 0
def PySem.W.Fast.tw4581403530698836594 : Nat := 0
def PySem.W.Fast.tw4583865048022455583 : Nat := 0
def PySem.W.Fast.tw4622733030923756620 : Nat := 0
def PySem.W.Fast.tw4658589393983412761 : Nat := 0
def PySem.W.Fast.tw4687198353040722012 : Nat := 0
def PySem.W.Fast.tw4824962032148464384 : Nat := 0
def PySem.W.Fast.tw4897151587288241792 : Nat := 0
def PySem.W.Fast.tw4963272099739701027 : Nat := 0
def PySem.W.Fast.tw4984511385800047179 : Nat := 0
def PySem.W.Fast.tw5011795288653232977 : Nat := 0
def PySem.W.Fast.tw5048505487617471784 : Nat := 0
def PySem.W.Fast.tw5124016221217591433 : Nat := 0
def PySem.W.Fast.tw514960065024533389 : Nat := 0
def PySem.W.Fast.tw5166645943538269008 : Nat := 0
def PySem.W.Fast.tw5195915685014461746 : Nat := 0
def PySem.W.Fast.tw5412238579983252825 : Nat := 0
def PySem.W.Fast.tw5415666351115588884 : Nat := 0
def PySem.W.Fast.tw5432619053148318868 : Nat := 0
def PySem.W.Fast.tw5434903435108550229 : Nat := 0
def PySem.W.Fast.tw5442438714593594724 : Nat := 0
def PySem.W.Fast.tw5506516108827841339 : Nat := 0
def PySem.W.Fast.tw5508514990819197263 : Nat := 0
def PySem.W.Fast.tw5568634436010180942 : Nat := 0
def PySem.W.Fast.tw5578129074984286309 : Nat := 0
def PySem.W.Fast.tw5623097160870185635 : Nat := 0
def PySem.W.Fast.tw5700944219860083553 : Nat := 0
def PySem.W.Fast.tw5756409911422337260 : Nat := 0
def PySem.W.Fast.tw578446705167726697 : Nat := 0
def PySem.W.Fast.tw5847460130531255898 : Nat := 0
def PySem.W.Fast.tw5867263752902606773 : Nat := 0
def PySem.W.Fast.tw5900417783105773080 : Nat := 0
def PySem.W.Fast.tw6020713340492624153 : Nat := 0
def PySem.W.Fast.tw6075364487093561288 : Nat := 0
def PySem.W.Fast.tw6162021599780765479 : Nat := 0
def PySem.W.Fast.tw6219810088051052459 : Nat := 0
def PySem.W.Fast.tw6477240442460238754 : Nat := 0
def PySem.W.Fast.tw649578846443998211 : Nat := 0
def PySem.W.Fast.tw6600519096585539747 : Nat := 0
def PySem.W.Fast.tw6651762219561347814 : Nat := 0
def PySem.W.Fast.tw6739557061319307347 : Nat := 0
def PySem.W.Fast.tw6871750125753673599 : Nat := 0
def PySem.W.Fast.tw6956755914938834437 : Nat := 0
def PySem.W.Fast.tw6979714911706647873 : Nat := 0
def PySem.W.Fast.tw6983199873691414859 : Nat := 0
def PySem.W.Fast.tw6998519291648897217 : Nat := 0
def PySem.W.Fast.tw7012946916502824615 : Nat := 0
def PySem.W.Fast.tw7018274589719974719 : Nat := 0
def PySem.W.Fast.tw7125034365916540492 : Nat := 0
def PySem.W.Fast.tw713397595165216324 : Nat := 0
def PySem.W.Fast.tw7163117879532034133 : Nat := 0
def PySem.W.Fast.tw7247199854758822431 : Nat := 0
def PySem.W.Fast.tw7258076718049026186 : Nat := 0
def PySem.W.Fast.tw7382307449770986984 : Nat := 0
def PySem.W.Fast.tw7400970229223156164 : Nat := 0
def PySem.W.Fast.tw742254441439754699 : Nat := 0
def PySem.W.Fast.tw7473111566402090294 : Nat := 0
def PySem.W.Fast.tw7482747292744276794 : Nat := 0
def PySem.W.Fast.tw7568350262435910282 : Nat := 0
def PySem.W.Fast.tw7578728408809341469 : Nat := 0
def PySem.W.Fast.tw7723218460078976183 : Nat := 0
def PySem.W.Fast.tw7876412089305501290 : Nat := 0
def PySem.W.Fast.tw7906967514293828108 : Nat := 0
def PySem.W.Fast.tw7992364746326224756 : Nat := 0
def PySem.W.Fast.tw8158480444497214814 : Nat := 0
def PySem.W.Fast.tw8219234094426538295 : Nat := 0
def PySem.W.Fast.tw8221602910951113335 : Nat := 0
def PySem.W.Fast.tw828921225816960546 : Nat := 0
def PySem.W.Fast.tw8357634558996244943 : Nat := 0
def PySem.W.Fast.tw8397302247050805963 : Nat := 0
def PySem.W.Fast.tw8455001112028883862 : Nat := 0
def PySem.W.Fast.tw8493235543223504288 : Nat := 0
def PySem.W.Fast.tw8508924134714968079 : Nat := 0
def PySem.W.Fast.tw8585804432234606442 : Nat := 0
def PySem.W.Fast.tw8659661922211671392 : Nat := 0
def PySem.W.Fast.tw8768976712423638762 : Nat := 0
def PySem.W.Fast.tw8822221925830446503 : Nat := 0
def PySem.W.Fast.tw8863610445770139562 : Nat := 0
def PySem.W.Fast.tw8881176745258914682 : Nat := 0
def PySem.W.Fast.tw8982992124056122008 : Nat := 0
def PySem.W.Fast.tw9005568486811231701 : Nat := 0
def PySem.W.Fast.tw9140441494886704043 : Nat := 0
def PySem.W.Fast.tw9162610867028976305 : Nat := 0
def PySem.W.Fast.tw9219641798747825429 : Nat := 0
def PySem.W.Fast.tw9240978042862292747 : Nat := 0
def PySem.W.Fast.tw9241163052453114947 : Nat := 0
def PySem.W.Fast.tw928620739766137143 : Nat := 0
def PySem.W.Fast.tw9351236721248513675 : Nat := 0
def PySem.W.Fast.tw9386248812997494963 : Nat := 0
def PySem.W.Fast.tw940814573661052315 : Nat := 0
def PySem.W.Fast.tw9495754320734667881 : Nat := 0
def PySem.W.Fast.tw9508065053425467734 : Nat := 0
def PySem.W.Fast.tw9530711907856890551 : Nat := 0
def PySem.W.Fast.tw9551881676625440719 : Nat := 0
def PySem.W.Fast.tw9580271848700749505 : Nat := 0
def PySem.W.Fast.tw9593693919964325704 : Nat := 0
def PySem.W.Fast.tw9627460499158186942 : Nat := 0
def PySem.W.Fast.tw9653807218675572868 : Nat := 0
def PySem.W.Fast.tw970313868324764312 : Nat := 0
def PySem.W.Fast.tw9719245054679735204 : Nat := 0
def PySem.W.Fast.tw9771191338032588495 : Nat := 0
def PySem.W.Fast.tw9829088493956599122 : Nat := 0
def PySem.W.Fast.tw9871373876159069080 : Nat := 0
def PySem.W.Fast.tw9971329014369253620 : Nat := 0
open PySem PySem.W PyProof.Rows
set_option maxRecDepth 100000 in
set_option maxHeartbeats 0 in
theorem PySem.Challenge.cw_twinwalk_k56_programs_with_picks_holds : PySem.Challenge.rw_twinwalk_k56_programs_with_picks.Holds := by
  w_on; o_law; k_head; (case hw => w_witness2)
  k_fill
  refine TW.walk (l := PySem.Challenge.rw_twinwalk_k56_programs_with_picks) rfl rfl (fun w h Y => PySem.W.kIn_of Y) ?F
  case F =>
    intro w mg fa h KX G hmg
    refine TW.all_of hmg ?_
    refine' (⟨TW.src_mk KX G ?_ ?_ ?_ ?_, TW.src_mk KX G ?_ ?_ ?_ ?_, TW.src_mk KX G ?_ ?_ ?_ ?_, TW.src_mk KX G ?_ ?_ ?_ ?_, TW.src_mk KX G ?_ ?_ ?_ ?_, TW.src_mk KX G ?_ ?_ ?_ ?_, TW.src_mk KX G ?_ ?_ ?_ ?_, TW.src_mk KX G ?_ ?_ ?_ ?_, TW.src_mk KX G ?_ ?_ ?_ ?_, TW.src_mk KX G ?_ ?_ ?_ ?_, TW.src_mk KX G ?_ ?_ ?_ ?_, TW.src_mk KX G ?_ ?_ ?_ ?_, TW.src_mk KX G ?_ ?_ ?_ ?_, TW.src_mk KX G ?_ ?_ ?_ ?_, TW.src_mk KX G ?_ ?_ ?_ ?_, TW.src_mk KX G ?_ ?_ ?_ ?_, TW.src_mk KX G ?_ ?_ ?_ ?_, TW.src_mk KX G ?_ ?_ ?_ ?_, TW.src_mk KX G ?_ ?_ ?_ ?_, TW.src_mk KX G ?_ ?_ ?_ ?_, TW.src_mk KX G ?_ ?_ ?_ ?_, TW.src_mk KX G ?_ ?_ ?_ ?_, TW.tupC_mk KX G ?_ ?_ ?_ ?_ ?_, TW.tupC_mk KX G ?_ ?_ ?_ ?_ ?_, ⟨_, _, _, _, _, _, _, _, _, _, _, _, TW.xc_mk KX G ?_ ?_ ?_ ?_, TW.xc_mk KX G ?_ ?_ ?xl_NoProgram ?_, TW.xck_mk ?_ ?_ ?_ ?_ ?_ ?_ ?_ ?xl_NoProgram, ?_, ?_, ?_, ?_, ?_, PySem.W.mg_of KX G ?_, PySem.W.mg_of KX G ?_, PySem.W.mg_of KX G ?_, PySem.W.mg_of KX G ?_, PySem.W.mg_of KX G ?_, PySem.W.mg_of KX G ?_, PySem.W.mg_of KX G ?_, PySem.W.mg_of KX G ?_, PySem.W.mg_of KX G ?_, PySem.W.mg_of KX G ?_⟩, PySem.W.mg_none_of KX G ?_, PySem.W.mg_none_of KX G ?_, PySem.W.mg_none_of KX G ?_, PySem.W.mg_none_of KX G ?_, PySem.W.mg_none_of KX G ?_, PySem.W.mg_none_of KX G ?_, PySem.W.mg_none_of KX G ?_, PySem.W.mg_none_of KX G ?_, PySem.W.mg_none_of KX G ?_, PySem.W.mg_none_of KX G ?_, PySem.W.mg_none_of KX G ?_, PySem.W.mg_none_of KX G ?_⟩ : TW.Tops _ _)
    any_goals first | k_is | k_exc | rfl
    any_goals first | k_is | k_exc | rfl
    all_goals first | kit_is | decide | (repeat' constructor)
