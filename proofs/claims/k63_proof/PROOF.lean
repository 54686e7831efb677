import PyProof.Rows.All
import Wide.All
import OpenK.AllK
import Wide.FinOn
import Lean
import PyProof.EqAt
import PyProof.EqKinds
import PyProof.TupleCall
import PySem.Challenge.RW_twinwalk_k63_nodes_split
set_option Elab.async false
set_option linter.all false
set_option maxRecDepth 100000
/-! THE HAND LAYER, for ints, bools, texts, own classes, LISTS and tuples (index, slices, in, append, pop ..), calls, loops. Paste it whole ahead of your own text; what your proof does not reach may be deleted. -/
namespace L2
open PySem PySem.Spec PyProof.Rows

/-- a key: an int or a str -/
abbrev Key := Sum Int Str
def keyIs : Key → Value → Bool
  | .inl k, v => Value.isInt k v
  | .inr x, v => Value.isStrOf x v
def keyH (w : World) : Key → Int
  | .inl k => hashInt k
  | .inr x => hashStr w x
theorem keyIs_shape : ∀ {k : Key} {v : Value}, keyIs k v = true → (∃ i t, k = Sum.inl i ∧ v = Value.int i t) ∨ (∃ x t, k = Sum.inr x ∧ v = Value.str x t)
  | .inl i, v, h => by
    obtain ⟨t, e⟩ := Value.isInt_shape (k := i) (v := v) h
    exact .inl ⟨i, t, rfl, e⟩
  | .inr x, v, h => by
    obtain ⟨t, e⟩ := Value.isStrOf_shape (x := x) (v := v) h
    exact .inr ⟨x, t, rfl, e⟩
theorem keyIs_int (i : Int) (t : Tok) : keyIs (.inl i) (.int i t) = true := by simp [keyIs, Value.isInt]
theorem keyIs_str (x : Str) (t : Tok) : keyIs (.inr x) (.str x t) = true := by simp [keyIs, Value.isStrOf]
theorem key_ll (a b : Int) : decide ((Sum.inl a : Key) = Sum.inl b) = (a == b) := by
  by_cases e : a = b
  · subst e; simp
  · have h : ¬ (Sum.inl a : Key) = Sum.inl b := fun q => e (Sum.inl.inj q)
    rw [decide_eq_false h]
    exact (beq_eq_false_iff_ne.mpr e).symm
theorem key_rr (a b : Str) : decide ((Sum.inr a : Key) = Sum.inr b) = decide (a = b) := by
  by_cases e : a = b
  · subst e; simp
  · have h : ¬ (Sum.inr a : Key) = Sum.inr b := fun q => e (Sum.inr.inj q)
    rw [decide_eq_false h, decide_eq_false e]
theorem key_lr (a : Int) (b : Str) : decide ((Sum.inl a : Key) = Sum.inr b) = false := decide_eq_false (fun q => nomatch q)
theorem key_rl (a : Str) (b : Int) : decide ((Sum.inr a : Key) = Sum.inl b) = false := decide_eq_false (fun q => nomatch q)

def mixKind (prog : Program) (w : World) : PySem.KeyKind prog w Key where
  is := keyIs
  hash := keyH w
  inj := fun v a b ha hb => by
    rcases keyIs_shape ha with ⟨i, t, rfl, rfl⟩ | ⟨x, t, rfl, rfl⟩
    · rcases keyIs_shape hb with ⟨j, u, rfl, e⟩ | ⟨y, u, rfl, e⟩
      · injection e with e1 _; rw [e1]
      · exact nomatch e
    · rcases keyIs_shape hb with ⟨j, u, rfl, e⟩ | ⟨y, u, rfl, e⟩
      · exact nomatch e
      · injection e with e1 _; rw [e1]
  byValue := fun k v h => by
    rcases keyIs_shape h with ⟨i, t, rfl, rfl⟩ | ⟨x, t, rfl, rfl⟩ <;> rfl
  pyHash := fun hv h => by
    rcases keyIs_shape hv with ⟨i, t, rfl, rfl⟩ | ⟨x, t, rfl, rfl⟩
    · exact wpAny_pyHash_int h
    · exact wpAny_pyHash_str h
  eqBool := fun hu hv h => by
    rcases keyIs_shape hu with ⟨i, t, rfl, rfl⟩ | ⟨x, t, rfl, rfl⟩
    · rcases keyIs_shape hv with ⟨j, u, rfl, rfl⟩ | ⟨y, u, rfl, rfl⟩
      · rw [key_ll] at h; exact wpAny_eqBool_int h
      · rw [key_lr] at h; exact SeqAt.EqAt.int_str i t y u _ _ _ _ h
    · rcases keyIs_shape hv with ⟨j, u, rfl, rfl⟩ | ⟨y, u, rfl, rfl⟩
      · rw [key_rl] at h; exact SeqAt.EqAt.str_int x t j u _ _ _ _ h
      · rw [key_rr] at h; exact wpAny_eqBool_str h
  «strs» := fun k x t v h => by
    rcases keyIs_shape h with ⟨i, u, rfl, e⟩ | ⟨y, u, rfl, e⟩
    · exact nomatch e
    · injection e with e1 _
      subst e1
      cases v <;> rfl

theorem mixKind_int (prog : Program) (w : World) (i : Int) (t : Tok) : (mixKind prog w).is (.inl i) (.int i t) = true := keyIs_int i t
theorem mixKind_str (prog : Program) (w : World) (x : Str) (t : Tok) : (mixKind prog w).is (.inr x) (.str x t) = true := keyIs_str x t
end L2

namespace L2
open PySem PySem.Spec PyProof.Rows

/-- a value, without the heap -/
inductive V where
  | non | bl (b : Bool) | int (i : Int) | str (x : Str) | byt (b : Array UInt8) | flt (b : UInt64) | ref (a : Addr) | ty (n : String)
  deriving DecidableEq

def RelV : V → Value → Prop
  | .non, u => u = Value.none
  | .bl b, u => u = Value.bool b
  | .int i, u => ∃ t, u = Value.int i t
  | .str x, u => ∃ t, u = Value.str x t
  | .byt b, u => ∃ t, u = Value.bytes b t
  | .flt b, u => ∃ t, u = Value.float b t
  | .ref a, u => u = Value.ref a
  | .ty n, u => u = Value.type n

abbrev Vals : List V → List Value → Prop := Paired RelV
theorem Vals.length {xs : List V} {us : List Value} (r : Vals xs us) : xs.length = us.length := Paired.length r
theorem Vals.get : ∀ {xs : List V} {us : List Value} {i : Nat} {x : V}, Vals xs us → xs[i]? = some x → ∃ u, us[i]? = some u ∧ RelV x u
  | _, _, _, _, .nil, e => by simp at e
  | _, _, 0, _, .cons r _, e => by simp at e; subst e; exact ⟨_, rfl, r⟩
  | _, _, i + 1, x, .cons _ t, e => by
    obtain ⟨u, h1, h2⟩ := Vals.get (i := i) (x := x) t (by simpa using e)
    exact ⟨u, by simpa using h1, h2⟩
theorem Vals.set {x : V} {u : Value} (r : RelV x u) : ∀ {xs : List V} {us : List Value} (i : Nat), Vals xs us → Vals (xs.set i x) (us.set i u)
  | _, _, _, .nil => .nil
  | _, _, 0, .cons _ t => .cons r t
  | _, _, i + 1, .cons q t => .cons q (Vals.set r i t)
theorem Vals.append : ∀ {xs ys : List V} {us ws : List Value}, Vals xs us → Vals ys ws → Vals (xs ++ ys) (us ++ ws)
  | _, _, _, _, .nil, s => s
  | _, _, _, _, .cons r t, s => .cons r (Vals.append t s)
theorem Vals.take : ∀ {xs : List V} {us : List Value} (n : Nat), Vals xs us → Vals (xs.take n) (us.take n)
  | _, _, 0, _ => .nil
  | _, _, _ + 1, .nil => .nil
  | _, _, n + 1, .cons r t => .cons r (Vals.take n t)
theorem Vals.drop : ∀ {xs : List V} {us : List Value} (n : Nat), Vals xs us → Vals (xs.drop n) (us.drop n)
  | _, _, 0, r => r
  | _, _, _ + 1, .nil => .nil
  | _, _, n + 1, .cons _ t => Vals.drop n t
def RelO : Option V → Option Value → Prop
  | some v, some u => RelV v u
  | none, none => True
  | _, _ => False
def KV {κ : Type} : List (κ × V) → List (κ × Value) → Prop := Paired fun (p : κ × V) (q : κ × Value) => p.1 = q.1 ∧ RelV p.2 q.2

/-- a key of a dict (00_mix): an int or a text -/
def kV : Key → V
  | .inl i => .int i
  | .inr x => .str x

/-- what stands at a tracked address -/
inductive HO where
  /-- a list -/
  | lst (xs : List V)
  /-- a tuple (never changes) -/
  | tup (xs : List V)
  /-- a dict whose keys are ints and texts; one whose keys are tuples of ints and texts (the empty one is both) -/
  | dK (kvs : List (Key × V)) | dT (kvs : List (List Key × V))
  /-- a set of ints: its members, its size -/
  | set (S : Int → Bool) (n : Nat)
  /-- an instance of the class at C, its dict at dx, its attributes -/
  | ins (C dx : Addr) (fs : List (Str × V))
  /-- the dict of the instance at x -/
  | own (x : Addr)
  /-- the dict of an exception -/
  | xd (fs : List (Str × V))
  /-- a bound method, f of x -/
  | met (f x : Addr)
  /-- a range object lo, lo + 1, .. below hi -/
  | rng (lo hi : Int)
  /-- a thing that is known to the object (the script; a dict while a loop walks it): read, never written while it is so -/
  | frz (o : Obj) (u : HO)
  /-- a code object's table -/
  | tbl (ps : Array Value)
  /-- any other thing, by what is true of its one object (a def of one's own: SetO a S n := HO.ext fun h => ..) -/
  | ext (φ : Heap → Prop)

abbrev Hp := Addr → Option HO
def upd (H : Hp) (a : Addr) (o : HO) : Hp := fun b => if b = a then some o else H b
theorem upd_same {H : Hp} {a : Addr} {o : HO} : upd H a o a = some o := by unfold upd; rw [if_pos rfl]
theorem upd_ne {H : Hp} {a b : Addr} {o : HO} (h : b ≠ a) : upd H a o b = H b := by unfold upd; rw [if_neg h]
theorem upd_upd {H : Hp} {a : Addr} {o u : HO} : upd (upd H a o) a u = upd H a u := by
  funext b; unfold upd; split <;> rfl
/-- two objects of different content stand apart -/
theorem ne_of {H : Hp} {a b : Addr} {o u : HO} (h : H a = some o) (h' : H b = some u) (d : o ≠ u) : a ≠ b := by
  intro e; subst e; rw [h] at h'; exact d (Option.some.inj h')
theorem ne_of_none {H : Hp} {a b : Addr} {o : HO} (h : H a = some o) (h' : H b = none) : a ≠ b := by
  intro e; subst e; rw [h] at h'; cases h'

section
variable (P : Program) (w : World)
def ObjOk (H : Hp) (h : Heap) (a : Addr) : HO → Prop
  | .lst xs => xs.length ≤ sizeLine ∧ ∃ (its : List Value) (n : Nat), Vals xs its ∧ h.get? a = some { cls := .type "list", data := .seq its.toArray n }
  | .tup xs => xs.length ≤ sizeLine ∧ ∃ its : List Value, Vals xs its ∧ IsTup h a its.toArray
  | .dK kvs => kvs.length ≤ sizeLine ∧ (a == sysModules) = false ∧ ∃ vs, KV kvs vs ∧ h.DictOf (mixKind P w) a vs
  | .dT kvs => kvs.length ≤ sizeLine ∧ (a == sysModules) = false ∧ ∃ xs : List (List Key × Addr × Value),
      Paired (fun (p : List Key × V) (q : List Key × Addr × Value) => p.1 = q.1 ∧ H q.2.1 = some (.tup (p.1.map kV)) ∧ RelV p.2 q.2.2) kvs xs ∧
      ∃ o es ep, h.get? a = some o ∧ o.ExactDict ∧ o.data = .dict es ep ∧ es.toList = xs.map (entryOfKey (tupleKind (mixKind P w))) ∧ (xs.map (·.1)).Nodup
  | .set S n => h.SetOf (intKind P w) a S n
  | .ins C dx fs => H dx = some (.own a) ∧ fs.length ≤ 1000 ∧ dx ≠ a ∧ h.get? a = some (PySem.W.instObj C dx) ∧
      ∃ mA, h.Ns1 dx mA ∧ (∀ f, RelO (fs.lookup f) (mA f)) ∧ PySem.Within mA (fs.map (·.1))
  | .own _ => ∃ o, h.get? a = some o
  | .xd fs => ∃ mA, h.Ns1 a mA ∧ ∀ f, RelO (fs.lookup f) (mA f)
  | .rng lo hi => ∃ t u v, h.get? a = some { cls := .type "range", data := .fields #[.int lo t, .int hi u, .int 1 v] }
  | .frz o u => h.get? a = some o ∧ ObjOk H h a u
  | .tbl ps => h.get? a = some { cls := .none, data := .fields ps }
  | .met f x => h.get? a = some (PySem.W.methodObj (.ref f) (.ref x))
  | .ext φ => φ h ∧ (∃ o, h.get? a = some o) ∧ ∀ h1 h2 : Heap, φ h1 → (∀ o, h1.get? a = some o → h2.get? a = some o) → φ h2
/-- the abstract heap is held -/
def HOk (H : Hp) (h : Heap) : Prop := ∀ a o, H a = some o → ObjOk P w H h a o
end

section
variable {P : Program} {w : World} {H H' : Hp} {h h' : Heap} {a : Addr} {o : HO}
theorem ObjOk.lt (x : ObjOk P w H h a o) : a < h.objs.size := by
  cases o with
  | lst xs => obtain ⟨_, _, _, _, e⟩ := x; exact Heap.lt_size e
  | tup xs => obtain ⟨_, _, _, p⟩ := x; exact p.lt
  | dK kvs => obtain ⟨_, _, _, _, o, _, _, e, _⟩ := x; exact Heap.lt_size e
  | dT kvs => obtain ⟨_, _, _, _, o, _, _, e, _⟩ := x; exact Heap.lt_size e
  | set S n => obtain ⟨o, _, _, _, e, _⟩ := x; exact Heap.lt_size e
  | ins C dx fs => obtain ⟨_, _, _, e, _⟩ := x; exact Heap.lt_size e
  | own y => obtain ⟨_, e⟩ := x; exact Heap.lt_size e
  | xd fs => obtain ⟨_, ⟨_, _, _, e, _⟩, _⟩ := x; exact Heap.lt_size e
  | rng lo hi => obtain ⟨_, _, _, e⟩ := x; exact Heap.lt_size e
  | frz ob u => obtain ⟨e, _⟩ := x; exact Heap.lt_size e
  | tbl ps => exact Heap.lt_size (show h.get? a = some _ from x)
  | met f y => exact Heap.lt_size (show h.get? a = some _ from x)
  | ext φ => obtain ⟨_, ⟨_, e⟩, _⟩ := x; exact Heap.lt_size e
theorem Paired.mapP {α β : Type} {F G : α → β → Prop} : ∀ {l₁ : List α} {l₂ : List β}, Paired F l₁ l₂ → (∀ a b, F a b → G a b) → Paired G l₁ l₂
  | _, _, .nil, _ => .nil
  | _, _, .cons r t, f => .cons (f _ _ r) (Paired.mapP t f)
/-- what an object's description leans on: its own object, its own dict, the tuples -/
theorem ObjOk.stay (x : ObjOk P w H h a o) (k : ∀ b u, (b = a ∨ H b = some (.own a)) → h.get? b = some u → h'.get? b = some u)
    (ho : ∀ b, H b = some (.own a) → H' b = some (.own a)) (ht : ∀ b xs, H b = some (.tup xs) → H' b = some (.tup xs)) : ObjOk P w H' h' a o := by
  induction o with
  | lst xs => obtain ⟨z, its, n, r, e⟩ := x; exact ⟨z, its, n, r, k _ _ (.inl rfl) e⟩
  | tup xs => obtain ⟨z, its, r, ob, e, c⟩ := x; exact ⟨z, its, r, ob, k _ _ (.inl rfl) e, c⟩
  | dK kvs => obtain ⟨z, y, vs, r, ob, es, ep, e, c⟩ := x; exact ⟨z, y, vs, r, ob, es, ep, k _ _ (.inl rfl) e, c⟩
  | dT kvs =>
    obtain ⟨z, y, xs, r, ob, es, ep, e, c⟩ := x
    exact ⟨z, y, xs, Paired.mapP r fun p q z => ⟨z.1, ht _ _ z.2.1, z.2.2⟩, ob, es, ep, k _ _ (.inl rfl) e, c⟩
  | set S n => obtain ⟨ob, es, ep, t, e, c⟩ := x; exact ⟨ob, es, ep, t, k _ _ (.inl rfl) e, c⟩
  | ins C dx fs =>
    obtain ⟨d, z, ne, e, mA, ⟨od, es, ep, e2, c⟩, r⟩ := x
    exact ⟨ho _ d, z, ne, k _ _ (.inl rfl) e, mA, ⟨od, es, ep, k _ _ (.inr d) e2, c⟩, r⟩
  | own y => obtain ⟨ob, e⟩ := x; exact ⟨ob, k _ _ (.inl rfl) e⟩
  | xd fs => obtain ⟨mA, ⟨od, es, ep, e, c⟩, r⟩ := x; exact ⟨mA, ⟨od, es, ep, k _ _ (.inl rfl) e, c⟩, r⟩
  | rng lo hi => obtain ⟨t, u, v, e⟩ := x; exact ⟨t, u, v, k _ _ (.inl rfl) e⟩
  | frz ob u ih => obtain ⟨e, q⟩ := x; exact ⟨k _ _ (.inl rfl) e, ih q⟩
  | tbl ps =>
    have e : h.get? a = some { cls := .none, data := .fields ps } := x
    show h'.get? a = some { cls := .none, data := .fields ps }
    exact k a _ (.inl rfl) e
  | met f y =>
    have e : h.get? a = some (PySem.W.methodObj (.ref f) (.ref y)) := x
    show h'.get? a = some (PySem.W.methodObj (.ref f) (.ref y))
    exact k a _ (.inl rfl) e
  | ext φ => obtain ⟨p, ⟨o, e⟩, st⟩ := x; exact ⟨st _ _ p fun o q => k _ _ (.inl rfl) q, ⟨o, k _ _ (.inl rfl) e⟩, st⟩
theorem HOk.lt (x : HOk P w H h) (e : H a = some o) : a < h.objs.size := (x a o e).lt
theorem HOk.fresh (x : HOk P w H h) (e : h.objs.size ≤ a) : H a = none := by
  cases q : H a with
  | none => rfl
  | some u => exact absurd (Nat.lt_of_lt_of_le (x.lt q) e) (Nat.lt_irrefl _)
/-- every object of the heap is kept -/
theorem HOk.kept (x : HOk P w H h) (k : ∀ b u, h.get? b = some u → h'.get? b = some u) : HOk P w H h' := fun a o e =>
  (x a o e).stay (fun b u _ q => k b u q) (fun _ q => q) fun _ _ q => q
/-- a new object is laid and tracked -/
theorem HOk.laid (x : HOk P w H h) (k : ∀ b u, h.get? b = some u → h'.get? b = some u) (hp : h.objs.size ≤ a) (new : ObjOk P w (upd H a o) h' a o) : HOk P w (upd H a o) h' := fun b u e => by
  have hn := x.fresh hp
  by_cases hb : b = a
  · subst hb; rw [upd_same] at e; cases e; exact new
  · rw [upd_ne hb] at e
    exact (x b u e).stay (fun c v _ q => k c v q) (fun c q => by rw [upd_ne (ne_of_none q hn)]; exact q) fun c xs q => by rw [upd_ne (ne_of_none q hn)]; exact q
end

/-- what may be read as u: it is u, or a known u -/
def Rd (H : Hp) (a : Addr) (u : HO) : Prop := H a = some u ∨ ∃ o, H a = some (.frz o u)
theorem Rd.ok {P : Program} {w : World} {H : Hp} {h : Heap} {a : Addr} {u : HO} (r : Rd H a u) (x : HOk P w H h) : ObjOk P w H h a u := by
  rcases r with r | ⟨o, r⟩
  · exact x a u r
  · obtain ⟨_, q⟩ := x a _ r
    exact q
/-- what may be written -/
def Mut : Option HO → Prop
  | some (.lst _) => True
  | some (.dK _) => True
  | some (.dT _) => True
  | some (.set _ _) => True
  | some (.ins _ _ _) => True
  | some (.ext _) => True
  | _ => False
section
variable {P : Program} {w : World} {H : Hp} {h h' : Heap} {x e : Addr} {o' : HO}
/-- the object at e is changed: x itself, or the dict of the instance x -/
theorem HOk.write (ok : HOk P w H h) (mu : Mut (H x)) (he : e = x ∨ H e = some (.own x)) (k : ∀ b u, b ≠ e → h.get? b = some u → h'.get? b = some u) (heo : ∃ u, h'.get? e = some u)
    (new : ObjOk P w (upd H x o') h' x o') : HOk P w (upd H x o') h' := fun b u q => by
  have nown : ∀ c y, H c = some (.own y) → c ≠ x := fun c y r z => by subst z; rw [r] at mu; exact mu
  have ntup : ∀ c xs, H c = some (.tup xs) → c ≠ x := fun c xs r z => by subst z; rw [r] at mu; exact mu
  by_cases hb : b = x
  · subst hb; rw [upd_same] at q; cases q; exact new
  · rw [upd_ne hb] at q
    by_cases hbe : b = e
    · have q' : H b = some (.own x) := by
        rcases he with z | z
        · exact absurd (hbe.trans z) hb
        · rw [hbe]; exact z
      rw [q] at q'; cases q'
      obtain ⟨v, hv⟩ := heo
      exact ⟨v, by rw [hbe]; exact hv⟩
    · refine (ok b u q).stay (fun c v hc r => k c v ?_ r) (fun c r => by rw [upd_ne (nown c b r)]; exact r) fun c xs r => by rw [upd_ne (ntup c xs r)]; exact r
      rcases hc with rfl | hc
      · exact hbe
      · rintro rfl
        rcases he with z | z
        · exact nown c b hc z
        · rw [hc] at z; cases z; exact hb rfl
end

/-! ### kept unless tracked; of the frames at fs (the callers') the slots may change (an exception that passes writes there); of the records at ex (iterators) nothing is said -/
structure Un (fs ex : List Addr) (H H' : Hp) (h h' : Heap) : Prop where
  keep : ∀ b o, h.get? b = some o → H b = none → b ∉ fs → b ∉ ex → h'.get? b = some o
  slot : ∀ b o, h.get? b = some o → H b = none → b ∈ fs → b ∉ ex → ∃ sl, h'.get? b = some { o with slots := sl }
  free : ∀ b o, h.get? b = some o → H b = none → b ∉ ex → H' b = none
  there : ∀ b o, h.get? b = some o → b ∉ ex → ∃ o', h'.get? b = some o'
  tups : ∀ b xs, H b = some (.tup xs) → H' b = some (.tup xs)
  frzs : ∀ b o u, H b = some (.frz o u) → H' b = some (.frz o u)
  tbls : ∀ b ps, H b = some (.tbl ps) → ∃ more, H' b = some (.tbl (ps ++ more))
section
variable {fs fs' ex ex' : List Addr} {H H1 H2 : Hp} {h h1 h2 h' : Heap} {a x e : Addr} {o : HO}
theorem Un.any (u : Un fs ex H H1 h h1) {b : Addr} {ob : Obj} (q : h.get? b = some ob) (n : H b = none) (hx : b ∉ ex) : ∃ sl, h1.get? b = some { ob with slots := sl } := by
  by_cases hb : b ∈ fs
  · exact u.slot b ob q n hb hx
  · exact ⟨ob.slots, u.keep b ob q n hb hx⟩
theorem Un.kept (k : ∀ b u, h.get? b = some u → h'.get? b = some u) : Un fs ex H H h h' :=
  ⟨fun b ob q _ _ _ => k b ob q, fun b ob q _ _ _ => ⟨ob.slots, k b ob q⟩, fun _ _ _ n _ => n, fun b ob q _ => ⟨ob, k b ob q⟩, fun _ _ q => q, fun _ _ _ q => q, fun _ ps q => ⟨#[], by rw [q]; simp⟩⟩
theorem Un.refl : Un fs ex H H h h := Un.kept fun _ _ q => q
theorem Un.laid (k : ∀ b u, h.get? b = some u → h'.get? b = some u) (hp : h.objs.size ≤ a) (hn : H a = none) : Un fs ex H (upd H a o) h h' where
  keep := fun b u q _ _ _ => k b u q
  slot := fun b u q _ _ _ => ⟨u.slots, k b u q⟩
  free := fun b u q n _ => by rw [upd_ne (Nat.ne_of_lt (Nat.lt_of_lt_of_le (Heap.lt_size q) hp))]; exact n
  there := fun b u q _ => ⟨u, k b u q⟩
  tups := fun b xs q => by rw [upd_ne (ne_of_none q hn)]; exact q
  frzs := fun b u xs q => by rw [upd_ne (ne_of_none q hn)]; exact q
  tbls := fun b ps q => ⟨#[], by rw [upd_ne (ne_of_none q hn), q]; simp⟩
theorem Un.write (mu : Mut (H x)) (he : e = x ∨ H e = some (.own x)) (k : ∀ b u, b ≠ e → h.get? b = some u → h'.get? b = some u) (heo : ∃ u, h'.get? e = some u) : Un fs ex H (upd H x o) h h' := by
  have hx : ∀ b, H b = none → b ≠ x := fun b n z => by subst z; rw [n] at mu; exact mu
  have hb : ∀ b, H b = none → b ≠ e := fun b n z => by
    subst z
    rcases he with r | r
    · exact hx b n r
    · rw [n] at r; cases r
  have hm : ∀ b u, H b = some u → ¬ Mut (some u) → b ≠ x := fun b u q nm z => by subst z; rw [q] at mu; exact nm mu
  refine ⟨fun b u q n _ _ => k b u (hb b n) q, fun b u q n _ _ => ⟨u.slots, k b u (hb b n) q⟩, fun b u q n _ => by rw [upd_ne (hx b n)]; exact n, fun b u q _ => ?_,
    fun b xs q => by rw [upd_ne (hm b _ q fun z => z)]; exact q, fun b u xs q => by rw [upd_ne (hm b _ q fun z => z)]; exact q, fun b ps q => ⟨#[], by rw [upd_ne (hm b _ q fun z => z), q]; simp⟩⟩
  by_cases hbe : b = e
  · subst hbe; exact heo
  · exact ⟨u, k b u hbe q⟩
end

/-! ### the heap without what is tracked -/
def trk (h : Heap) (H : Hp) : List Addr := (List.range h.objs.size).filter fun a => (H a).isSome
def hidT (h : Heap) (H : Hp) : Heap := PySem.W.hideAll h (trk h H)
theorem hidT_size (h : Heap) (H : Hp) : (hidT h H).objs.size = h.objs.size := PySem.W.hideAll_size _ _
theorem hidT_get {h : Heap} {H : Hp} {b : Addr} {o : Obj} (e : h.get? b = some o) (n : H b = none) : (hidT h H).get? b = some o :=
  PySem.W.hideAll_get _ e fun hm => by
    have q : (H b).isSome = true := (List.mem_filter.mp hm).2
    rw [n] at q; simp at q
theorem of_hidT {h : Heap} {H : Hp} {b : Addr} {o : Obj} (e : (hidT h H).get? b = some o) : h.get? b = some o ∧ H b = none := by
  have e' : h.get? b = some o := PySem.W.of_hideAll (trk h H) e
  refine ⟨e', ?_⟩
  cases q : H b with
  | none => rfl
  | some x =>
    have hm : b ∈ trk h H := List.mem_filter.mpr ⟨List.mem_range.mpr (Heap.lt_size e'), by simp [q]⟩
    have z : (hidT h H).get? b = none := PySem.W.hideAll_none (trk h H) hm
    rw [z] at e; cases e

/-! ### OpenK's ledger, filled with every new object but one -/
end L2

namespace L2
open PySem PySem.Spec PyProof.Rows

/-- the module's facts, over the base: the heap at the law's entry without what is tracked there -/
structure Mod (K : PySem.W.Frag) (mg : Str → Option Value) (base : Heap) : Prop where
  kin : K.In base
  glob : base.Ns mainGlobals mg
  blt : ∃ mb, base.Ns builtinsNs mb ∧ ∀ x : Str, x ≠ "__name__" → mb x = bootBuiltins x
  nolimit : base.NoLimit

/-- the context: a def's body (or a comprehension's block) running. base: fixed through the whole law; s₀, H₀: the entry; outer: the frames whose slots others may change (a def's callers); stack: all frames that run;
   ex: iterators that were made ahead of the entry and are walked here (a comprehension's); fn: the names whose cells were made at the entry (a def: all; a comprehension's block: its own); calm: not within an except suite; pn: pins that every state bears; xe: what is wanted of an exception that leaves the code -/
structure Cx where
  prog : Program
  w : World
  K : PySem.W.Frag
  mg : Str → Option Value
  base : Heap
  A : Around
  N : List Str
  s₀ : Shared
  H₀ : Hp
  env : Env
  outer : List Env
  stack : List Env
  ex : List Addr
  fn : Str → Bool
  calm : Bool
  pn : List (Addr × Obj)
  xe : Value → Shared → Prop
/-- the callers' frames -/
def frs (l : List Env) : List Addr := l.filterMap (·.frame)
abbrev Cx.fs (X : Cx) : List Addr := frs X.outer

def Vis (sc : Scope) (x : Str) : Prop := sc.names.lookup x = some .local ∨ sc.names.lookup x = some .cell ∨ sc.names.lookup x = some .free
def Loc (sc : Scope) (x : Str) : Prop := sc.names.lookup x = some .local ∨ sc.names.lookup x = some .cell
def Look (env : Env) (h : Heap) (m : Str → Option Value) (x : Str) (u : Value) : Prop :=
  (env.kindOf x = some .local ∧ m x = some u) ∨ ((env.kindOf x = some .cell ∨ env.kindOf x = some .free) ∧ ∃ c, env.cells.lookup x = some c ∧ h.IsCell c (some u))

structure Cx.Ok (X : Cx) : Prop where
  mod : Mod X.K X.mg X.base
  kind : X.env.scope.kind = .function
  glob : X.env.globals = mainGlobals
  blt : X.env.builtins = builtinsNs
  above : X.s₀.heap.objs.size ≤ X.env.locals
  inj : ∀ x y c, X.env.cells.lookup x = some c → X.env.cells.lookup y = some c → x = y
  has : ∀ x, (X.env.kindOf x = some .cell ∨ X.env.kindOf x = some .free) → ∃ c, X.env.cells.lookup x = some c
  cab : ∀ x c, X.fn x = true → X.env.cells.lookup x = some c → X.s₀.heap.objs.size ≤ c
  hd : X.calm = true → X.A.handled = none
  frames : X.A.frames = some X.stack
  stk : X.stack = X.outer ∨ (X.stack = X.env :: X.outer ∧ X.env.frame = some X.env.locals)
  exf : ∀ b ∈ X.ex, b ≠ X.env.locals ∧ ∀ x c, X.env.cells.lookup x = some c → c ≠ b
  bs : ∀ b o, X.base.get? b = some o → X.s₀.heap.get? b = some o ∧ X.H₀ b = none
  bsz : X.base.objs.size ≤ X.s₀.heap.objs.size
  noex : ∀ b o, X.base.get? b = some o → b ∉ X.ex
  exfs : ∀ b ∈ X.ex, b ∉ X.fs
  funs : X.s₀.heap.FunFrames X.base X.outer
  frf : ∀ b ∈ X.fs, X.H₀ b = none

structure Inv (X : Cx) (pins : List (Addr × Obj)) (σ : List (Option V)) (H : Hp) (s : Shared) : Prop where
  ok : X.Ok
  os : s.os = X.s₀.os
  bare : AllBare s.gens
  base : Un X.fs X.ex X.H₀ H X.s₀.heap s.heap
  loc : ∃ m, s.heap.Ns X.env.locals m ∧ ∀ (i : Nat) (x : Str) (v : V), X.N[i]? = some x → σ[i]? = some (some v) → Vis X.env.scope x → ∃ u, RelV v u ∧ Look X.env s.heap m x u
  cell : ∀ x c, X.env.cells.lookup x = some c → ∃ v, s.heap.IsCell c v
  free : H X.env.locals = none
  freeC : ∀ x c, X.env.cells.lookup x = some c → H c = none
  pin : ∀ p ∈ X.pn ++ pins, s.heap.get? p.1 = some p.2 ∧ H p.1 = none ∧ p.1 ≠ X.env.locals ∧ p.1 ∉ X.fs ∧ ∀ v, p.2.data ≠ .cell v
  hok : HOk X.prog X.w H s.heap
  len : σ.length = X.N.length

section
variable {X : Cx} {pins : List (Addr × Obj)} {σ : List (Option V)} {H H' : Hp} {s : Shared} {h' : Heap}

theorem Cx.Ok.nofr (ok : X.Ok) {b : Addr} {o : Obj} (e : X.base.get? b = some o) : b ∉ X.fs := fun hb => by
  have := (ok.funs.mem hb).1
  rw [e] at this; cases this
theorem Inv.bs (I : Inv X pins σ H s) : ∀ b o, X.base.get? b = some o → s.heap.get? b = some o ∧ H b = none := fun b o e =>
  ⟨I.base.keep b o (I.ok.bs b o e).1 (I.ok.bs b o e).2 (I.ok.nofr e) (I.ok.noex b o e), I.base.free b o (I.ok.bs b o e).1 (I.ok.bs b o e).2 (I.ok.noex b o e)⟩
theorem Inv.bk (I : Inv X pins σ H s) : ∀ b o, X.base.get? b = some o → s.heap.get? b = some o := fun b o e => (I.bs b o e).1
theorem Inv.mod (I : Inv X pins σ H s) : Mod X.K X.mg X.base := I.ok.mod
theorem Inv.kIn (I : Inv X pins σ H s) : X.K.In s.heap := I.ok.mod.kin.keeps I.bk
theorem Inv.lt (I : Inv X pins σ H s) : X.env.locals < s.heap.objs.size := let ⟨_, hn, _⟩ := I.loc; hn.lt
theorem Inv.sz (I : Inv X pins σ H s) : X.s₀.heap.objs.size ≤ s.heap.objs.size := Nat.le_trans I.ok.above (Nat.le_of_lt I.lt)
theorem Inv.nofs (I : Inv X pins σ H s) {a : Addr} (h : s.heap.objs.size ≤ a) : a ∉ X.fs := fun hb => by
  obtain ⟨_, o, ho, _⟩ := I.ok.funs.mem hb
  exact absurd (Nat.lt_of_lt_of_le (Heap.lt_size ho) (Nat.le_trans I.sz h)) (Nat.lt_irrefl _)
theorem Inv.cne (I : Inv X pins σ H s) : ∀ x c, X.env.cells.lookup x = some c → c ≠ X.env.locals := fun x c e z => by
  obtain ⟨v, o, ho, hd⟩ := I.cell x c e
  obtain ⟨m, ⟨o', es, ep, ho', hd', _⟩, _⟩ := I.loc
  rw [z, ho'] at ho; cases ho; rw [hd'] at hd; cases hd
theorem Inv.funs (I : Inv X pins σ H s) : s.heap.FunFrames X.base X.outer := by
  have all : ∀ (l : List Env), (∀ b ∈ frs l, b ∈ X.fs) → X.s₀.heap.FunFrames X.base l → s.heap.FunFrames X.base l := by
    intro l
    induction l with
    | nil => intro _ _; trivial
    | cons env r ih =>
      intro hs hl
      obtain ⟨hk, ⟨L, o, hf, hn, ho, hd⟩, hr⟩ := hl
      have hL : L ∈ X.fs := hs L (by unfold frs; rw [List.filterMap_cons, hf]; exact List.mem_cons_self)
      obtain ⟨sl, e⟩ := I.base.slot L o ho (I.ok.frf L hL) hL fun z => I.ok.exfs L z hL
      exact ⟨hk, ⟨L, _, hf, hn, e, hd⟩, ih (fun b hb => hs b (by unfold frs; rw [List.filterMap_cons, hf]; exact List.mem_cons_of_mem _ hb)) hr⟩
  exact all X.outer (fun _ hb => hb) I.ok.funs

/-- the frames that run, for a call -/
theorem Inv.stack (I : Inv X pins σ H s) : s.heap.FunFrames X.base X.stack := by
  rcases I.ok.stk with e | ⟨e, hf⟩
  · rw [e]; exact I.funs
  · rw [e]
    obtain ⟨m, hn, _⟩ := I.loc
    refine .cons (by rw [I.ok.kind]; decide) hf hn ?_ I.funs
    exact Heap.get?_none_of_le (Nat.le_trans I.ok.bsz I.ok.above)
theorem Inv.stkSub (I : Inv X pins σ H s) : ∀ b ∈ frs X.stack, b ∈ X.env.locals :: X.fs := fun b hb => by
  rcases I.ok.stk with e | ⟨e, hf⟩
  · rw [e] at hb; exact List.mem_cons_of_mem _ hb
  · rw [e] at hb
    unfold frs at hb
    rw [List.filterMap_cons, hf] at hb
    exact hb
theorem Inv.stkFree (I : Inv X pins σ H s) : ∀ b ∈ frs X.stack, H b = none := fun b hb => by
  rcases List.mem_cons.mp (I.stkSub b hb) with e | hb
  · rw [e]; exact I.free
  · obtain ⟨_, o, ho, _⟩ := I.ok.funs.mem hb
    exact I.base.free b o ho (I.ok.frf b hb) fun z => I.ok.exfs b z hb

/-- THE STEP: the untracked objects but the frame and the records at ch are kept (the callers' frames up to slots), the frame's map is kept, the new abstract heap is held -/
theorem Inv.step {g' : Array GenState} {t' : Nat} {d' : Drawn} {ch : List Addr} (I : Inv X pins σ H s)
    (hch : ∀ b ∈ ch, (b ∈ X.ex ∨ X.s₀.heap.objs.size ≤ b) ∧ b ≠ X.env.locals ∧ (∀ x c, X.env.cells.lookup x = some c → c ≠ b) ∧ ∀ p ∈ X.pn ++ pins, p.1 ≠ b)
    (keep : ∀ b o, b ≠ X.env.locals → b ∉ X.fs → b ∉ ch → s.heap.get? b = some o → H b = none → h'.get? b = some o)
    (slot : ∀ b o, b ≠ X.env.locals → b ∈ X.fs → b ∉ ch → s.heap.get? b = some o → H b = none → ∃ sl, h'.get? b = some { o with slots := sl }) (free : ∀ b o, b ∉ ch → s.heap.get? b = some o → H b = none → H' b = none)
    (there : ∀ b o, b ∉ ch → s.heap.get? b = some o → ∃ o', h'.get? b = some o')
    (tups : ∀ b xs, H b = some (.tup xs) → H' b = some (.tup xs)) (frzs : ∀ b o u, H b = some (.frz o u) → H' b = some (.frz o u)) (tbls : ∀ b ps, H b = some (.tbl ps) → ∃ more, H' b = some (.tbl (ps ++ more)))
    (ns : ∀ m, s.heap.Ns X.env.locals m → h'.Ns X.env.locals m) (hok : HOk X.prog X.w H' h') (hg : AllBare g') :
    Inv X pins σ H' { s with heap := h', gens := g', drawn := d', toks := t' } := by
  have neL : ∀ b o, X.s₀.heap.get? b = some o → b ≠ X.env.locals := fun b o e => Nat.ne_of_lt (Nat.lt_of_lt_of_le (Heap.lt_size e) I.ok.above)
  have neC : ∀ b o, X.s₀.heap.get? b = some o → b ∉ X.ex → b ∉ ch := fun b o e hx hb => by
    rcases (hch b hb).1 with z | z
    · exact hx z
    · exact absurd (Nat.lt_of_lt_of_le (Heap.lt_size e) z) (Nat.lt_irrefl _)
  have cellK : ∀ x c, X.env.cells.lookup x = some c → ∀ v, s.heap.IsCell c v → h'.IsCell c v := fun x c e v ⟨o, ho, hd⟩ => by
    have nch : c ∉ ch := fun z => (hch c z).2.2.1 x c e rfl
    by_cases hc : c ∈ X.fs
    · obtain ⟨sl, q⟩ := slot c o (I.cne x c e) hc nch ho (I.freeC x c e)
      exact ⟨_, q, hd⟩
    · exact ⟨o, keep c o (I.cne x c e) hc nch ho (I.freeC x c e), hd⟩
  refine ⟨I.ok, I.os, hg, ⟨fun b o e n hb hx => ?_, fun b o e n hb hx => ?_, fun b o e n hx => ?_, fun b o e hx => ?_, fun b xs e => tups b xs (I.base.tups b xs e), fun b o xs e => frzs b o xs (I.base.frzs b o xs e), fun b ps e => ?_⟩, ?_, fun x c e => ?_, ?_, fun x c e => ?_, fun p hp => ?_, hok, I.len⟩
  · exact keep b o (neL b o e) hb (neC b o e hx) (I.base.keep b o e n hb hx) (I.base.free b o e n hx)
  · obtain ⟨sl, e1⟩ := I.base.slot b o e n hb hx
    obtain ⟨sl', e2⟩ := slot b _ (neL b o e) hb (neC b o e hx) e1 (I.base.free b o e n hx)
    exact ⟨sl', e2⟩
  · obtain ⟨o', e1⟩ := I.base.there b o e hx
    exact free b o' (neC b o e hx) e1 (I.base.free b o e n hx)
  · obtain ⟨o', e1⟩ := I.base.there b o e hx
    exact there b o' (neC b o e hx) e1
  · obtain ⟨m1, e1⟩ := I.base.tbls b ps e
    obtain ⟨m2, e2⟩ := tbls b _ e1
    exact ⟨m1 ++ m2, by rw [e2, Array.append_assoc]⟩
  · obtain ⟨m, hn, hl⟩ := I.loc
    refine ⟨m, ns m hn, fun i x v e1 e2 e3 => ?_⟩
    obtain ⟨u, r, l⟩ := hl i x v e1 e2 e3
    refine ⟨u, r, ?_⟩
    rcases l with l | ⟨k, c, e, z⟩
    · exact .inl l
    · exact .inr ⟨k, c, e, cellK x c e _ z⟩
  · obtain ⟨v, z⟩ := I.cell x c e
    exact ⟨v, cellK x c e v z⟩
  · obtain ⟨m, ⟨o, _, _, ho, _⟩, _⟩ := I.loc
    exact free _ o (fun z => (hch _ z).2.1 rfl) ho I.free
  · obtain ⟨v, o, ho, hd⟩ := I.cell x c e
    exact free c o (fun z => (hch c z).2.2.1 x c e rfl) ho (I.freeC x c e)
  · obtain ⟨e, n, ne, nf, d⟩ := I.pin p hp
    have nch : p.1 ∉ ch := fun z => (hch p.1 z).2.2.2 p hp rfl
    exact ⟨keep p.1 p.2 ne nf nch e n, free p.1 p.2 nch e n, ne, nf, d⟩
/-- .. where the frame's own object is kept too -/
theorem Inv.un {t' : Nat} (I : Inv X pins σ H s) (u : Un X.fs [] H H' s.heap h') (hok : HOk X.prog X.w H' h') : Inv X pins σ H' { s with heap := h', toks := t' } := by
  obtain ⟨m, ⟨o, es, ep, ho, r⟩, _⟩ := id I.loc
  obtain ⟨sl, hL⟩ := u.any ho I.free (by simp)
  exact I.step (g' := s.gens) (d' := s.drawn) (ch := []) (fun _ z => nomatch z) (fun b o _ hb _ e n => u.keep b o e n hb (by simp)) (fun b o _ hb _ e n => u.slot b o e n hb (by simp)) (fun b o _ e n => u.free b o e n (by simp)) (fun b o _ e => u.there b o e (by simp)) u.tups u.frzs u.tbls (fun m' hm => by
    obtain ⟨o', es', ep', ho', r'⟩ := hm
    rw [ho] at ho'; cases ho'
    exact ⟨_, es', ep', hL, r'⟩) hok I.bare
/-- behind a call (or a comprehension's block): the slots of this frame may have changed too, the records at ch may have turned -/
theorem Inv.call {g' : Array GenState} {t' : Nat} {d' : Drawn} {ch : List Addr} (I : Inv X pins σ H s) (u : Un (frs X.stack) ch H H' s.heap h') (hok : HOk X.prog X.w H' h') (hg : AllBare g')
    (hch : ∀ b ∈ ch, (b ∈ X.ex ∨ X.s₀.heap.objs.size ≤ b) ∧ b ≠ X.env.locals ∧ (∀ x c, X.env.cells.lookup x = some c → c ≠ b) ∧ ∀ p ∈ X.pn ++ pins, p.1 ≠ b) :
    Inv X pins σ H' { s with heap := h', gens := g', drawn := d', toks := t' } := by
  obtain ⟨m, ⟨o, es, ep, ho, r⟩, _⟩ := id I.loc
  obtain ⟨sl, hL⟩ := u.any ho I.free fun z => (hch _ z).2.1 rfl
  exact I.step (ch := ch) hch (fun b o hL hb hc e n => u.keep b o e n (fun z => (List.mem_cons.mp (I.stkSub b z)).elim hL hb) hc) (fun b o _ _ hc e n => u.any e n hc) (fun b o hc e n => u.free b o e n hc) (fun b o hc e => u.there b o e hc) u.tups u.frzs u.tbls (fun m' hm => by
    obtain ⟨o', es', ep', ho', r'⟩ := hm
    rw [ho] at ho'; cases ho'
    exact ⟨_, es', ep', hL, r'⟩) hok hg
/-- an untracked record of ours (an iterator) has turned -/
theorem Inv.turned {t' : Nat} {it : Addr} (I : Inv X pins σ H s) (k : ∀ b o, b ≠ it → s.heap.get? b = some o → h'.get? b = some o) (hn : H it = none) (hL : it ≠ X.env.locals)
    (h1 : it ∈ X.ex ∨ X.s₀.heap.objs.size ≤ it) (h2 : ∀ x c, X.env.cells.lookup x = some c → c ≠ it) (h3 : ∀ p ∈ X.pn ++ pins, p.1 ≠ it) : Inv X pins σ H { s with heap := h', toks := t' } := by
  have nit : ∀ b u, H b = some u → b ≠ it := fun b u e z => by rw [z, hn] at e; cases e
  refine I.step (g' := s.gens) (d' := s.drawn) (ch := [it]) (fun b hb => ?_) (fun b o _ _ hc e _ => k b o (fun z => hc (by simp [z])) e) (fun b o _ _ hc e _ => ⟨o.slots, k b o (fun z => hc (by simp [z])) e⟩) (fun _ _ _ _ n => n)
    (fun b o hc e => ⟨o, k b o (fun z => hc (by simp [z])) e⟩) (fun _ _ e => e) (fun _ _ _ e => e) (fun b ps e => ⟨#[], by rw [e]; simp⟩) (fun m hm => ?_) (fun b u e => ?_) I.bare
  · have e : b = it := by simpa using hb
    subst e
    exact ⟨h1, hL, h2, h3⟩
  · obtain ⟨o, es, ep, ho, r⟩ := hm
    exact ⟨o, es, ep, k _ o (Ne.symm hL) ho, r⟩
  · refine (I.hok b u e).stay (fun c v hc q => k c v ?_ q) (fun _ q => q) fun _ _ q => q
    rcases hc with z | z
    · rw [z]; exact nit b u e
    · exact nit c _ z
theorem Inv.tok (I : Inv X pins σ H s) (t : Nat) : Inv X pins σ H { s with toks := t } := I.un (h' := s.heap) (t' := t) Un.refl I.hok
/-- all objects kept -/
theorem Inv.kept {t' : Nat} (I : Inv X pins σ H s) (k : ∀ b u, s.heap.get? b = some u → h'.get? b = some u) : Inv X pins σ H { s with heap := h', toks := t' } := I.un (Un.kept k) (I.hok.kept k)
/-- a new object laid and tracked -/
theorem Inv.laid {a : Addr} {o : HO} {t' : Nat} (I : Inv X pins σ H s) (k : ∀ b u, s.heap.get? b = some u → h'.get? b = some u) (hp : s.heap.objs.size ≤ a) (new : ObjOk X.prog X.w (upd H a o) h' a o) :
    Inv X pins σ (upd H a o) { s with heap := h', toks := t' } := I.un (Un.laid k hp (I.hok.fresh hp)) (I.hok.laid k hp new)
/-- an object written -/
theorem Inv.write {x e : Addr} {o : HO} {t' : Nat} (I : Inv X pins σ H s) (mu : Mut (H x)) (he : e = x ∨ H e = some (.own x)) (k : ∀ b u, b ≠ e → s.heap.get? b = some u → h'.get? b = some u) (heo : ∃ u, h'.get? e = some u)
    (new : ObjOk X.prog X.w (upd H x o) h' x o) : Inv X pins σ (upd H x o) { s with heap := h', toks := t' } := I.un (Un.write mu he k heo) (I.hok.write mu he k heo new)
/-- forgetting slots, pins -/
theorem Inv.weak {σ' : List (Option V)} (I : Inv X pins σ H s) (hl : σ'.length = σ.length) (w : ∀ (i : Nat) v, σ'[i]? = some (some v) → σ[i]? = some (some v)) : Inv X pins σ' H s :=
  ⟨I.ok, I.os, I.bare, I.base, let ⟨m, hn, hl'⟩ := I.loc; ⟨m, hn, fun i x v e1 e2 e3 => hl' i x v e1 (w i v e2) e3⟩, I.cell, I.free, I.freeC, I.pin, I.hok, hl.trans I.len⟩
theorem Inv.pins_of {pins' : List (Addr × Obj)} (I : Inv X pins σ H s) (h : ∀ p ∈ pins', s.heap.get? p.1 = some p.2 ∧ H p.1 = none ∧ p.1 ≠ X.env.locals ∧ p.1 ∉ X.fs ∧ ∀ v, p.2.data ≠ .cell v) : Inv X pins' σ H s :=
  ⟨I.ok, I.os, I.bare, I.base, I.loc, I.cell, I.free, I.freeC, fun p hp => (List.mem_append.mp hp).elim (fun z => I.pin p (List.mem_append_left _ z)) (h p), I.hok, I.len⟩

theorem nodup_ix {N : List Str} (hN : N.Nodup) {i j : Nat} {x : Str} (a : N[i]? = some x) (b : N[j]? = some x) : i = j := by
  obtain ⟨h1, e1⟩ := List.getElem?_eq_some_iff.mp a
  obtain ⟨h2, e2⟩ := List.getElem?_eq_some_iff.mp b
  exact (List.getElem_inj hN).mp (e1.trans e2.symm)

/-- a name is stored; what changed -/
theorem store_ok2 {M : Model} {A : Around} {E : Value → Shared → Prop} {i : Nat} {x : Str} {v : V} {u : Value} {Q : Unit → Shared → Prop} (I : Inv X pins σ H s) (hN : X.N.Nodup) (hi : X.N[i]? = some x) (hx : Loc X.env.scope x) (r : RelV v u)
    (h : ∀ s', Inv X pins (σ.set i (some v)) H s' → (∃ a, Heap.SameBut a s.heap s'.heap ∧ (a = X.env.locals ∨ X.env.cells.lookup x = some a)) → Q () s') (hf : X.fn x = true ∨ X.env.scope.names.lookup x = some .local := by first | exact .inl rfl | exact .inr rfl | assumption) : wpAny M A (storeName X.env x u) Q E s := by
  obtain ⟨m, hn, hl⟩ := id I.loc
  have hcls : (X.env.scope.kind == .class || (X.env.scope.kind == .module && X.env.locals != X.env.globals)) = false := by rw [I.ok.kind]; rfl
  have hiσ : i < σ.length := by rw [I.len]; exact (List.getElem?_eq_some_iff.mp hi).1
  have cne := I.cne
  have tracked : ∀ {a : Addr} {h' : Heap}, (∃ o, s.heap.get? a = some o ∧ H a = none) → Heap.SameBut a s.heap h' → HOk X.prog X.w H h' := fun {a h'} ha hs b ob e => by
    obtain ⟨_, _, hfree⟩ := ha
    refine (I.hok b ob e).stay (fun c w' hc q => (hs.2 c ?_).trans q) (fun _ q => q) fun _ _ q => q
    rintro rfl
    rcases hc with rfl | hc
    · rw [hfree] at e; cases e
    · rw [hfree] at hc; cases hc
  rcases hx with hk | hk
  · refine wpAny_storeName_local hk hn (fun h' hn' hs => ?_) hcls
    obtain ⟨oL, _, _, hoL, _⟩ := id hn
    refine h _ ⟨I.ok, I.os, I.bare, ⟨fun b o e n hb hx => ?_, fun b o e n hb hx => ?_, I.base.free, fun b o e hx => ?_, I.base.tups, I.base.frzs, I.base.tbls⟩, ⟨_, hn', fun j y v' e1 e2 e3 => ?_⟩, fun y c e => ?_, I.free, I.freeC, fun p hp => ?_, tracked ⟨oL, hoL, I.free⟩ hs, by simpa using I.len⟩ ⟨_, hs, .inl rfl⟩
    · exact (hs.2 b (Nat.ne_of_lt (Nat.lt_of_lt_of_le (Heap.lt_size e) I.ok.above))).trans (I.base.keep b o e n hb hx)
    · obtain ⟨sl, e1⟩ := I.base.slot b o e n hb hx
      exact ⟨sl, (hs.2 b (Nat.ne_of_lt (Nat.lt_of_lt_of_le (Heap.lt_size e) I.ok.above))).trans e1⟩
    · obtain ⟨o', e1⟩ := I.base.there b o e hx
      exact ⟨o', (hs.2 b (Nat.ne_of_lt (Nat.lt_of_lt_of_le (Heap.lt_size e) I.ok.above))).trans e1⟩
    · by_cases hj : j = i
      · subst hj
        rw [hi] at e1; cases e1
        rw [List.getElem?_set_self hiσ] at e2
        cases e2
        exact ⟨u, r, .inl ⟨hk, by simp⟩⟩
      · rw [List.getElem?_set_ne (Ne.symm hj)] at e2
        obtain ⟨u', r', q⟩ := hl j y v' e1 e2 e3
        refine ⟨u', r', ?_⟩
        rcases q with ⟨k, e⟩ | ⟨k, c, e, z⟩
        · refine .inl ⟨k, ?_⟩
          have : y ≠ x := fun e => hj (nodup_ix hN e1 (e ▸ hi))
          simp [this, e]
        · exact .inr ⟨k, c, e, z.sameBut hs (cne y c e)⟩
    · obtain ⟨w', z⟩ := I.cell y c e
      exact ⟨w', z.sameBut hs (cne y c e)⟩
    · obtain ⟨e, n, ne, nf, d⟩ := I.pin p hp
      exact ⟨(hs.2 p.1 ne).trans e, n, ne, nf, d⟩
  · have hfn : X.fn x = true := by
      rcases hf with z | z
      · exact z
      · rw [z] at hk; cases hk
    obtain ⟨c, hc⟩ := I.ok.has x (.inl hk)
    obtain ⟨w', z⟩ := I.cell x c hc
    refine wpAny_storeName_cell I.ok.kind hk hc z (fun h' hc' hs => ?_)
    obtain ⟨oc, hoc, hocd⟩ := id z
    refine h { s with heap := h' } ⟨I.ok, I.os, I.bare, ⟨fun b o e n hb hx => ?_, fun b o e n hb hx => ?_, I.base.free, fun b o e hx => ?_, I.base.tups, I.base.frzs, I.base.tbls⟩, ⟨m, hn.sameBut hs (Ne.symm (cne x c hc)), fun j y v' e1 e2 e3 => ?_⟩, fun y c' e => ?_, I.free, I.freeC, fun p hp => ?_, tracked ⟨oc, hoc, I.freeC x c hc⟩ hs, by simpa using I.len⟩ ⟨c, hs, .inr hc⟩
    · exact (hs.2 b (Nat.ne_of_lt (Nat.lt_of_lt_of_le (Heap.lt_size e) (I.ok.cab x c hfn hc)))).trans (I.base.keep b o e n hb hx)
    · obtain ⟨sl, e1⟩ := I.base.slot b o e n hb hx
      exact ⟨sl, (hs.2 b (Nat.ne_of_lt (Nat.lt_of_lt_of_le (Heap.lt_size e) (I.ok.cab x c hfn hc)))).trans e1⟩
    · obtain ⟨o', e1⟩ := I.base.there b o e hx
      exact ⟨o', (hs.2 b (Nat.ne_of_lt (Nat.lt_of_lt_of_le (Heap.lt_size e) (I.ok.cab x c hfn hc)))).trans e1⟩
    · by_cases hj : j = i
      · subst hj
        rw [hi] at e1; cases e1
        rw [List.getElem?_set_self hiσ] at e2
        cases e2
        exact ⟨u, r, .inr ⟨.inl hk, c, hc, hc'⟩⟩
      · rw [List.getElem?_set_ne (Ne.symm hj)] at e2
        obtain ⟨u', r', q⟩ := hl j y v' e1 e2 e3
        refine ⟨u', r', ?_⟩
        rcases q with q | ⟨k, c', e, z'⟩
        · exact .inl q
        · refine .inr ⟨k, c', e, z'.sameBut hs ?_⟩
          rintro rfl
          exact hj (nodup_ix hN e1 (I.ok.inj _ _ _ e hc ▸ hi))
    · by_cases hcc : c' = c
      · subst hcc; exact ⟨_, hc'⟩
      · obtain ⟨w2, z2⟩ := I.cell y c' e
        exact ⟨w2, z2.sameBut hs hcc⟩
    · obtain ⟨e, n, ne, nf, d⟩ := I.pin p hp
      refine ⟨(hs.2 p.1 ?_).trans e, n, ne, nf, d⟩
      intro q
      rw [q, hoc] at e
      have q' : oc = p.2 := Option.some.inj e
      exact d w' (by rw [← q']; exact hocd)
theorem store_ok {M : Model} {A : Around} {E : Value → Shared → Prop} {i : Nat} {x : Str} {v : V} {u : Value} {Q : Unit → Shared → Prop} (I : Inv X pins σ H s) (hN : X.N.Nodup) (hi : X.N[i]? = some x) (hx : Loc X.env.scope x) (r : RelV v u)
    (h : ∀ s', Inv X pins (σ.set i (some v)) H s' → Q () s') (hf : X.fn x = true ∨ X.env.scope.names.lookup x = some .local := by first | exact .inl rfl | exact .inr rfl | assumption) : wpAny M A (storeName X.env x u) Q E s :=
  store_ok2 I hN hi hx r (fun s' I' _ => h s' I') hf
/-- behind a call or a block, the state as it is -/
theorem Inv.call' {s' : Shared} {ch : List Addr} (I : Inv X pins σ H s) (ho : s'.os = s.os) (u : Un (frs X.stack) ch H H' s.heap s'.heap) (hok : HOk X.prog X.w H' s'.heap) (hg : AllBare s'.gens)
    (hch : ∀ b ∈ ch, (b ∈ X.ex ∨ X.s₀.heap.objs.size ≤ b) ∧ b ≠ X.env.locals ∧ (∀ x c, X.env.cells.lookup x = some c → c ≠ b) ∧ ∀ p ∈ X.pn ++ pins, p.1 ≠ b) : Inv X pins σ H' s' := by
  obtain ⟨h', g', d', t', o'⟩ := s'
  have e : o' = s.os := ho
  subst e
  exact I.call (g' := g') (t' := t') (d' := d') u hok hg hch
end

/-! ### the judgements -/
/-- an exception: its class, its own dict's address (where it has one), the abstract heap behind it -/
abbrev XK := Value → Option Addr → Hp → Prop
abbrev St := List (Option V)
abbrev VK := V → Hp → Prop
/-- an expression's reading; a test's; an argument list's -/
abbrev TE := St → Hp → VK → Prop
abbrev TT := St → Hp → (Bool → Hp → Prop) → Prop
abbrev TA := St → Hp → (List V → Hp → Prop) → Prop
/-- what is wanted behind a statement -/
structure Ends where
  nx : St → Hp → Prop
  rt : VK
  bk : St → Hp → Prop := fun _ _ => False
  ct : St → Hp → Prop := fun _ _ => False
abbrev TS := Ends → St → Hp → Prop

def EP (X : Cx) (pins : List (Addr × Obj)) (σ : St) (Q : VK) (u : Value) (s' : Shared) : Prop := ∃ v H', Inv X pins σ H' s' ∧ RelV v u ∧ Q v H'
def TP (X : Cx) (pins : List (Addr × Obj)) (σ : St) (Q : Bool → Hp → Prop) (b : Bool) (s' : Shared) : Prop := ∃ H', Inv X pins σ H' s' ∧ Q b H'
def AP (X : Cx) (pins : List (Addr × Obj)) (σ : St) (Q : List V → Hp → Prop) (us : List Value) (s' : Shared) : Prop := ∃ vs H', Inv X pins σ H' s' ∧ Vals vs us ∧ Q vs H'
def SP (X : Cx) (pins : List (Addr × Obj)) (D : Ends) (f : Flow) (s' : Shared) : Prop :=
  match f with
  | .next => ∃ σ' H', Inv X pins σ' H' s' ∧ D.nx σ' H'
  | .brk => ∃ σ' H', Inv X pins σ' H' s' ∧ D.bk σ' H'
  | .cont => ∃ σ' H', Inv X pins σ' H' s' ∧ D.ct σ' H'
  | .ret u => ∃ v σ' H', Inv X pins σ' H' s' ∧ RelV v u ∧ D.rt v H'

def PE (X : Cx) (e : Expr) (t : TE) : Prop :=
  ∀ (pins : List (Addr × Obj)) (s : Shared) (σ : St) (H : Hp) (Q : VK), Inv X pins σ H s → t σ H Q → wpAny (model X.prog X.w) X.A (eval e X.env) (EP X pins σ Q) X.xe s
def PT (X : Cx) (e : Expr) (t : TT) : Prop :=
  ∀ (pins : List (Addr × Obj)) (s : Shared) (σ : St) (H : Hp) (Q : Bool → Hp → Prop), Inv X pins σ H s → t σ H Q → wpAny (model X.prog X.w) X.A (isTrue e X.env (eval e X.env)) (TP X pins σ Q) X.xe s
/-- a test whatever its 'whole' is (and, or) -/
def PW (X : Cx) (e : Expr) (t : TT) : Prop :=
  ∀ (whole : Sem Value) (pins : List (Addr × Obj)) (s : Shared) (σ : St) (H : Hp) (Q : Bool → Hp → Prop), Inv X pins σ H s → t σ H Q → wpAny (model X.prog X.w) X.A (isTrue e X.env whole) (TP X pins σ Q) X.xe s
theorem PW.pt {X : Cx} {e : Expr} {t : TT} (h : PW X e t) : PT X e t := h _
/-- an argument list (no star), from the left -/
def PA (X : Cx) (es : List Expr) (t : TA) : Prop :=
  ∀ (pos : Pos) (pins : List (Addr × Obj)) (s : Shared) (σ : St) (H : Hp) (Q : List V → Hp → Prop), Inv X pins σ H s → t σ H Q → wpAny (model X.prog X.w) X.A (spliced (backTo pos (starEach es X.env))) (AP X pins σ Q) X.xe s
def PS (X : Cx) (st : Stmt) (t : TS) : Prop :=
  ∀ (pins : List (Addr × Obj)) (s : Shared) (σ : St) (H : Hp) (D : Ends), Inv X pins σ H s → t D σ H → wpAny (model X.prog X.w) X.A (exec st X.env) (SP X pins D) X.xe s
def PSs (X : Cx) (st : List Stmt) (t : TS) : Prop :=
  ∀ (pins : List (Addr × Obj)) (s : Shared) (σ : St) (H : Hp) (D : Ends), Inv X pins σ H s → t D σ H → wpAny (model X.prog X.w) X.A (execs st X.env) (SP X pins D) X.xe s
/-- weaken the end -/
theorem thn {α : Type} {t : Sem α} {Q Q' : α → Shared → Prop} {M : Model} {A : Around} {E : Value → Shared → Prop} {s : Shared} (h : wpAny M A t Q E s) (hQ : ∀ a s, Q a s → Q' a s) : wpAny M A t Q' E s := wpAny_mono h hQ fun _ _ x => x
end L2

namespace L2
open PySem PySem.Spec PyProof.Rows
section
variable {X : Cx}

/-! ### names and constants -/
def tVar (i : Nat) : TE := fun σ H Q => ∃ v, σ[i]? = some (some v) ∧ Q v H
def tC (v : V) : TE := fun _ H Q => Q v H
theorem pe_var {i : Nat} {x : Str} {pos : Pos} (hN : X.N[i]? = some x) (hv : Vis X.env.scope x) (hd : (x == ("__debug__" : Str)) = false := by decide) (hcd : (x == ("__classdict__" : Str)) = false := by decide) : PE X (.Name x pos) (tVar i) := by
  intro pins s σ H Q I h
  obtain ⟨v, e, h⟩ := h
  obtain ⟨m, hn, hl⟩ := I.loc
  obtain ⟨u, r, l⟩ := hl i x v hN e hv
  have fin : EP X pins σ Q u s := ⟨v, H, I, r, h⟩
  rcases l with ⟨hk, hm⟩ | ⟨hk, c, hc, hcell⟩
  · exact wpAny_Name (wpAny_loadName_local I.ok.kind hk hn hm fin) hd
  · rcases hk with hk | hk
    · exact wpAny_Name (wpAny_loadName_cell I.ok.kind hk hc hcell fin) hd
    · exact wpAny_Name (wpAny_loadName_free I.ok.kind hk hc hcell fin hcd) hd
theorem pe_int {i j pos} : PE X (.Constant (.int i) j pos) (tC (.int i)) := fun _ _ _ H _ I h => wpAny_Constant_int ⟨.int i, H, I.tok _, ⟨_, rfl⟩, h⟩
theorem pe_bl {b j pos} : PE X (.Constant (.bool b) j pos) (tC (.bl b)) := fun _ _ _ H _ I h => Constant_bool ⟨.bl b, H, I, rfl, h⟩
theorem pe_non {j pos} : PE X (.Constant .none j pos) (tC .non) := fun _ _ _ H _ I h => Constant_none ⟨.non, H, I, rfl, h⟩
theorem pe_str {x j pos} : PE X (.Constant (.str x) j pos) (tC (.str x)) := fun _ _ _ H _ I h => Calls.Constant_str ⟨.str x, H, I.tok _, ⟨_, rfl⟩, h⟩

/-- a global name of the def -/
def Gl (X : Cx) (x : Str) : Prop := X.env.kindOf x = some .globalImplicit
theorem ld_glob {E : Value → Shared → Prop} {pins : List (Addr × Obj)} {s : Shared} {σ : St} {H : Hp} {x : Str} {u : Value} {pos : Pos} {Q : Value → Shared → Prop} (I : Inv X pins σ H s) (hg : Gl X x) (hm : X.mg x = some u) (h : Q u s)
    (hd : (x == ("__debug__" : Str)) = false := by decide) : wpAny (model X.prog X.w) X.A (eval (.Name x pos) X.env) Q E s :=
  Calls.Name_function_global I.ok.kind hg (Calls.loadGlobal_global (by rw [I.ok.glob]; exact I.mod.glob.keeps I.bk) hm h) hd
theorem ld_blt {E : Value → Shared → Prop} {pins : List (Addr × Obj)} {s : Shared} {σ : St} {H : Hp} {x : Str} {u : Value} {pos : Pos} {Q : Value → Shared → Prop} (I : Inv X pins σ H s) (hg : Gl X x) (hm : X.mg x = none) (hv : bootBuiltins x = some u) (h : Q u s)
    (hn : x ≠ "__name__" := by decide) (hd : (x == ("__debug__" : Str)) = false := by decide) : wpAny (model X.prog X.w) X.A (eval (.Name x pos) X.env) Q E s := by
  obtain ⟨mb, h1, h2⟩ := I.mod.blt
  exact Calls.Name_function_global I.ok.kind hg (Calls.loadGlobal_builtin (by rw [I.ok.glob]; exact I.mod.glob.keeps I.bk) hm (by rw [I.ok.blt]; exact h1.keeps I.bk) ((h2 x hn).trans hv) h) hd
/-- a module's constant, a class, a function, as a value -/
theorem pe_glob {x : Str} {v : V} {u : Value} {pos : Pos} (hg : Gl X x) (hm : X.mg x = some u) (r : RelV v u) (hd : (x == ("__debug__" : Str)) = false := by decide) : PE X (.Name x pos) (tC v) :=
  fun _ _ _ H _ I h => ld_glob I hg hm ⟨v, H, I, r, h⟩ hd
theorem pe_bltn {x : Str} {v : V} {u : Value} {pos : Pos} (hg : Gl X x) (hm : X.mg x = none) (hv : bootBuiltins x = some u) (r : RelV v u) (hn : x ≠ "__name__" := by decide) (hd : (x == ("__debug__" : Str)) = false := by decide) : PE X (.Name x pos) (tC v) :=
  fun _ _ _ H _ I h => ld_blt I hg hm hv ⟨v, H, I, r, h⟩ hn hd

/-! ### arithmetic -/
variable {a b : Expr} {ta tb : TE} {pos : Pos}
/-! ### comparisons -/
/-- a comparison as a value, as a test -/
def tB (t : TE) : TT := fun σ H Q => t σ H fun x H1 => ∃ c, x = .bl c ∧ Q c H1
/-- an expression whose value is a bool, as a test -/
theorem pt_val {e : Expr} {t : TE} (h : PE X e t) (he : ∀ whole, isTrue e X.env whole = (do let v ← whole; standAt e.pos; holding [v] (truthy v)) := by intro _; rfl) : PT X e (tB t) := by
  intro pins s σ H Q I hw
  refine isTrue_plain (thn (h pins s σ H _ I hw) fun v s1 ⟨x, H1, I1, r1, q1⟩ => ?_) (he _)
  obtain ⟨d, rfl, q⟩ := q1
  cases r1
  exact wpAny_truthy_bool ⟨H1, I1, q⟩

/-! ### and, or, not -/
variable {tA tB' : TT} {rest : List Expr}
def tAnd (t u : TT) : TT := fun σ H Q => t σ H fun c H1 => if c = true then u σ H1 Q else Q false H1
def tOr (t u : TT) : TT := fun σ H Q => t σ H fun c H1 => if c = true then Q true H1 else u σ H1 Q
def tNot (t : TT) : TT := fun σ H Q => t σ H fun c H1 => Q (!c) H1
theorem pw_and1 (ha : PT X a tA) : PW X (.BoolOp .And [a] pos) tA := by
  intro wh pins s σ H Q I h
  refine isTrue_and (thn (ha pins s σ H Q I h) fun c s1 e => ?_)
  cases c with
  | true => exact isTrue_and_nil e
  | false => exact e
theorem pw_or1 (ha : PT X a tA) : PW X (.BoolOp .Or [a] pos) tA := by
  intro wh pins s σ H Q I h
  refine isTrue_or (thn (ha pins s σ H Q I h) fun c s1 e => ?_)
  cases c with
  | false => exact isTrue_or_nil e
  | true => exact e
theorem pw_and (ha : PT X a tA) (hb : PW X (.BoolOp .And (b :: rest) pos) tB') : PW X (.BoolOp .And (a :: b :: rest) pos) (tAnd tA tB') := by
  intro wh pins s σ H Q I h
  refine isTrue_and (thn (ha pins s σ H _ I h) fun c s1 ⟨H1, I1, q1⟩ => ?_)
  cases c with
  | true => exact hb wh pins s1 σ H1 Q I1 q1
  | false => exact ⟨H1, I1, q1⟩
theorem pw_or (ha : PT X a tA) (hb : PW X (.BoolOp .Or (b :: rest) pos) tB') : PW X (.BoolOp .Or (a :: b :: rest) pos) (tOr tA tB') := by
  intro wh pins s σ H Q I h
  refine isTrue_or (thn (ha pins s σ H _ I h) fun c s1 ⟨H1, I1, q1⟩ => ?_)
  cases c with
  | true => exact ⟨H1, I1, q1⟩
  | false => exact hb wh pins s1 σ H1 Q I1 q1
theorem pt_not (ha : PT X a tA) : PT X (.UnaryOp .Not a pos) (tNot tA) := by
  intro pins s σ H Q I h
  exact isTrue_not (ha pins s σ H (fun c H1 => Q (!c) H1) I h)
/-- .. as values (bools) -/
def tAndV (ta tb : TE) : TE := fun σ H Q => ta σ H fun x H1 => ∃ c, x = .bl c ∧ if c = true then tb σ H1 Q else Q (.bl false) H1
def tOrV (ta tb : TE) : TE := fun σ H Q => ta σ H fun x H1 => ∃ c, x = .bl c ∧ if c = true then Q (.bl true) H1 else tb σ H1 Q
def tNotV (ta : TE) : TE := fun σ H Q => ta σ H fun x H1 => ∃ c, x = .bl c ∧ Q (.bl (!c)) H1
theorem pe_one {op} {t : TE} (h : PE X a t) : PE X (.BoolOp op [a] pos) t := fun pins s σ H Q I hw => BoolOp_one (h pins s σ H Q I hw)
theorem pe_and (ha : PE X a ta) (hb : PE X (.BoolOp .And (b :: rest) pos) tb) : PE X (.BoolOp .And (a :: b :: rest) pos) (tAndV ta tb) := by
  intro pins s σ H Q I h
  refine BoolOp_and (thn (ha pins s σ H _ I h) fun v s1 ⟨x, H1, I1, r1, q1⟩ => ?_)
  obtain ⟨c, rfl, q1⟩ := q1
  cases r1
  refine wpAny_truthy_bool ?_
  cases c with
  | true => exact hb pins s1 σ H1 Q I1 q1
  | false => exact ⟨.bl false, H1, I1, rfl, q1⟩
theorem pe_or (ha : PE X a ta) (hb : PE X (.BoolOp .Or (b :: rest) pos) tb) : PE X (.BoolOp .Or (a :: b :: rest) pos) (tOrV ta tb) := by
  intro pins s σ H Q I h
  refine BoolOp_or (thn (ha pins s σ H _ I h) fun v s1 ⟨x, H1, I1, r1, q1⟩ => ?_)
  obtain ⟨c, rfl, q1⟩ := q1
  cases r1
  refine wpAny_truthy_bool ?_
  cases c with
  | false => exact hb pins s1 σ H1 Q I1 q1
  | true => exact ⟨.bl true, H1, I1, rfl, q1⟩
theorem pe_not (ha : PE X a ta) : PE X (.UnaryOp .Not a pos) (tNotV ta) := by
  intro pins s σ H Q I h
  refine UnaryOp_ (thn (ha pins s σ H _ I h) fun v s1 ⟨x, H1, I1, r1, q1⟩ => ?_)
  obtain ⟨c, rfl, q1⟩ := q1
  cases r1
  exact not_of (wpAny_truthy_bool ⟨.bl (!c), H1, I1, rfl, q1⟩)
/-- a if t else b -/
def tIf (t : TT) (ta tb : TE) : TE := fun σ H Q => t σ H fun c H1 => if c = true then ta σ H1 Q else tb σ H1 Q
theorem pe_ifExp {c : Expr} (hc : PT X c tA) (ha : PE X a ta) (hb : PE X b tb) : PE X (.IfExp c a b pos) (tIf tA ta tb) := by
  intro pins s σ H Q I h
  refine wpAny_IfExp (thn (hc pins s σ H _ I h) fun d s1 ⟨H1, I1, q1⟩ => ?_)
  cases d with
  | true => exact ha pins s1 σ H1 Q I1 q1
  | false => exact hb pins s1 σ H1 Q I1 q1
end
end L2

namespace L2
open PySem PySem.Spec PyProof.Rows

/-! ### a list, a tuple that is read: tracked, frozen, or an object of the module -/
def SqL (K : PySem.W.Frag) (H : Hp) (a : Addr) (xs : List V) : Prop :=
  Rd H a (.lst xs) ∨
    ∃ (o : Obj) (its : Array Value) (n : Nat), K.lookup a = some o ∧ o.cls = .type "list" ∧ o.dict = none ∧ o.data = .seq its n ∧ its.size ≤ sizeLine ∧ Vals xs its.toList
def SqT (K : PySem.W.Frag) (H : Hp) (a : Addr) (xs : List V) : Prop :=
  Rd H a (.tup xs) ∨
    ∃ (o : Obj) (its : Array Value) (n : Nat), K.lookup a = some o ∧ o.cls = .type "tuple" ∧ o.data = .seq its n ∧ its.size ≤ sizeLine ∧ Vals xs its.toList
def absV : Value → Option V
  | .none => some .non
  | .bool b => some (.bl b)
  | .int i _ => some (.int i)
  | .str x _ => some (.str x)
  | .bytes b _ => some (.byt b)
  | .float b _ => some (.flt b)
  | .ref a => some (.ref a)
  | .type n => some (.ty n)
  | _ => none
theorem RelV.abs {x : V} {u : Value} (r : RelV x u) : absV u = some x := by
  cases x with
  | non => cases r; rfl
  | bl _ => cases r; rfl
  | int _ => obtain ⟨t, rfl⟩ := r; rfl
  | str _ => obtain ⟨t, rfl⟩ := r; rfl
  | byt _ => obtain ⟨t, rfl⟩ := r; rfl
  | flt _ => obtain ⟨t, rfl⟩ := r; rfl
  | ref _ => cases r; rfl
  | ty _ => cases r; rfl
theorem RelV.inj {x y : V} {u : Value} (r : RelV x u) (q : RelV y u) : x = y := Option.some.inj (r.abs.symm.trans q.abs)
theorem Vals.inj : ∀ {xs ys : List V} {us : List Value}, Vals xs us → Vals ys us → xs = ys
  | _, _, _, .nil, .nil => rfl
  | _, _, _, .cons r t, .cons r' t' => by rw [r.inj r', Vals.inj t t']
section
variable {X : Cx} {pins : List (Addr × Obj)} {σ : St} {H : Hp} {s : Shared} {a : Addr} {xs ys : List V}
theorem SqL.of {K : PySem.W.Frag} (h : H a = some (.lst xs)) : SqL K H a xs := .inl (.inl h)
theorem SqT.of {K : PySem.W.Frag} (h : H a = some (.tup xs)) : SqT K H a xs := .inl (.inl h)
theorem Inv.list (I : Inv X pins σ H s) (h : SqL X.K H a xs) : ∃ its : List Value, Vals xs its ∧ PlainL s.heap a its.toArray ∧ xs.length ≤ sizeLine := by
  rcases h with h | ⟨o, its, n, hk, hc, hd, hs, hz, r⟩
  · obtain ⟨z, its, n, r, e⟩ := h.ok I.hok
    exact ⟨its, r, ⟨_, n, e, rfl, rfl, rfl⟩, z⟩
  · refine ⟨its.toList, r, ⟨o, n, I.kIn a o hk, hc, hd, by simpa using hs⟩, ?_⟩
    have e := r.length
    simp only [Array.length_toList] at e
    omega
theorem Inv.tuple (I : Inv X pins σ H s) (h : SqT X.K H a xs) : ∃ its : List Value, Vals xs its ∧ IsTup s.heap a its.toArray ∧ xs.length ≤ sizeLine := by
  rcases h with h | ⟨o, its, n, hk, hc, hs, hz, r⟩
  · obtain ⟨z, its, r, p⟩ := h.ok I.hok
    exact ⟨its, r, p, z⟩
  · refine ⟨its.toList, r, ⟨o, I.kIn a o hk, hc, n, by simpa using hs⟩, ?_⟩
    have e := r.length
    simp only [Array.length_toList] at e
    omega
theorem Inv.list_inj (I : Inv X pins σ H s) (h : SqL X.K H a xs) (h' : SqL X.K H a ys) : xs = ys := by
  obtain ⟨its, r, ⟨o, n, e, _, _, d⟩, _⟩ := I.list h
  obtain ⟨its', r', ⟨o', n', e', _, _, d'⟩, _⟩ := I.list h'
  rw [e] at e'; cases e'
  rw [d] at d'
  injection d' with d1 _
  have : its = its' := by simpa using congrArg Array.toList d1
  subst this
  exact r.inj r'
theorem Inv.tuple_inj (I : Inv X pins σ H s) (h : SqT X.K H a xs) (h' : SqT X.K H a ys) : xs = ys := by
  obtain ⟨its, r, ⟨o, e, _, n, d⟩, _⟩ := I.tuple h
  obtain ⟨its', r', ⟨o', e', _, n', d'⟩, _⟩ := I.tuple h'
  rw [e] at e'; cases e'
  rw [d] at d'
  injection d' with d1 _
  have : its = its' := by simpa using congrArg Array.toList d1
  subst this
  exact r.inj r'
end

/-! ### another wish about exceptions -/
abbrev Cx.wish (X : Cx) (E : Value → Shared → Prop) : Cx := { X with xe := E }
/-- no exception leaves -/
abbrev Cx.nox (X : Cx) : Cx := X.wish fun _ _ => False
theorem Cx.Ok.wish {X : Cx} (ok : X.Ok) (E : Value → Shared → Prop) : (X.wish E).Ok :=
  ⟨ok.mod, ok.kind, ok.glob, ok.blt, ok.above, ok.inj, ok.has, ok.cab, ok.hd, ok.frames, ok.stk, ok.exf, ok.bs, ok.bsz, ok.noex, ok.exfs, ok.funs, ok.frf⟩
theorem Cx.Ok.unwish {X : Cx} {E : Value → Shared → Prop} (ok : (X.wish E).Ok) : X.Ok :=
  ⟨ok.mod, ok.kind, ok.glob, ok.blt, ok.above, ok.inj, ok.has, ok.cab, ok.hd, ok.frames, ok.stk, ok.exf, ok.bs, ok.bsz, ok.noex, ok.exfs, ok.funs, ok.frf⟩
section
variable {X : Cx} {pins : List (Addr × Obj)} {σ : St} {H : Hp} {s : Shared} {E : Value → Shared → Prop}
theorem Inv.wish (I : Inv X pins σ H s) (E : Value → Shared → Prop) : Inv (X.wish E) pins σ H s := ⟨I.ok.wish E, I.os, I.bare, I.base, I.loc, I.cell, I.free, I.freeC, I.pin, I.hok, I.len⟩
theorem Inv.unwish (I : Inv (X.wish E) pins σ H s) : Inv X pins σ H s := ⟨I.ok.unwish, I.os, I.bare, I.base, I.loc, I.cell, I.free, I.freeC, I.pin, I.hok, I.len⟩
theorem SP.unwish {D : Ends} {f : Flow} {s' : Shared} (h : SP (X.wish E) pins D f s') : SP X pins D f s' := by
  cases f with
  | next => obtain ⟨σ', H', I, q⟩ := h; exact ⟨σ', H', I.unwish, q⟩
  | brk => obtain ⟨σ', H', I, q⟩ := h; exact ⟨σ', H', I.unwish, q⟩
  | cont => obtain ⟨σ', H', I, q⟩ := h; exact ⟨σ', H', I.unwish, q⟩
  | ret u => obtain ⟨v, σ', H', I, r, q⟩ := h; exact ⟨v, σ', H', I.unwish, r, q⟩
theorem PSs.nox {st : List Stmt} {t : TS} (h : PSs X.nox st t) : PSs X st t := fun pins s σ H D I hw =>
  wpAny_mono (h pins s σ H D (I.wish _) hw) (fun _ _ q => q.unwish) fun _ _ z => False.elim z
end

/-! ### blocks and small statements -/
section
variable {X : Cx} {st : Stmt} {rest : List Stmt} {t u : TS} {e : Expr} {te : TE} {pos : Pos}
def tNext : TS := fun D σ H => D.nx σ H
def tSeq (t u : TS) : TS := fun D σ H => t { D with nx := u D } σ H
theorem pss_nil : PSs X [] tNext := fun _ _ σ H _ I h => wpAny_execs_nil ⟨σ, H, I, h⟩
theorem pss_cons (h1 : PS X st t) (h2 : PSs X rest u) : PSs X (st :: rest) (tSeq t u) := by
  intro pins s σ H D I h
  refine wpAny_execs_cons (thn (h1 pins s σ H { D with nx := u D } I h) fun f s1 q => ?_)
  cases f with
  | next =>
    obtain ⟨σ', H', I', q⟩ := q
    exact h2 pins s1 σ' H' D I' q
  | ret v => exact q
  | brk => exact q
  | cont => exact q
theorem pss_one (h1 : PS X st t) : PSs X [st] t := by
  intro pins s σ H D I h
  refine wpAny_execs_cons (thn (h1 pins s σ H D I h) fun f s1 q => ?_)
  cases f with
  | next => exact wpAny_execs_nil q
  | ret v => exact q
  | brk => exact q
  | cont => exact q
/-- in a def's body nothing is shown -/
theorem Inv.quiet {pins : List (Addr × Obj)} {σ : St} {H : Hp} {s : Shared} (I : Inv X pins σ H s) : interactive X.env = false := by simp [interactive, I.ok.kind]
/-- an expression whose value is dropped -/
def tDrop (te : TE) : TS := fun D σ H => te σ H fun _ H1 => D.nx σ H1
theorem ps_expr (he : PE X e te) (hs : swapsWith e none pos.line X.env = pure false := by rfl) : PS X (.Expr e pos) (tDrop te) := by
  intro pins s σ H D I h
  exact wpAny_Expr_any (thn (he pins s σ H _ I h) fun v s1 ⟨x, H1, I1, r1, q1⟩ => ⟨σ, H1, I1, q1⟩) I.quiet hs
def tRet (te : TE) : TS := fun D σ H => te σ H D.rt
theorem ps_ret (he : PE X e te) : PS X (.Return (some e) pos) (tRet te) := by
  intro pins s σ H D I h
  exact wpAny_Return_some (thn (he pins s σ H _ I h) fun v s1 ⟨x, H1, I1, r1, q1⟩ => ⟨x, σ, H1, I1, r1, q1⟩)
def tIfS (c : TT) (t u : TS) : TS := fun D σ H => c σ H fun b H1 => if b = true then t D σ H1 else u D σ H1
theorem ps_if {c : Expr} {a b : List Stmt} {tc : TT} (hc : PT X c tc) (ha : PSs X a t) (hb : PSs X b u) : PS X (.If c a b pos) (tIfS tc t u) := by
  intro pins s σ H D I h
  refine wpAny_If (thn (hc pins s σ H _ I h) fun d s1 ⟨H1, I1, q1⟩ => ?_)
  cases d with
  | true => exact ha pins s1 σ H1 D I1 q1
  | false => exact hb pins s1 σ H1 D I1 q1
/-- code that the proof never comes to -/
def tNever : TS := fun _ _ _ => False
theorem pss_never {sts : List Stmt} : PSs X sts tNever := fun _ _ _ _ _ _ h => h.elim
end

/-! ### targets -/
abbrev TG := V → St → Hp → (St → Hp → Prop) → Prop
abbrev TGs := List V → St → Hp → (St → Hp → Prop) → Prop
def PG (X : Cx) (target : Expr) (t : TG) : Prop :=
  ∀ (pins : List (Addr × Obj)) (s : Shared) (σ : St) (H : Hp) (v : V) (u : Value) (Q : St → Hp → Prop), Inv X pins σ H s → RelV v u → t v σ H Q →
    wpAny (model X.prog X.w) X.A (assign target X.env u) (fun _ s' => ∃ σ' H', Inv X pins σ' H' s' ∧ Q σ' H') X.xe s
/-- several targets, one after another -/
def PGs (X : Cx) (ts : List Expr) (t : TGs) : Prop :=
  ∀ (pins : List (Addr × Obj)) (s : Shared) (σ : St) (H : Hp) (vs : List V) (us : List Value) (Q : St → Hp → Prop), Inv X pins σ H s → Vals vs us → t vs σ H Q →
    wpAny (model X.prog X.w) X.A (assignInOrder ((assignEach ts X.env).map (·.2)) us) (fun _ s' => ∃ σ' H', Inv X pins σ' H' s' ∧ Q σ' H') X.xe s
/-- o[i] = v, by values -/
abbrev TSet := V → V → V → Hp → (Hp → Prop) → Prop
def PSet (X : Cx) (t : TSet) : Prop :=
  ∀ (pins : List (Addr × Obj)) (s : Shared) (σ : St) (H : Hp) (o i v : V) (ov iv u : Value) (Q : Hp → Prop), Inv X pins σ H s → RelV o ov → RelV i iv → RelV v u → t o i v H Q →
    wpAny (model X.prog X.w) X.A (setItem ov iv u) (fun _ s' => ∃ H', Inv X pins σ H' s' ∧ Q H') X.xe s
section
variable {X : Cx} {pos : Pos}
def gName (i : Nat) : TG := fun v σ H Q => Q (σ.set i (some v)) H
theorem pg_name {i : Nat} {x : Str} (hN : X.N.Nodup) (hi : X.N[i]? = some x) (hx : Loc X.env.scope x) (hf : X.fn x = true ∨ X.env.scope.names.lookup x = some .local := by first | exact .inl rfl | exact .inr rfl | assumption) : PG X (.Name x pos) (gName i) := by
  intro pins s σ H v u Q I r h
  exact wpAny_assign_Name (store_ok I hN hi hx r (fun s' I' => ⟨_, H, I', h⟩) hf)
def gNil : TGs := fun vs σ H Q => vs = [] ∧ Q σ H
def gCons (t : TG) (u : TGs) : TGs := fun vs σ H Q => ∃ v r, vs = v :: r ∧ t v σ H fun σ' H' => u r σ' H' Q
theorem pgs_nil : PGs X [] gNil := by
  intro pins s σ H vs us Q I r h
  obtain ⟨e, h⟩ := h
  subst e
  cases r
  exact assignInOrder_nil ⟨σ, H, I, h⟩
theorem pgs_cons {e : Expr} {es : List Expr} {t : TG} {u : TGs} (h1 : PG X e t) (h2 : PGs X es u)
    (hs : (assignEach (e :: es) X.env).map (·.2) = assign e X.env :: (assignEach es X.env).map (·.2) := by rfl) : PGs X (e :: es) (gCons t u) := by
  intro pins s σ H vs us Q I r h
  obtain ⟨v, vr, e1, h⟩ := h
  subst e1
  cases r with
  | cons r rr =>
    rw [hs]
    refine assignInOrder_cons (thn (h1 pins s σ H _ _ _ I r h) fun _ s1 ⟨σ1, H1, I1, q1⟩ => ?_)
    exact h2 pins s1 σ1 H1 _ _ Q I1 rr q1
/-- (a, b, ..) = a tuple of that length -/
def gTup (K : PySem.W.Frag) (n : Nat) (t : TGs) : TG := fun v σ H Q => ∃ a xs, v = .ref a ∧ SqT K H a xs ∧ xs.length = n ∧ t xs σ H Q
theorem pg_tup {es : List Expr} {k : Nat} {t : TGs} {n : Nat} (hc : X.calm = true) (h : PGs X es t)
    (hn : (assignEach es X.env).length = n := by rfl) (hst : (assignEach es X.env).findIdx? (·.1) = none := by rfl) : PG X (.Tuple es k pos) (gTup X.K n t) := by
  intro pins s σ H v u Q I r hw
  obtain ⟨a, xs, e1, hq, hl, hw⟩ := hw
  subst e1
  cases r
  obtain ⟨its, rv, ht, hz⟩ := I.tuple hq
  refine assign_Tuple_tuple (I.ok.hd hc) ht (by simp [hn, ← hl, rv.length]) hst fun h' hx => ?_
  have I1 : Inv X pins σ H { s with heap := h' } := I.kept (t' := s.toks) fun b o e => hx b o (Nat.ne_of_lt (Heap.lt_size e)) e
  exact h pins _ σ H xs _ Q I1 (by simpa using rv) hw
/-- o[i] = .. -/
def gSub (to ti : TE) (t : TSet) : TG := fun v σ H Q => to σ H fun o H1 => ti σ H1 fun i H2 => t o i v H2 fun H3 => Q σ H3
theorem pg_sub {o i : Expr} {to ti : TE} {t : TSet} (ho : PE X o to) (hi : PE X i ti) (hs : PSet X t)
    (ha : ∀ v, assign (.Subscript o i pos) X.env v = (do
      let ov ← holding [v] (eval o X.env)
      let iv ← holding [v, ov] (eval i X.env)
      standAt pos
      holding [v, ov, iv] (setItem ov iv v)
      release [v, ov, iv] []) := by intro _; rfl) : PG X (.Subscript o i pos) (gSub to ti t) := by
  intro pins s σ H v u Q I r h
  rw [ha]
  refine wpAny_bind (wpAny_holding (thn (ho pins s σ H _ I h) fun ov s1 ⟨x, H1, I1, r1, q1⟩ => ?_))
  refine wpAny_bind (wpAny_holding (thn (hi pins s1 σ H1 _ I1 q1) fun iv s2 ⟨y, H2, I2, r2, q2⟩ => ?_))
  refine wpAny_bind (wpAny_standAt (wpAny_bind (wpAny_holding (thn (hs pins s2 σ H2 x y v ov iv u _ I2 r1 r2 r q2) fun _ s3 ⟨H3, I3, q3⟩ => ?_))))
  exact wpAny_release ⟨σ, H3, I3, q3⟩
/-- target = value -/
def tAsg (te : TE) (g : TG) : TS := fun D σ H => te σ H fun x H1 => g x σ H1 D.nx
theorem ps_asg {tg e : Expr} {te : TE} {g : TG} (he : PE X e te) (hg : PG X tg g) (hs : swapsWithSole [tg] e pos.line X.env = pure false := by rfl) (hw : swappedStores [tg] e X.env = pure none := by rfl)
    (h1 : (assignEach [tg] X.env).map (·.2) = [assign tg X.env] := by rfl) : PS X (.Assign [tg] e pos) (tAsg te g) := by
  intro pins s σ H D I h
  refine wpAny_Assign_stores (thn (he pins s σ H _ I h) fun v s1 ⟨x, H1, I1, r1, q1⟩ => ?_) hs hw
  rw [h1]
  exact thn (hg pins s1 σ H1 x v _ I1 r1 q1) fun _ s2 q => q
/-- name = value -/
theorem ps_set {i : Nat} {x : Str} {e : Expr} {te : TE} {pos' : Pos} (hN : X.N.Nodup) (hi : X.N[i]? = some x) (hx : Loc X.env.scope x) (he : PE X e te) (hs : swapsWith e (some (.Name x pos')) pos.line X.env = pure false := by rfl) (hf : X.fn x = true ∨ X.env.scope.names.lookup x = some .local := by first | exact .inl rfl | exact .inr rfl | assumption) :
    PS X (.Assign [.Name x pos'] e pos) (tAsg te (gName i)) := by
  intro pins s σ H D I h
  refine wpAny_Assign_Name (thn (he pins s σ H _ I h) fun v s1 ⟨y, H1, I1, r1, q1⟩ => ?_) hs
  exact store_ok I1 hN hi hx r1 (fun s2 I2 => ⟨_, H1, I2, q1⟩) hf
end

/-! ### while -/

/-! ### what a loop or a comprehension walks -/
/-- at turn i: it yields x (the heap may grow), or it stops -/
structure It where
  go : Nat → Hp → Prop
  yld : Nat → Hp → V → Hp → Prop
  stop : Nat → Hp → Prop
/-- the iterator's own objects may turn: they are not the frame's, not pinned, younger than the entry (or a comprehension's own) -/
def FpOk (X : Cx) (pins : List (Addr × Obj)) (H : Hp) (b : Addr) : Prop :=
  H b = none ∧ b ≠ X.env.locals ∧ b ∉ X.fs ∧ (b ∈ X.ex ∨ X.s₀.heap.objs.size ≤ b) ∧ (∀ x c, X.env.cells.lookup x = some c → c ≠ b) ∧ ∀ p ∈ X.pn ++ pins, p.1 ≠ b
theorem Inv.fpOk {X : Cx} {pins : List (Addr × Obj)} {σ : St} {H H' : Hp} {s : Shared} {b : Addr} (I : Inv X pins σ H s) (hb : s.heap.objs.size ≤ b) (hn : H' b = none) : FpOk X pins H' b := by
  refine ⟨hn, Nat.ne_of_gt (Nat.lt_of_lt_of_le I.lt hb), I.nofs hb, .inr (Nat.le_trans I.sz hb), fun x c e z => ?_, fun p hp z => ?_⟩
  · obtain ⟨v, q⟩ := I.cell x c e
    exact absurd (Nat.lt_of_lt_of_le q.lt (by rw [z]; exact hb)) (Nat.lt_irrefl _)
  · exact absurd (Nat.lt_of_lt_of_le (Heap.lt_size (I.pin p hp).1) (by rw [z]; exact hb)) (Nat.lt_irrefl _)
structure Turn (P : Program) (w : World) (K : PySem.W.Frag) (tg : Expr) (J : It) (fp : List Addr) (it : Addr) (tn : Nat → Heap → Prop) : Prop where
  mem : it ∈ fp
  obj : ∀ i h, tn i h → ∀ b ∈ fp, ∃ o, h.get? b = some o ∧ ∀ v, o.data ≠ .cell v
  keep : ∀ i h h', tn i h → (∀ b ∈ fp, ∀ o, h.get? b = some o → h'.get? b = some o) → tn i h'
  item : ∀ (X : Cx), X.prog = P → X.w = w → X.K = K → X.calm = true → ∀ (i : Nat) (pins : List (Addr × Obj)) (s : Shared) (σ : St) (H : Hp) (E : Value → Shared → Prop), Inv X pins σ H s → (∀ b ∈ fp, FpOk X pins H b) → tn i s.heap → J.go i H →
    wpAny (model P w) X.A (pyNext (.ref it)) (fun r s1 => ∃ u, r = some u ∧
      wpAny (model P w) X.A (letOwnedTupleGo tg (.ref it) u) (fun _ s2 => ∃ x H', Inv X pins σ H' s2 ∧ RelV x u ∧ J.yld i H x H' ∧ tn (i + 1) s2.heap ∧ ∀ b ∈ fp, H' b = none) E s1) E s
  done : ∀ (X : Cx), X.prog = P → X.w = w → X.K = K → X.calm = true → ∀ (i : Nat) (pins : List (Addr × Obj)) (s : Shared) (σ : St) (H : Hp) (E : Value → Shared → Prop), Inv X pins σ H s → (∀ b ∈ fp, FpOk X pins H b) → tn i s.heap → J.stop i H →
    wpAny (model P w) X.A (pyNext (.ref it)) (fun r s1 => r = none ∧ Inv X pins σ H s1) E s
  self : ∀ (A : Around) (i : Nat) (s : Shared) (Q : Value → Shared → Prop) (E : Value → Shared → Prop), tn i s.heap → Q (.ref it) s → wpAny (model P w) A (pyIter (.ref it)) Q E s
abbrev TI := St → Hp → (It → Hp → Prop) → Prop
/-- an iterator has come -/
def PIE (X : Cx) (pins : List (Addr × Obj)) (σ : St) (tg : Expr) (R : It → Hp → Prop) (itv : Value) (s2 : Shared) : Prop :=
  ∃ (it : Addr) (fp : List Addr) (tn : Nat → Heap → Prop) (J : It) (H' : Hp), itv = .ref it ∧ Inv X pins σ H' s2 ∧ Turn X.prog X.w X.K tg J fp it tn ∧ tn 0 s2.heap ∧ (∀ b ∈ fp, FpOk X pins H' b) ∧ R J H'
def PI (X : Cx) (tg iter : Expr) (wi : TI) : Prop :=
  ∀ (pins : List (Addr × Obj)) (s : Shared) (σ : St) (H : Hp) (R : It → Hp → Prop), Inv X pins σ H s → wi σ H R →
    wpAny (model X.prog X.w) X.A (eval iter X.env) (fun v s1 => wpAny (model X.prog X.w) X.A (pyIter v) (PIE X pins σ tg R) X.xe s1) X.xe s

/-- the step ahead of the store is nothing for an iterator that keeps no tuple -/
theorem go_of {M : Model} {A : Around} {E : Value → Shared → Prop} {s : Shared} {tg : Expr} {it : Addr} {u : Value} {o : Obj} {n : String} {vs : Array Value} {Q : Unit → Shared → Prop} (ho : s.heap.get? it = some o) (hc : o.cls = .type n) (hd : o.data = .fields vs)
    (hn : ["enumerate", "zip", "dict_itemiterator", "dict_reverseitemiterator", "odict_iterator", "itertools.zip_longest", "itertools.pairwise"].contains n = false) (hQ : Q () s) : wpAny M A (letOwnedTupleGo tg (.ref it) u) Q E s := by
  unfold letOwnedTupleGo
  cases tg <;> first
    | exact wpAny_pure hQ
    | (cases u <;> first
        | exact wpAny_pure hQ
        | (refine wpAny_bind (wpAny_load ho ?_)
           rw [hc, hd]
           show wpAny M A (if (["enumerate", "zip", "dict_itemiterator", "dict_reverseitemiterator", "odict_iterator", "itertools.zip_longest", "itertools.pairwise"].contains n && vs[0]? == some (rawInt _)) = true then _ else _) Q E s
           rw [if_neg (by intro h; rw [hn, Bool.false_and] at h; cases h)]
           exact wpAny_pure hQ))

/-- the list at a, as it stands at each turn (a loop may append to it) -/
def Itl (K : PySem.W.Frag) (a : Addr) : It :=
  ⟨fun i H => ∃ xs x, SqL K H a xs ∧ xs[i]? = some x, fun i H x H' => H' = H ∧ ∀ xs, SqL K H a xs → xs[i]? = some x, fun i H => ∃ xs, SqL K H a xs ∧ xs.length ≤ i⟩
def Itt (K : PySem.W.Frag) (a : Addr) : It :=
  ⟨fun i H => ∃ xs x, SqT K H a xs ∧ xs[i]? = some x, fun i H x H' => H' = H ∧ ∀ xs, SqT K H a xs → xs[i]? = some x, fun i H => ∃ xs, SqT K H a xs ∧ xs.length ≤ i⟩
/-- lo, lo + 1, .. (n of them) -/
def Itr (lo : Int) (n : Nat) : It := ⟨fun i _ => i < n, fun i H x H' => H' = H ∧ x = .int (lo + i), fun i _ => n ≤ i⟩
theorem turn_list {P : Program} {w : World} {K : PySem.W.Frag} {tg : Expr} (a it : Addr) : Turn P w K tg (Itl K a) [it] it (fun i h => h.IsListIter it a i) where
  mem := by simp
  obj := fun i h st b hb => by
    have e : b = it := by simpa using hb
    subst e
    obtain ⟨o, e, c, d⟩ := st
    exact ⟨o, e, fun v z => by rw [d] at z; cases z⟩
  keep := fun i h h' st k => st.at fun o e => k it (by simp) o e
  item := by
    intro X hP hw hK hc i pins s σ H E I hf st hg
    subst hP hw hK
    obtain ⟨xs, x, hq, hx⟩ := hg
    obtain ⟨its, rv, p, hz⟩ := I.list hq
    obtain ⟨u, hu, ru⟩ := rv.get hx
    obtain ⟨f0, f1, f2, f3, f4, f5⟩ := hf it (by simp)
    refine wpAny_pyNext_list_item st p.isList (x := u) (by simpa using hu) fun h' st' sb => ?_
    have I1 : Inv X pins σ H { s with heap := h' } := I.turned (t' := s.toks) (fun b o hb e => (sb.2 b hb).trans e) f0 f1 f3 f4 f5
    obtain ⟨o, e, c, d⟩ := id st'
    exact ⟨u, rfl, go_of (s := { s with heap := h' }) e c d (by decide) ⟨x, H, I1, ru, ⟨rfl, fun ys hy => by rw [I.list_inj hy hq]; exact hx⟩, st', fun b hb => (hf b hb).1⟩⟩
  done := by
    intro X hP hw hK hc i pins s σ H E I hf st hg
    subst hP hw hK
    obtain ⟨xs, hq, hx⟩ := hg
    obtain ⟨its, rv, p, hz⟩ := I.list hq
    obtain ⟨f0, f1, f2, f3, f4, f5⟩ := hf it (by simp)
    have hl := rv.length
    exact wpAny_pyNext_list_end (I.ok.hd hc) st p.isList (by simp; omega) fun h' eb => ⟨rfl, I.turned (t' := s.toks) (fun b o hb e => eb b o hb e) f0 f1 f3 f4 f5⟩
  self := fun _ _ _ _ _ st h => wpAny_pyIter_listiter st h
theorem turn_tuple {P : Program} {w : World} {K : PySem.W.Frag} {tg : Expr} (a it : Addr) : Turn P w K tg (Itt K a) [it] it (fun i h => h.IsTupleIter it a i) where
  mem := by simp
  obj := fun i h st b hb => by
    have e : b = it := by simpa using hb
    subst e
    obtain ⟨o, e, c, d⟩ := st
    exact ⟨o, e, fun v z => by rw [d] at z; cases z⟩
  keep := fun i h h' st k => st.at fun o e => k it (by simp) o e
  item := by
    intro X hP hw hK hc i pins s σ H E I hf st hg
    subst hP hw hK
    obtain ⟨xs, x, hq, hx⟩ := hg
    obtain ⟨its, rv, p, hz⟩ := I.tuple hq
    obtain ⟨u, hu, ru⟩ := rv.get hx
    obtain ⟨f0, f1, f2, f3, f4, f5⟩ := hf it (by simp)
    refine wpAny_pyNext_tuple_item st (show s.heap.IsTuple a its.toArray from p) (x := u) (by simpa using hu) fun h' st' sb => ?_
    have I1 : Inv X pins σ H { s with heap := h' } := I.turned (t' := s.toks) (fun b o hb e => (sb.2 b hb).trans e) f0 f1 f3 f4 f5
    obtain ⟨o, e, c, d⟩ := id st'
    exact ⟨u, rfl, go_of (s := { s with heap := h' }) e c d (by decide) ⟨x, H, I1, ru, ⟨rfl, fun ys hy => by rw [I.tuple_inj hy hq]; exact hx⟩, st', fun b hb => (hf b hb).1⟩⟩
  done := by
    intro X hP hw hK hc i pins s σ H E I hf st hg
    subst hP hw hK
    obtain ⟨xs, hq, hx⟩ := hg
    obtain ⟨its, rv, p, hz⟩ := I.tuple hq
    obtain ⟨f0, f1, f2, f3, f4, f5⟩ := hf it (by simp)
    have hl := rv.length
    exact wpAny_pyNext_tuple_end (I.ok.hd hc) st (show s.heap.IsTuple a its.toArray from p) (by simp; omega) fun h' eb => ⟨rfl, I.turned (t' := s.toks) (fun b o hb e => eb b o hb e) f0 f1 f3 f4 f5⟩
  self := fun _ _ _ _ _ st h => wpAny_pyIter_tupleiter st h
theorem turn_range {P : Program} {w : World} {K : PySem.W.Frag} {tg : Expr} (it : Addr) (lo : Int) (n : Nat) : Turn P w K tg (Itr lo n) [it] it (fun i h => IsRangeIter h it (lo + (i : Nat) * 1) ((n : Int) - (i : Nat)) 1) where
  mem := by simp
  obj := fun i h st b hb => by
    have e : b = it := by simpa using hb
    subst e
    exact ⟨_, st, fun v z => by
      have z' : Data.fields _ = Data.cell v := z
      cases z'⟩
  keep := fun i h h' st k => k it (by simp) _ st
  item := by
    intro X hP hw hK hc i pins s σ H E I hf st hg
    subst hP hw hK
    obtain ⟨f0, f1, f2, f3, f4, f5⟩ := hf it (by simp)
    have W := Walks.range (prog := X.prog) (w := X.w) (I.ok.hd hc) it lo 1 n
    refine W.item i s _ _ hg st fun v h' tk hv st' kk => ?_
    obtain ⟨t, rfl⟩ := hv
    have I1 : Inv X pins σ H { s with heap := h', toks := tk } := I.turned (fun b o hb e => kk b o (by simpa using hb) e) f0 f1 f3 f4 f5
    refine ⟨_, rfl, go_of (s := { s with heap := h', toks := tk }) (n := "range_iterator") st' rfl rfl (by decide) ⟨.int (lo + i), H, I1, ⟨t, ?_⟩, ⟨rfl, rfl⟩, st', fun b hb => (hf b hb).1⟩⟩
    rw [Int.mul_one]
  done := by
    intro X hP hw hK hc i pins s σ H E I hf st hg
    subst hP hw hK
    obtain ⟨f0, f1, f2, f3, f4, f5⟩ := hf it (by simp)
    exact wpAny_pyNext_range_end (I.ok.hd hc) st (by have : n ≤ i := hg; omega) fun h' eb => ⟨rfl, I.turned (t' := s.toks) (fun b o hb e => eb b o hb e) f0 f1 f3 f4 f5⟩
  self := fun _ _ _ _ _ st h => wpAny_pyIter_rangeiter st h
end L2

namespace L2
open PySem PySem.Spec PyProof.Rows
section
variable {X : Cx} {tg : Expr}
def iList (K : PySem.W.Frag) (tl : TE) : TI := fun σ H R => tl σ H fun x H1 => ∃ a, x = .ref a ∧ (∃ xs, SqL K H1 a xs) ∧ R (Itl K a) H1
def iTup (K : PySem.W.Frag) (tl : TE) : TI := fun σ H R => tl σ H fun x H1 => ∃ a, x = .ref a ∧ (∃ xs, SqT K H1 a xs) ∧ R (Itt K a) H1
theorem pi_list {l : Expr} {tl : TE} (hl : PE X l tl) : PI X tg l (iList X.K tl) := by
  intro pins s σ H R I h
  refine thn (hl pins s σ H _ I h) fun v s1 ⟨x, H1, I1, r1, q1⟩ => ?_
  obtain ⟨a, e, ⟨xs, hq⟩, q⟩ := q1
  subst e
  cases r1
  obtain ⟨its, rv, p, hz⟩ := I1.list hq
  refine wpAny_pyIter_list p.isList ?_
  refine ⟨s1.heap.objs.size, [s1.heap.objs.size], _, _, H1, rfl, I1.kept (t' := s1.toks) fun b o e => Heap.get?_push_of_some _ e, turn_list a _, ⟨_, Heap.get?_push_size _ rfl, rfl, rfl⟩, fun b hb => ?_, q⟩
  have e : b = s1.heap.objs.size := by simpa using hb
  subst e
  exact I1.fpOk (Nat.le_refl _) (I1.hok.fresh (Nat.le_refl _))
theorem pi_tup {l : Expr} {tl : TE} (hl : PE X l tl) : PI X tg l (iTup X.K tl) := by
  intro pins s σ H R I h
  refine thn (hl pins s σ H _ I h) fun v s1 ⟨x, H1, I1, r1, q1⟩ => ?_
  obtain ⟨a, e, ⟨xs, hq⟩, q⟩ := q1
  subst e
  cases r1
  obtain ⟨its, rv, p, hz⟩ := I1.tuple hq
  refine wpAny_pyIter_tuple (show s1.heap.IsTuple a its.toArray from p) ?_
  refine ⟨s1.heap.objs.size, [s1.heap.objs.size], _, _, H1, rfl, I1.kept (t' := s1.toks) fun b o e => Heap.get?_push_of_some _ e, turn_tuple a _, ⟨_, Heap.get?_push_size _ rfl, rfl, rfl⟩, fun b hb => ?_, q⟩
  have e : b = s1.heap.objs.size := by simpa using hb
  subst e
  exact I1.fpOk (Nat.le_refl _) (I1.hok.fresh (Nat.le_refl _))
/-- a range object just made, walked -/
theorem range_it {pins : List (Addr × Obj)} {σ : St} {H : Hp} {s : Shared} {R : It → Hp → Prop} {E : Value → Shared → Prop} {lo hi : Int} {t u v : Tok} {tk : Nat} (I : Inv X pins σ H s) (h1 : -(2 ^ 62) ≤ lo) (h2 : lo < 2 ^ 62) (h3 : -(2 ^ 62) ≤ hi) (h4 : hi < 2 ^ 62)
    (q : R (Itr lo (hi - lo).toNat) H) : wpAny (model X.prog X.w) X.A (pyIter (.ref s.heap.objs.size)) (PIE X pins σ tg R) E { s with heap := s.heap.push { cls := .type "range", data := .fields #[.int lo t, .int hi u, .int 1 v] }, toks := tk } := by
  refine wpAny_pyIter_range (IsRange.new ..) (small_one h1 h2 h3 h4) ?_
  have I1 : Inv X pins σ H { s with heap := s.heap.push { cls := .type "range", data := .fields #[.int lo t, .int hi u, .int 1 v] }, toks := tk } := I.kept fun b o e => Heap.get?_push_of_some _ e
  refine ⟨(s.heap.push { cls := .type "range", data := .fields #[.int lo t, .int hi u, .int 1 v] }).objs.size, [(s.heap.push { cls := .type "range", data := .fields #[.int lo t, .int hi u, .int 1 v] }).objs.size], _, _, H, rfl,
    I1.kept (t' := tk) fun b o e => Heap.get?_push_of_some _ e, turn_range _ lo (hi - lo).toNat, ?_, fun b hb => ?_, q⟩
  · have e1 : lo + ((0 : Nat) : Int) * 1 = lo := by simp
    have e2 : (((hi - lo).toNat : Nat) : Int) - ((0 : Nat) : Int) = Builtin.Range.rangeSize lo hi 1 := by rw [rangeSize_one]; split <;> omega
    show IsRangeIter _ _ (lo + ((0 : Nat) : Int) * 1) ((((hi - lo).toNat : Nat) : Int) - ((0 : Nat) : Int)) 1
    rw [e1, e2]
    exact Heap.get?_push_size _ rfl
  · have e : b = (s.heap.push { cls := .type "range", data := .fields #[.int lo t, .int hi u, .int 1 v] }).objs.size := by simpa using hb
    subst e
    exact I1.fpOk (Nat.le_refl _) (I1.hok.fresh (Nat.le_refl _))
def iRng1 (ta : TA) : TI := fun σ H R => ta σ H fun vs H1 => ∃ j : Int, vs = [.int j] ∧ -(2 ^ 62) ≤ j ∧ j < 2 ^ 62 ∧ R (Itr 0 j.toNat) H1
theorem pi_range1 {a : Expr} {ta : TA} {p pos : Pos} (hg : Gl X "range") (hm : X.mg "range" = none) (ha : PA X [a] ta) (hs : starEach [a] X.env = [(false, eval a X.env)] := by rfl) : PI X tg (.Call (.Name "range" p) [a] [] pos) (iRng1 ta) := by
  intro pins s σ H R I h
  refine Call_ (ld_blt I hg hm boot_range (PyProof.Rows.callWith_type1 (thn (ha pos pins s σ H _ I h) fun us s1 ⟨vs, H1, I1, r1, q1⟩ => ?_) hs rfl))
  obtain ⟨j, e, q1, q2, q⟩ := q1
  subst e
  cases r1 with
  | cons r rr =>
    cases rr
    obtain ⟨t, rfl⟩ := r
    exact call_range_1 (range_it I1 (by omega) (by omega) q1 q2 (by simpa using q))
/-! ### for -/
/-- W: the invariant by the turn and a measure; N: what the body is to reach -/
def tFor (wi : TI) (g : TG) (tb : TS) : TS := fun D σ H => wi σ H fun J H1 => ∃ W : Nat → Nat → St → Hp → Prop, (∃ m, W 0 m σ H1) ∧ ∀ i m σ H, W i m σ H →
  (J.stop i H ∧ D.nx σ H) ∨ (J.go i H ∧ ∃ N : St → Hp → Prop, (∀ σ' H', N σ' H' → ∃ m', m' < m ∧ W (i + 1) m' σ' H') ∧ ∀ x H', J.yld i H x H' → g x σ H' fun σ2 H2 => tb { D with nx := N, ct := N, bk := D.nx } σ2 H2)
/-- the records at fp as they stand -/
def pinsAt (fp : List Addr) (h : Heap) : List (Addr × Obj) := fp.filterMap fun b => (h.get? b).map fun o => (b, o)
theorem mem_pinsAt {fp : List Addr} {h : Heap} {b : Addr} {o : Obj} (hb : b ∈ fp) (e : h.get? b = some o) : (b, o) ∈ pinsAt fp h := List.mem_filterMap.mpr ⟨b, hb, by rw [e]; rfl⟩
theorem of_pinsAt {fp : List Addr} {h : Heap} {p : Addr × Obj} (hp : p ∈ pinsAt fp h) : p.1 ∈ fp ∧ h.get? p.1 = some p.2 := by
  obtain ⟨b, hb, e⟩ := List.mem_filterMap.mp hp
  cases q : h.get? b with
  | none => rw [q] at e; cases e
  | some o =>
    rw [q] at e
    have e' : (b, o) = p := Option.some.inj e
    subst e'
    exact ⟨hb, q⟩
theorem Inv.pinned {pins : List (Addr × Obj)} {σ : St} {H : Hp} {s : Shared} {fp : List Addr} (I : Inv X pins σ H s) (hf : ∀ b ∈ fp, FpOk X pins H b) (ho : ∀ b ∈ fp, ∃ o, s.heap.get? b = some o ∧ ∀ v, o.data ≠ .cell v) : Inv X (pins ++ pinsAt fp s.heap) σ H s :=
  I.pins_of fun p hp => (List.mem_append.mp hp).elim (fun z => I.pin p (List.mem_append_right _ z)) fun z => by
    obtain ⟨hb, e⟩ := of_pinsAt z
    obtain ⟨f0, f1, f2, _⟩ := hf p.1 hb
    obtain ⟨o, e', d⟩ := ho p.1 hb
    rw [e] at e'; cases e'
    exact ⟨e, f0, f1, f2, d⟩
theorem Inv.unpinned {pins pl : List (Addr × Obj)} {σ : St} {H : Hp} {s : Shared} (I : Inv X (pins ++ pl) σ H s) : Inv X pins σ H s := I.pins_of fun p hp => I.pin p (List.mem_append_right _ (List.mem_append_left _ hp))
theorem ps_for {iter : Expr} {body : List Stmt} {wi : TI} {g : TG} {tb : TS} {pos : Pos} (hp : PassesOwn (model X.prog X.w) X.A X.env X.xe) (hc : X.calm = true) (hi : PI X tg iter wi) (hg : PG X tg g) (hb : PSs X body tb)
    (hs : ∀ x, foldedSetIterable iter X.env x = pure x := by intro _; rfl) : PS X (.For tg iter body [] pos) (tFor wi g tb) := by
  intro pins s σ H D I h
  refine wpAny_For (thn (hi pins s σ H _ I h) fun v s1 h1 => thn h1 fun itv s2 h2 => ?_) hs
  obtain ⟨it, fp, tn, J, H2, e, I2, T, st2, f2, W, ⟨m0, w0⟩, turn⟩ := h2
  subst e
  -- what stays true of the iterator's objects through the loop
  have stat : ∀ {H' : Hp}, (∀ b ∈ fp, H' b = none) → ∀ b ∈ fp, FpOk X pins H' b := fun hn b hb => ⟨hn b hb, (f2 b hb).2⟩
  refine codeAny_forLoop_any (fun n s' => ∃ i σ' H', Inv X pins σ' H' s' ∧ tn i s'.heap ∧ (∀ b ∈ fp, H' b = none) ∧ W i n σ' H') ?_ m0 ⟨0, σ, H2, I2, st2, fun b hb => (f2 b hb).1, w0⟩
  rintro n s3 ⟨i, σ3, H3, I3, st3, fr3, w3⟩
  rcases turn i n σ3 H3 w3 with ⟨stop, qn⟩ | ⟨go, N, hN, step⟩
  · refine wpAny_passesOwn hp (thn (T.done X rfl rfl rfl hc i pins s3 σ3 H3 X.xe I3 (stat fr3) st3 stop) fun r s4 ⟨hr, I4⟩ => ?_)
    subst hr
    exact wpAny_execs_nil ⟨σ3, H3, I4, qn⟩
  · refine wpAny_passesOwn hp (thn (T.item X rfl rfl rfl hc i pins s3 σ3 H3 X.xe I3 (stat fr3) st3 go) fun r s4 ⟨u, hr, h4⟩ => ?_)
    subst hr
    refine wpAny_passesOwn hp (thn h4 fun _ s5 ⟨x, H5, I5, r5, y5, st5, fr5⟩ => ?_)
    have I5' := I5.pinned (stat fr5) (T.obj _ _ st5)
    refine wpAny_passesOwn hp (thn (hg _ s5 σ3 H5 x u _ I5' r5 (step x H5 y5)) fun _ s6 ⟨σ6, H6, I6, q6⟩ => ?_)
    refine wpAny_passesOwn hp (thn (hb _ s6 σ6 H6 _ I6 q6) fun f s7 q7 => ?_)
    have again : ∀ {σ7 : St} {H7 : Hp}, Inv X (pins ++ pinsAt fp s5.heap) σ7 H7 s7 → N σ7 H7 → ∃ m, m < n ∧ ∃ i σ' H', Inv X pins σ' H' s7 ∧ tn i s7.heap ∧ (∀ b ∈ fp, H' b = none) ∧ W i m σ' H' := fun {σ7 H7} I7 n7 => by
      obtain ⟨m', hm, w7⟩ := hN σ7 H7 n7
      refine ⟨m', hm, i + 1, σ7, H7, I7.unpinned, T.keep _ _ _ st5 fun b hb o e => (I7.pin (b, o) (List.mem_append_right _ (List.mem_append_right _ (mem_pinsAt hb e)))).1, fun b hb => ?_, w7⟩
      obtain ⟨o, e, d⟩ := T.obj _ _ st5 b hb
      exact (I7.pin (b, o) (List.mem_append_right _ (List.mem_append_right _ (mem_pinsAt hb e)))).2.1
    cases f with
    | next => obtain ⟨σ7, H7, I7, n7⟩ := q7; exact again I7 n7
    | cont => obtain ⟨σ7, H7, I7, n7⟩ := q7; exact again I7 n7
    | brk => obtain ⟨σ7, H7, I7, q7⟩ := q7; exact ⟨σ7, H7, I7.unpinned, q7⟩
    | ret v => obtain ⟨x7, σ7, H7, I7, r7, q7⟩ := q7; exact ⟨x7, σ7, H7, I7.unpinned, r7, q7⟩
end

/-! ### the forms one uses -/
/-- over a list that the body leaves as it is -/
theorem for_list {K : PySem.W.Frag} {a : Addr} {xs : List V} {g : TG} {tb : TS} {D : Ends} {σ : St} {H : Hp} (Pv : Nat → St → Hp → Prop) (h0 : Pv 0 σ H) (hl : ∀ i σ H, i ≤ xs.length → Pv i σ H → SqL K H a xs)
    (hs : ∀ i x σ H, xs[i]? = some x → Pv i σ H → g x σ H fun σ2 H2 => tb { D with nx := Pv (i + 1), ct := Pv (i + 1), bk := D.nx } σ2 H2) (hd : ∀ σ H, Pv xs.length σ H → D.nx σ H) :
    ∃ W : Nat → Nat → St → Hp → Prop, (∃ m, W 0 m σ H) ∧ ∀ i m σ H, W i m σ H →
      ((Itl K a).stop i H ∧ D.nx σ H) ∨ ((Itl K a).go i H ∧ ∃ N : St → Hp → Prop, (∀ σ' H', N σ' H' → ∃ m', m' < m ∧ W (i + 1) m' σ' H') ∧ ∀ x H', (Itl K a).yld i H x H' → g x σ H' fun σ2 H2 => tb { D with nx := N, ct := N, bk := D.nx } σ2 H2) := by
  refine ⟨fun i m σ H => m = xs.length - i ∧ i ≤ xs.length ∧ Pv i σ H, ⟨xs.length, by simp, Nat.zero_le _, h0⟩, ?_⟩
  rintro i m σ H ⟨rfl, hi, p⟩
  have q := hl i σ H hi p
  by_cases hlt : i < xs.length
  · refine .inr ⟨⟨xs, xs[i], q, by simp [hlt]⟩, Pv (i + 1), fun σ' H' p' => ⟨xs.length - (i + 1), by omega, rfl, hlt, p'⟩, fun x H' y => ?_⟩
    obtain ⟨e, y⟩ := y
    subst e
    exact hs i x σ _ (y xs q) p
  · have e : i = xs.length := by omega
    subst e
    exact .inl ⟨⟨xs, q, Nat.le_refl _⟩, hd σ H p⟩
theorem for_tup {K : PySem.W.Frag} {a : Addr} {xs : List V} {g : TG} {tb : TS} {D : Ends} {σ : St} {H : Hp} (Pv : Nat → St → Hp → Prop) (h0 : Pv 0 σ H) (hl : ∀ i σ H, i ≤ xs.length → Pv i σ H → SqT K H a xs)
    (hs : ∀ i x σ H, xs[i]? = some x → Pv i σ H → g x σ H fun σ2 H2 => tb { D with nx := Pv (i + 1), ct := Pv (i + 1), bk := D.nx } σ2 H2) (hd : ∀ σ H, Pv xs.length σ H → D.nx σ H) :
    ∃ W : Nat → Nat → St → Hp → Prop, (∃ m, W 0 m σ H) ∧ ∀ i m σ H, W i m σ H →
      ((Itt K a).stop i H ∧ D.nx σ H) ∨ ((Itt K a).go i H ∧ ∃ N : St → Hp → Prop, (∀ σ' H', N σ' H' → ∃ m', m' < m ∧ W (i + 1) m' σ' H') ∧ ∀ x H', (Itt K a).yld i H x H' → g x σ H' fun σ2 H2 => tb { D with nx := N, ct := N, bk := D.nx } σ2 H2) := by
  refine ⟨fun i m σ H => m = xs.length - i ∧ i ≤ xs.length ∧ Pv i σ H, ⟨xs.length, by simp, Nat.zero_le _, h0⟩, ?_⟩
  rintro i m σ H ⟨rfl, hi, p⟩
  have q := hl i σ H hi p
  by_cases hlt : i < xs.length
  · refine .inr ⟨⟨xs, xs[i], q, by simp [hlt]⟩, Pv (i + 1), fun σ' H' p' => ⟨xs.length - (i + 1), by omega, rfl, hlt, p'⟩, fun x H' y => ?_⟩
    obtain ⟨e, y⟩ := y
    subst e
    exact hs i x σ _ (y xs q) p
  · have e : i = xs.length := by omega
    subst e
    exact .inl ⟨⟨xs, q, Nat.le_refl _⟩, hd σ H p⟩
theorem for_range {lo : Int} {n : Nat} {g : TG} {tb : TS} {D : Ends} {σ : St} {H : Hp} (Pv : Nat → St → Hp → Prop) (h0 : Pv 0 σ H)
    (hs : ∀ i σ H, i < n → Pv i σ H → g (.int (lo + i)) σ H fun σ2 H2 => tb { D with nx := Pv (i + 1), ct := Pv (i + 1), bk := D.nx } σ2 H2) (hd : ∀ σ H, Pv n σ H → D.nx σ H) :
    ∃ W : Nat → Nat → St → Hp → Prop, (∃ m, W 0 m σ H) ∧ ∀ i m σ H, W i m σ H →
      ((Itr lo n).stop i H ∧ D.nx σ H) ∨ ((Itr lo n).go i H ∧ ∃ N : St → Hp → Prop, (∀ σ' H', N σ' H' → ∃ m', m' < m ∧ W (i + 1) m' σ' H') ∧ ∀ x H', (Itr lo n).yld i H x H' → g x σ H' fun σ2 H2 => tb { D with nx := N, ct := N, bk := D.nx } σ2 H2) := by
  refine ⟨fun i m σ H => m = n - i ∧ i ≤ n ∧ Pv i σ H, ⟨n, by simp, Nat.zero_le _, h0⟩, ?_⟩
  rintro i m σ H ⟨rfl, hi, p⟩
  by_cases hlt : i < n
  · refine .inr ⟨hlt, Pv (i + 1), fun σ' H' p' => ⟨n - (i + 1), by omega, rfl, hlt, p'⟩, fun x H' y => ?_⟩
    obtain ⟨e, y⟩ := y
    subst e y
    exact hs i σ _ hlt p
  · have e : i = n := by omega
    subst e
    exact .inl ⟨Nat.le_refl _, hd σ H p⟩
end L2

namespace L2
open PySem PySem.Spec PyProof.Rows

abbrev R2 := V → V → Hp → VK → Prop
/-- a two-place operation on values: f is binaryOp op, inplaceOp op or compareOp op -/
def OpR (X : Cx) (f : Value → Value → Sem Value) (r : R2) : Prop :=
  ∀ (pins : List (Addr × Obj)) (s : Shared) (σ : St) (H : Hp) (x y : V) (v u : Value) (Q : VK), Inv X pins σ H s → RelV x v → RelV y u → r x y H Q →
    wpAny (model X.prog X.w) X.A (f v u) (EP X pins σ Q) X.xe s
/-- a one-place operation -/
def UnR (X : Cx) (f : Value → Sem Value) (r : V → Hp → VK → Prop) : Prop :=
  ∀ (pins : List (Addr × Obj)) (s : Shared) (σ : St) (H : Hp) (x : V) (v : Value) (Q : VK), Inv X pins σ H s → RelV x v → r x H Q →
    wpAny (model X.prog X.w) X.A (f v) (EP X pins σ Q) X.xe s
/-- a call of a value that is known (a builtin, a type) with values -/
def CallR (X : Cx) (f : Value) (r : List V → Hp → VK → Prop) : Prop :=
  ∀ (pins : List (Addr × Obj)) (s : Shared) (σ : St) (H : Hp) (xs : List V) (us : List Value) (Q : VK), Inv X pins σ H s → Vals xs us → r xs H Q →
    wpAny (model X.prog X.w) X.A (call f us) (EP X pins σ Q) X.xe s
def tOp (r : R2) (ta tb : TE) : TE := fun σ H Q => ta σ H fun x H1 => tb σ H1 fun y H2 => r x y H2 Q
def tUn (r : V → Hp → VK → Prop) (ta : TE) : TE := fun σ H Q => ta σ H fun x H1 => r x H1 Q
/-- ints in, under C, and a value out -/
def rI (C : Int → Int → Prop) (g : Int → Int → V) : R2 := fun x y H Q => ∃ i j, x = .int i ∧ y = .int j ∧ C i j ∧ Q (g i j) H
def rI0 (g : Int → Int → V) : R2 := fun x y H Q => ∃ i j, x = .int i ∧ y = .int j ∧ Q (g i j) H
def rU (g : Int → V) : V → Hp → VK → Prop := fun x H Q => ∃ i, x = .int i ∧ Q (g i) H

section
variable {X : Cx} {a b c : Expr} {ta tb tc : TE} {pos : Pos}

theorem binT (ha : PE X a ta) (hb : PE X b tb) {pins : List (Addr × Obj)} {s : Shared} {σ : St} {H : Hp} {R : V → V → Hp → Prop} (I : Inv X pins σ H s)
    (h : ta σ H fun x H1 => tb σ H1 fun y H2 => R x y H2) {Q : Value → Shared → Prop} {f : Value → Value → Sem Value}
    (hf : ∀ v u s2 x y H2, Inv X pins σ H2 s2 → RelV x v → RelV y u → R x y H2 → wpAny (model X.prog X.w) X.A (f v u) Q X.xe s2) :
    wpAny (model X.prog X.w) X.A (eval a X.env) (fun v s₁ => wpAny (model X.prog X.w) X.A (eval b X.env) (fun u s₂ => wpAny (model X.prog X.w) X.A (f v u) Q X.xe s₂) X.xe s₁) X.xe s := by
  refine thn (ha pins s σ H _ I h) fun v s1 ⟨x, H1, I1, r1, q1⟩ => ?_
  refine thn (hb pins s1 σ H1 _ I1 q1) fun u s2 ⟨y, H2, I2, r2, q2⟩ => ?_
  exact hf v u s2 x y H2 I2 r1 r2 q2

theorem pe_op {op : Operator} {r : R2} (ho : OpR X (binaryOp op) r) (ha : PE X a ta) (hb : PE X b tb) : PE X (.BinOp a op b pos) (tOp r ta tb) := by
  intro pins s σ H Q I h
  exact wpAny_BinOp (binT ha hb I h fun v u s2 x y H2 I2 rx ry q => ho pins s2 σ H2 x y v u Q I2 rx ry q)
theorem pe_un {op : UnaryOp} {r : V → Hp → VK → Prop} (ho : UnR X (unaryOp op) r) (ha : PE X a ta) : PE X (.UnaryOp op a pos) (tUn r ta) := by
  intro pins s σ H Q I h
  exact UnaryOp_ (thn (ha pins s σ H _ I h) fun v s1 ⟨x, H1, I1, r1, q1⟩ => ho pins s1 σ H1 x v Q I1 r1 q1)
/-! ### ints -/
theorem opI {f : Value → Value → Sem Value} {C : Int → Int → Prop} {g : Int → Int → Int}
    (rule : ∀ (i j : Int) (t u : Tok) (s : Shared) (Q : Value → Shared → Prop) (E : Value → Shared → Prop), C i j → Q (.int (g i j) s.toks) { s with toks := s.toks + 1 } → wpAny (model X.prog X.w) X.A (f (.int i t) (.int j u)) Q E s) :
    OpR X f (rI C fun i j => .int (g i j)) := by
  intro pins s σ H x y v u Q I rx ry h
  obtain ⟨i, j, rfl, rfl, hc, q⟩ := h
  obtain ⟨t, rfl⟩ := rx
  obtain ⟨t', rfl⟩ := ry
  exact rule i j t t' s _ _ hc ⟨.int (g i j), H, I.tok _, ⟨_, rfl⟩, q⟩
theorem opI0 {f : Value → Value → Sem Value} {g : Int → Int → Int}
    (rule : ∀ (i j : Int) (t u : Tok) (s : Shared) (Q : Value → Shared → Prop) (E : Value → Shared → Prop), Q (.int (g i j) s.toks) { s with toks := s.toks + 1 } → wpAny (model X.prog X.w) X.A (f (.int i t) (.int j u)) Q E s) :
    OpR X f (rI0 fun i j => .int (g i j)) := by
  intro pins s σ H x y v u Q I rx ry h
  obtain ⟨i, j, rfl, rfl, q⟩ := h
  obtain ⟨t, rfl⟩ := rx
  obtain ⟨t', rfl⟩ := ry
  exact rule i j t t' s _ _ ⟨.int (g i j), H, I.tok _, ⟨_, rfl⟩, q⟩
theorem opB0 {f : Value → Value → Sem Value} {g : Int → Int → Bool}
    (rule : ∀ (i j : Int) (t u : Tok) (s : Shared) (Q : Value → Shared → Prop) (E : Value → Shared → Prop), Q (.bool (g i j)) s → wpAny (model X.prog X.w) X.A (f (.int i t) (.int j u)) Q E s) :
    OpR X f (rI0 fun i j => .bl (g i j)) := by
  intro pins s σ H x y v u Q I rx ry h
  obtain ⟨i, j, rfl, rfl, q⟩ := h
  obtain ⟨t, rfl⟩ := rx
  obtain ⟨t', rfl⟩ := ry
  exact rule i j t t' s _ _ ⟨.bl (g i j), H, I, rfl, q⟩

def CPow (i j : Int) : Prop := 0 ≤ j ∧ j ≤ 1000000 ∧ i.natAbs < 2 ^ 64
def CMul (i j : Int) : Prop := (-(2 ^ 64) < i ∧ i < 2 ^ 64) ∨ (-(2 ^ 64) < j ∧ j < 2 ^ 64)
theorem CMul.ok {i j : Int} (h : CMul i j) : IntMulOk i j := by
  rcases h with ⟨h1, h2⟩ | ⟨h1, h2⟩
  · exact .of_left (intBits_le_64 h1 h2)
  · exact .of_right (intBits_le_64 h1 h2)
theorem op_add : OpR X (binaryOp .Add) (rI0 fun i j => .int (i + j)) := opI0 fun _ _ _ _ _ _ _ q => add_int q
theorem op_sub : OpR X (binaryOp .Sub) (rI0 fun i j => .int (i - j)) := opI0 fun _ _ _ _ _ _ _ q => sub_int q
theorem op_mul : OpR X (binaryOp .Mult) (rI CMul fun i j => .int (i * j)) := opI fun _ _ _ _ _ _ _ hc q => mul_int q hc.ok
/-- % by a positive divisor of any size -/
theorem op_mod : OpR X (binaryOp .Mod) (rI (fun _ j => 0 < j) fun i j => .int (i % j)) := opI fun i j _ _ _ _ _ hc q => by
  have h1 : (0 : Int) < j := hc
  exact mod_int' (by omega) (by rw [Int.fmod_eq_emod_of_nonneg i (by omega)]; exact q)
theorem op_pow : OpR X (binaryOp .Pow) (rI CPow fun i j => .int (i ^ j.toNat)) := opI fun _ _ _ _ _ _ _ hc q => pow_int_small hc.1 hc.2.1 hc.2.2 q
theorem unI {f : Value → Sem Value} {g : Int → Int}
    (rule : ∀ (i : Int) (t : Tok) (s : Shared) (Q : Value → Shared → Prop) (E : Value → Shared → Prop), Q (.int (g i) s.toks) { s with toks := s.toks + 1 } → wpAny (model X.prog X.w) X.A (f (.int i t)) Q E s) :
    UnR X f (rU fun i => .int (g i)) := by
  intro pins s σ H x v Q I rx h
  obtain ⟨i, rfl, q⟩ := h
  obtain ⟨t, rfl⟩ := rx
  exact rule i t s _ _ ⟨.int (g i), H, I.tok _, ⟨_, rfl⟩, q⟩
theorem un_neg : UnR X (unaryOp .USub) (rU fun i => .int (-i)) := unI fun _ _ _ _ _ q => neg_int q
/-! ### bools among ints: n += (a < b) -/
end

/-! ### comparisons -/
/-- the scalars that == tells apart as data does -/
def scal : V → V → Bool
  | .non, .non => true | .non, .int _ => true | .int _, .non => true | .non, .bl _ => true | .bl _, .non => true | .non, .str _ => true | .str _, .non => true
  | .int _, .int _ => true | .bl _, .bl _ => true | .str _, .str _ => true | .byt _, .byt _ => true
  | .int _, .str _ => true | .str _, .int _ => true | .bl _, .str _ => true | .str _, .bl _ => true
  | _, _ => false
def rEq : R2 := fun x y H Q => scal x y = true ∧ Q (.bl (decide (x = y))) H
def rNe : R2 := fun x y H Q => scal x y = true ∧ Q (.bl (!decide (x = y))) H

theorem dec_int {i j : Int} : decide (V.int i = V.int j) = (i == j) := by
  rw [Bool.eq_iff_iff]
  simp
theorem dec_bl {i j : Bool} : decide (V.bl i = V.bl j) = (i == j) := by
  rw [Bool.eq_iff_iff]
  simp
theorem dec_str {i j : Str} : decide (V.str i = V.str j) = (i == j) := by
  rw [Bool.eq_iff_iff]
  simp
theorem dec_byt {i j : Array UInt8} : decide (V.byt i = V.byt j) = (i.toList == j.toList) := by
  rw [Bool.eq_iff_iff]
  cases i
  cases j
  simp

section
variable {X : Cx} {a b c : Expr} {ta tb tc : TE} {pos : Pos}
theorem fin_bl {pins : List (Addr × Obj)} {σ : St} {H : Hp} {s : Shared} {Q : VK} {k k' : Bool} (I : Inv X pins σ H s) (q : Q (.bl k) H) (e : k = k') : EP X pins σ Q (.bool k') s := by
  subst e
  exact ⟨.bl k, H, I, rfl, q⟩
theorem op_eq : OpR X (compareOp .Eq) rEq := by
  intro pins s σ H x y v u Q I rx ry h
  obtain ⟨hs, q⟩ := h
  cases x with
  | non =>
    cases rx
    cases y with
    | non => cases ry; exact PySem.EqNone.eq_none_none (fin_bl I q (by simp))
    | bl j => cases ry; exact PySem.EqNone.eq_none_bool (fin_bl I q (by simp))
    | int j => obtain ⟨t', rfl⟩ := ry; exact PySem.EqNone.eq_none_int (fin_bl I q (by simp))
    | str j => obtain ⟨t', rfl⟩ := ry; exact PySem.EqNone.eq_none_str (fin_bl I q (by simp))
    | _ => exact absurd (show false = true from hs) Bool.false_ne_true
  | bl i =>
    cases rx
    cases y with
    | non => cases ry; exact PySem.EqNone.eq_bool_none (fin_bl I q (by simp))
    | bl j => cases ry; exact eq_bool (fin_bl I q dec_bl)
    | str j => obtain ⟨t', rfl⟩ := ry; exact PySem.EqMixed.eq_bool_str (fin_bl I q (by simp))
    | _ => exact absurd (show false = true from hs) Bool.false_ne_true
  | int i =>
    obtain ⟨t, rfl⟩ := rx
    cases y with
    | non => cases ry; exact PySem.EqNone.eq_int_none (fin_bl I q (by simp))
    | int j => obtain ⟨t', rfl⟩ := ry; exact eq_int (fin_bl I q dec_int)
    | str j => obtain ⟨t', rfl⟩ := ry; exact PySem.EqMixed.eq_int_str (fin_bl I q (by simp))
    | _ => exact absurd (show false = true from hs) Bool.false_ne_true
  | str i =>
    obtain ⟨t, rfl⟩ := rx
    cases y with
    | non => cases ry; exact PySem.EqNone.eq_str_none (fin_bl I q (by simp))
    | bl j => cases ry; exact PySem.EqMixed.eq_str_bool (fin_bl I q (by simp))
    | int j => obtain ⟨t', rfl⟩ := ry; exact PySem.EqMixed.eq_str_int (fin_bl I q (by simp))
    | str j => obtain ⟨t', rfl⟩ := ry; exact eq_str (fin_bl I q dec_str)
    | _ => exact absurd (show false = true from hs) Bool.false_ne_true
  | byt i =>
    obtain ⟨t, rfl⟩ := rx
    cases y with
    | byt j => obtain ⟨t', rfl⟩ := ry; exact PySem.W.eq_bytes (fin_bl I q dec_byt)
    | _ => exact absurd (show false = true from hs) Bool.false_ne_true
  | _ => cases y <;> exact absurd (show false = true from hs) Bool.false_ne_true
theorem op_ne : OpR X (compareOp .NotEq) rNe := by
  intro pins s σ H x y v u Q I rx ry h
  obtain ⟨hs, q⟩ := h
  cases x with
  | non =>
    cases rx
    cases y with
    | non => cases ry; exact PySem.EqNone.ne_none_none (fin_bl I q (by simp))
    | bl j => cases ry; exact PySem.EqNone.ne_none_bool (fin_bl I q (by simp))
    | int j => obtain ⟨t', rfl⟩ := ry; exact PySem.EqNone.ne_none_int (fin_bl I q (by simp))
    | str j => obtain ⟨t', rfl⟩ := ry; exact PySem.EqNone.ne_none_str (fin_bl I q (by simp))
    | _ => exact absurd (show false = true from hs) Bool.false_ne_true
  | bl i =>
    cases rx
    cases y with
    | non => cases ry; exact PySem.EqNone.ne_bool_none (fin_bl I q (by simp))
    | bl j => cases ry; exact ne_bool (fin_bl I q (congrArg not dec_bl))
    | str j => obtain ⟨t', rfl⟩ := ry; exact PySem.EqMixed.ne_bool_str (fin_bl I q (by simp))
    | _ => exact absurd (show false = true from hs) Bool.false_ne_true
  | int i =>
    obtain ⟨t, rfl⟩ := rx
    cases y with
    | non => cases ry; exact PySem.EqNone.ne_int_none (fin_bl I q (by simp))
    | int j => obtain ⟨t', rfl⟩ := ry; exact ne_int (fin_bl I q (congrArg not dec_int))
    | str j => obtain ⟨t', rfl⟩ := ry; exact PySem.EqMixed.ne_int_str (fin_bl I q (by simp))
    | _ => exact absurd (show false = true from hs) Bool.false_ne_true
  | str i =>
    obtain ⟨t, rfl⟩ := rx
    cases y with
    | non => cases ry; exact PySem.EqNone.ne_str_none (fin_bl I q (by simp))
    | bl j => cases ry; exact PySem.EqMixed.ne_str_bool (fin_bl I q (by simp))
    | int j => obtain ⟨t', rfl⟩ := ry; exact PySem.EqMixed.ne_str_int (fin_bl I q (by simp))
    | str j => obtain ⟨t', rfl⟩ := ry; exact ne_str (fin_bl I q (congrArg not dec_str))
    | _ => exact absurd (show false = true from hs) Bool.false_ne_true
  | byt i =>
    obtain ⟨t, rfl⟩ := rx
    cases y with
    | byt j => obtain ⟨t', rfl⟩ := ry; exact PySem.W.ne_bytes (fin_bl I q (congrArg not dec_byt))
    | _ => exact absurd (show false = true from hs) Bool.false_ne_true
  | _ => cases y <;> exact absurd (show false = true from hs) Bool.false_ne_true

theorem op_lt : OpR X (compareOp .Lt) (rI0 fun i j => .bl (decide (i < j))) := opB0 fun _ _ _ _ _ _ _ q => lt_int q
theorem op_le : OpR X (compareOp .LtE) (rI0 fun i j => .bl (decide (i ≤ j))) := opB0 fun _ _ _ _ _ _ _ q => le_int q
theorem op_gt : OpR X (compareOp .Gt) (rI0 fun i j => .bl (decide (j < i))) := opB0 fun _ _ _ _ _ _ _ q => gt_int q
theorem op_ge : OpR X (compareOp .GtE) (rI0 fun i j => .bl (decide (j ≤ i))) := opB0 fun _ _ _ _ _ _ _ q => ge_int q
/-- is None, is not None: the right side a value none -/
theorem op_isN : OpR X (compareOp .Is) (fun x y H Q => y = .non ∧ Q (.bl (decide (x = .non))) H) := by
  intro pins s σ H x y v u Q I rx ry h
  obtain ⟨rfl, q⟩ := h
  cases ry
  refine is_none_gen (fin_bl I q ?_)
  cases x <;> first
    | (cases rx; rfl)
    | (obtain ⟨t, rfl⟩ := rx; rfl)
theorem op_notN : OpR X (compareOp .IsNot) (fun x y H Q => y = .non ∧ Q (.bl (!decide (x = .non))) H) := by
  intro pins s σ H x y v u Q I rx ry h
  obtain ⟨rfl, q⟩ := h
  cases ry
  refine isnot_none_gen (fin_bl I q ?_)
  cases x <;> first
    | (cases rx; rfl)
    | (obtain ⟨t, rfl⟩ := rx; rfl)

theorem nomark (b : Expr) {op : CmpOp} (h : op ≠ .In := by decide) (h2 : op ≠ .NotIn := by decide) : behindInMarks op b = false := by
  have e1 : (op == CmpOp.In) = false := by cases op <;> first | rfl | exact absurd rfl h
  have e2 : (op == CmpOp.NotIn) = false := by cases op <;> first | rfl | exact absurd rfl h2
  cases b <;> simp [behindInMarks, e1, e2]
/-- a comparison as a value; hm: nomark b, or (for in, not in) by with_unfolding_all rfl -/
theorem pe_cmpR {op : CmpOp} {r : R2} (ho : OpR X (compareOp op) r) (ha : PE X a ta) (hb : PE X b tb) (hm : behindInMarks op b = false) : PE X (.Compare a [op] [b] pos) (tOp r ta tb) := by
  intro pins s σ H Q I h
  exact wpAny_Compare1 (binT ha hb I h fun v u s2 x y H2 I2 rx ry q => ho pins s2 σ H2 x y v u Q I2 rx ry q) hm
/-- a reading of a value as a test -/
def tTest (t : TE) : TT := fun σ H Q => t σ H fun x H' => ∃ k, x = .bl k ∧ Q k H'
theorem pt_cmpR {op : CmpOp} {r : R2} (ho : OpR X (compareOp op) r) (ha : PE X a ta) (hb : PE X b tb) (hm : behindInMarks op b = false) : PT X (.Compare a [op] [b] pos) (tTest (tOp r ta tb)) := by
  intro pins s σ H Q I h
  refine wpAny_isTrue_Compare1 (thn (ha pins s σ H _ I h) fun v s1 ⟨x, H1, I1, r1, q1⟩ => thn (hb pins s1 σ H1 _ I1 q1) fun u s2 ⟨y, H2, I2, r2, q2⟩ =>
    thn (ho pins s2 σ H2 x y v u _ I2 r1 r2 q2) fun c s3 ⟨z, H3, I3, r3, k, e, q3⟩ => ?_) hm
  subst e
  cases r3
  exact wpAny_truthy_bool ⟨H3, I3, q3⟩
/-- a op1 b op2 c -/
def tChain (r r' : R2) (ta tb tc : TE) : TE := fun σ H Q => ta σ H fun x H1 => tb σ H1 fun y H2 => r x y H2 fun z H3 => ∃ k, z = .bl k ∧
  (if k = true then tc σ H3 fun w' H4 => r' y w' H4 Q else Q (.bl false) H3)
theorem pe_chain {op op' : CmpOp} {r r' : R2} (ho : OpR X (compareOp op) r) (ho' : OpR X (compareOp op') r') (ha : PE X a ta) (hb : PE X b tb) (hc : PE X c tc)
    (hm : lastMarks [op, op'] [b, c] = false := by with_unfolding_all rfl) : PE X (.Compare a [op, op'] [b, c] pos) (tChain r r' ta tb tc) := by
  intro pins s σ H Q I h
  refine Compare_chain (thn (ha pins s σ H _ I h) fun v s1 ⟨x, H1, I1, r1, q1⟩ => chain_link (thn (hb pins s1 σ H1 _ I1 q1) fun u s2 ⟨y, H2, I2, r2, q2⟩ =>
    thn (ho pins s2 σ H2 x y v u _ I2 r1 r2 q2) fun d s3 ⟨z, H3, I3, r3, k, e, q3⟩ => ?_)) hm
  subst e
  cases r3
  refine wpAny_truthy_bool ?_
  cases k with
  | false => exact ite_ff ⟨.bl false, H3, I3, rfl, q3⟩
  | true => exact ite_tt (chain_last (thn (hc pins s3 σ H3 _ I3 q3) fun w' s4 ⟨z', H4, I4, r4, q4⟩ => ho' pins s4 σ H4 y z' u w' Q I4 r2 r4 q4))
/-! ### truth -/
theorem line63 : (sizeLine : Nat) < 2 ^ 63 := by rw [sizeLine_eq]; decide
/-! ### strs and bytes -/
/-! ### scalar builtins, by CallR -/
theorem vals1 {x : V} {us : List Value} (r : Vals [x] us) : ∃ u, us = [u] ∧ RelV x u := by
  cases r with
  | cons r1 r2 => cases r2; exact ⟨_, rfl, r1⟩
theorem vals2 {x y : V} {us : List Value} (r : Vals [x, y] us) : ∃ u w', us = [u, w'] ∧ RelV x u ∧ RelV y w' := by
  cases r with
  | cons r1 r2 =>
    cases r2 with
    | cons r3 r4 => cases r4; exact ⟨_, _, rfl, r1, r3⟩
theorem call_min2 (hc : X.calm = true) : CallR X (.builtin "min") (fun xs H Q => ∃ i j, xs = [.int i, .int j] ∧ Q (.int (if j < i then j else i)) H) := by
  intro pins s σ H xs us Q I r h
  obtain ⟨i, j, rfl, q⟩ := h
  obtain ⟨u, w', rfl, ⟨t, rfl⟩, ⟨t', rfl⟩⟩ := vals2 r
  refine min_two_ints (I.ok.hd hc) fun h' tk k => ⟨_, H, I.kept k, ?_, q⟩
  by_cases hj : j < i
  · rw [if_pos hj, if_pos hj]; exact ⟨_, rfl⟩
  · rw [if_neg hj, if_neg hj]; exact ⟨_, rfl⟩
theorem call_int1 : CallR X (.type "int") (fun xs H Q => (∃ i, xs = [.int i] ∧ Q (.int i) H) ∨ ∃ k, xs = [.bl k] ∧ Q (.int (if k then 1 else 0)) H) := by
  intro pins s σ H xs us Q I r h
  rcases h with ⟨i, rfl, q⟩ | ⟨k, rfl, q⟩
  · obtain ⟨u, rfl, t, rfl⟩ := vals1 r
    exact call_int_int ⟨.int i, H, I, ⟨_, rfl⟩, q⟩
  · obtain ⟨u, rfl, r1⟩ := vals1 r
    cases r1
    exact call_int_bool ⟨.int (if k then 1 else 0), H, I.tok _, ⟨_, rfl⟩, q⟩
end
end L2

namespace L2
open PySem PySem.Spec PyProof.Rows

/-! ### an instance, its attributes a map -/
structure ObjM (h : Heap) (x dx C : Addr) (mA : Str → Option Value) : Prop where
  obj : h.get? x = some (PySem.W.instObj C dx)
  ns : h.Ns1 dx mA
  ne : dx ≠ x

theorem lookIn_ns {h : Heap} {dx : Addr} {mA : Str → Option Value} (n : h.Ns1 dx mA) : ∃ od, h.get? dx = some od ∧ ∀ name, PySem.W.lookIn name od = some (mA name) := by
  obtain ⟨o, es, ep, ho, hd, hk, _, hm⟩ := n
  refine ⟨o, ho, fun name => ?_⟩
  have e := hm name
  unfold nsFind findBy at e
  rw [← Array.find?_toList] at e
  unfold PySem.W.lookIn
  rw [hd]
  dsimp only
  split
  · rename_i y q
    rw [q] at e
    exact congrArg some e
  · rename_i q
    rw [q] at e
    have a : es.toList.any (·.refKey) = false := by
      rw [List.any_eq_false]
      intro y hy
      obtain ⟨z, t, hkey⟩ := hk y (Array.mem_toList_iff.mp hy)
      simp [DictEntry.refKey, hkey]
    have a' : ¬ es.toList.any (·.refKey) = true := by rw [a]; exact Bool.false_ne_true
    rw [if_neg a']
    exact congrArg some e

theorem ObjM.look {h : Heap} {x dx C : Addr} {mA : Str → Option Value} (I : ObjM h x dx C mA) : ∃ od, PySem.W.InstAt h x (PySem.W.instObj C dx) C (some od) ∧ ∀ name, PySem.W.lookIn name od = some (mA name) :=
  let ⟨od, ho, hl⟩ := lookIn_ns I.ns
  ⟨od, ⟨I.obj, rfl, rfl, ho⟩, hl⟩


/-! ### the attributes as a list of pairs -/
theorem RelO.some_of {v : V} {o : Option Value} (r : RelO (some v) o) : ∃ u, o = some u ∧ RelV v u := by
  cases o with
  | none => exact (show False from r).elim
  | some u => exact ⟨u, rfl, r⟩
section
variable {P : Program} {w : World} {H H' : Hp} {h h' : Heap} {a C dx : Addr} {fs fs' : List (Str × V)}
theorem ins_get (hok : HOk P w H h) (e : H a = some (.ins C dx fs)) : ∃ mA, ObjM h a dx C mA ∧ (∀ f, RelO (fs.lookup f) (mA f)) ∧ PySem.Within mA (fs.map (·.1)) ∧ fs.length ≤ 1000 ∧ H dx = some (.own a) := by
  obtain ⟨d, z, ne, ob, mA, n, r, q⟩ := (show ObjOk P w H h a (.ins C dx fs) from hok a _ e)
  exact ⟨mA, ⟨ob, n, ne⟩, r, q, z, d⟩
end

/-! ### what of the text a class must have -/
structure Cls (K : PySem.W.Frag) (C : Addr) : Prop where
  pg : PySem.W.plainGet K C Str.empty = true
  hd : PySem.W.hasDictIn K C = true
  po : PySem.W.plainOver K C = true
  sa : PySem.W.findIn K (.ref C) "__setattr__" = some (some (.builtin "object.__setattr__"))
theorem Cls.get {K : PySem.W.Frag} {C : Addr} (c : Cls K C) (f : Str) : PySem.W.plainGet K C f = true := c.pg

/-! ### readings and rules -/

/-! ### isinstance -/
section
variable {X : Cx} {pins : List (Addr × Obj)} {σ : St} {H : Hp} {s : Shared} {A : Around} {E : Value → Shared → Prop} {Q : Value → Shared → Prop} {c : Value} {b : Bool}
/-- the type of a value, as the fragment's deciders take it; for an instance its class -/
inductive TyOf (K : PySem.W.Frag) (H : Hp) : V → Value → Prop where
  | non : TyOf K H .non (.type "NoneType")
  | bl (x : Bool) : TyOf K H (.bl x) (.type "bool")
  | int (i : Int) : TyOf K H (.int i) (.type "int")
  | str (x : Str) : TyOf K H (.str x) (.type "str")
  | flt (x : UInt64) : TyOf K H (.flt x) (.type "float")
  | lst {a : Addr} {xs : List V} (e : H a = some (.lst xs)) : TyOf K H (.ref a) (.type "list")
  | frz {a : Addr} {o : Obj} {xs : List V} (e : H a = some (.frz o (.lst xs))) : TyOf K H (.ref a) (.type "list")
  | tup {a : Addr} {xs : List V} (e : H a = some (.tup xs)) : TyOf K H (.ref a) (.type "tuple")
  | dK {a : Addr} {kvs : List (Key × V)} (e : H a = some (.dK kvs)) : TyOf K H (.ref a) (.type "dict")
  | dT {a : Addr} {kvs : List (List Key × V)} (e : H a = some (.dT kvs)) : TyOf K H (.ref a) (.type "dict")
  | ins {a C dx : Addr} {fs : List (Str × V)} (e : H a = some (.ins C dx fs)) (cl : Cls K C) (ha : PySem.W.findIn K (.ref C) "__class__" = some (some (.builtin "object.__class__")))
      (hn : PySem.W.specialIn K (.builtin "object.__class__") "__get__" = some (some (.builtin "getset_descriptor.__get__"))) (htk : PySem.W.takesIn K (.builtin "object.__class__") = some true)
      (hm : PySem.W.mroIn K C (.type "object") = some true) : TyOf K H (.ref a) (.ref C)
/-- isinstance(x, c) for one class c, a built-in or an own one: kitOne's answer -/
theorem isinst_ok {x : V} {u t : Value} (I : Inv X pins σ H s) (rx : RelV x u) (ty : TyOf X.K H x t) (e : PySem.W.kitOne X.K t c = some b) (h : ∀ tk, Q (.bool b) { s with toks := tk }) :
    wpAny (model X.prog X.w) A (call (.builtin "isinstance") [u, c]) Q E s := by
  cases ty with
  | non => cases (show u = Value.none from rx); exact PySem.W.kia_one PySem.W.kitx_none I.kIn True.intro e (fun z => nomatch z) h
  | bl y => cases (show u = Value.bool y from rx); exact PySem.W.kia_one PySem.W.kitx_bool I.kIn True.intro e (fun z => nomatch z) h
  | int i => obtain ⟨t, q⟩ := (show ∃ t, u = Value.int i t from rx); cases q; exact PySem.W.kia_one PySem.W.kitx_int I.kIn True.intro e (fun z => nomatch z) h
  | str y => obtain ⟨t, q⟩ := (show ∃ t, u = Value.str y t from rx); cases q; exact PySem.W.kia_one PySem.W.kitx_str I.kIn True.intro e (fun z => nomatch z) h
  | flt y => obtain ⟨t, q⟩ := (show ∃ t, u = Value.float y t from rx); cases q; exact PySem.W.kia_one PySem.W.kitx_float I.kIn True.intro e (fun z => nomatch z) h
  | @lst a xs ea =>
    cases (show u = Value.ref a from rx)
    obtain ⟨_, _, n, _, h1⟩ := (show ObjOk X.prog X.w H s.heap a (.lst xs) from I.hok a _ ea)
    exact PySem.W.kia_one PySem.W.kitx_list I.kIn ⟨_, h1, rfl⟩ e (fun z => nomatch z) h
  | @frz a ob xs ea =>
    cases (show u = Value.ref a from rx)
    obtain ⟨_, _, _, n, _, h1⟩ := (show ObjOk X.prog X.w H s.heap a (.frz ob (.lst xs)) from I.hok a _ ea)
    exact PySem.W.kia_one PySem.W.kitx_list I.kIn ⟨_, h1, rfl⟩ e (fun z => nomatch z) h
  | @tup a xs ea =>
    cases (show u = Value.ref a from rx)
    obtain ⟨_, _, _, p⟩ := (show ObjOk X.prog X.w H s.heap a (.tup xs) from I.hok a _ ea)
    obtain ⟨o, h1, h2, _⟩ := p
    exact PySem.W.kia_one PySem.W.kitx_tuple I.kIn ⟨o, h1, h2⟩ e (fun z => nomatch z) h
  | @dK a kvs ea =>
    cases (show u = Value.ref a from rx)
    obtain ⟨_, _, vs, _, p⟩ := (show ObjOk X.prog X.w H s.heap a (.dK kvs) from I.hok a _ ea)
    obtain ⟨o, es, ep, h1, h2, _⟩ := p
    exact PySem.W.kia_one PySem.W.kitx_dict I.kIn ⟨o, h1, h2.1⟩ e (fun z => nomatch z) h
  | @dT a kvs ea =>
    cases (show u = Value.ref a from rx)
    obtain ⟨_, _, xs, _, o, es, ep, h1, h2, _⟩ := (show ObjOk X.prog X.w H s.heap a (.dT kvs) from I.hok a _ ea)
    exact PySem.W.kia_one PySem.W.kitx_dict I.kIn ⟨o, h1, h2.1⟩ e (fun z => nomatch z) h
  | @ins a C dx fs ea cl ha hn htk hm =>
    cases (show u = Value.ref a from rx)
    obtain ⟨mA, O, _⟩ := ins_get I.hok ea
    obtain ⟨od, J, _⟩ := O.look
    exact PySem.W.kia_one (PySem.W.kitx_own (cl.get _) cl.hd ha hn htk hm) I.kIn J e (fun z => nomatch z) h
end
end L2

namespace L2
open PySem PySem.Spec PyProof.Rows

/-! ### room -/
structure Room (k : Nat) (A : Around) : Prop where
  hd : A.handled = none
  dp : A.depth + 3 * k + 5 < recursionLimit
  un : A.units + 16 * k + 200 < cLine
theorem Room.mono {j k : Nat} {A : Around} (r : Room k A) (h : j ≤ k) : Room j A := ⟨r.hd, by have := r.dp; omega, by have := r.un; omega⟩
theorem Room.deeper {k : Nat} {A : Around} (r : Room (k + 1) A) (env : Env) : Room k (A.deeper env) :=
  ⟨r.hd, by have := r.dp; show A.depth + 1 + 3 * k + 5 < _; omega, by have := r.un; show A.units + 3 + 16 * k + 200 < _; omega⟩
theorem Room.depth {k : Nat} {A : Around} (r : Room k A) : A.depth < recursionLimit := by have := r.dp; omega
theorem Room.units {k : Nat} {A : Around} (r : Room k A) : A.units + 64 < cLine := by have := r.un; omega
/-! ### argument lists and displays -/
def tNil : TA := fun _ H Q => Q [] H
def tCons (ta : TE) (tr : TA) : TA := fun σ H Q => ta σ H fun x H1 => tr σ H1 fun xs H2 => Q (x :: xs) H2
section
variable {X : Cx} {e : Expr} {es : List Expr} {te : TE} {t : TA} {pos : Pos}
theorem pa_nil : PA X [] tNil := fun _ _ _ _ H Q I h => Calls.spliced_nil ⟨[], H, I, .nil, h⟩
theorem pa_cons (ha : PE X e te) (hr : PA X es t) (hs : starEach (e :: es) X.env = (false, eval e X.env) :: starEach es X.env := by rfl) : PA X (e :: es) (tCons te t) := by
  intro pos pins s σ H Q I h
  rw [hs]
  show wpAny _ _ (spliced ((false, eval e X.env) :: backTo pos (starEach es X.env))) _ _ s
  refine Calls.spliced_cons (thn (ha pins s σ H _ I h) fun u s1 ⟨x, H1, I1, r1, q1⟩ => ?_)
  exact thn (hr pos pins s1 σ H1 _ I1 q1) fun us s2 ⟨xs, H2, I2, r2, q2⟩ => ⟨x :: xs, H2, I2, .cons r1 r2, q2⟩

/-- a tuple, a list of written items -/
def tTup (t : TA) : TE := fun σ H Q => t σ H fun xs H1 => xs.length ≤ sizeLine ∧ ∀ p, H1 p = none → Q (.ref p) (upd H1 p (.tup xs))
def tLst (t : TA) : TE := fun σ H Q => t σ H fun xs H1 => xs.length ≤ sizeLine ∧ ∀ p, H1 p = none → Q (.ref p) (upd H1 p (.lst xs))
theorem pe_tup {x1} (h : PA X es t) : PE X (.Tuple es x1 pos) (tTup t) := by
  intro pins s σ H Q I hq
  refine wpAny_Tuple_spliced (thn (h pos pins s σ H _ I hq) fun us s1 ⟨xs, H1, I1, r, z, q⟩ => ⟨by rw [← r.length]; exact z, ?_⟩)
  have hf : H1 s1.heap.objs.size = none := I1.hok.fresh (Nat.le_refl _)
  refine ⟨.ref s1.heap.objs.size, upd H1 s1.heap.objs.size (.tup xs), I1.laid (t' := s1.toks) (fun b u e => Heap.get?_push_of_some _ e) (Nat.le_refl _) ?_, rfl, q _ hf⟩
  exact ⟨z, us, r, ⟨_, Heap.get?_push_size _ rfl, rfl, _, rfl⟩⟩
theorem pe_lst (h : PA X es t) : PE X (.List es pos) (tLst t) := by
  intro pins s σ H Q I hq
  refine wpAny_List_spliced (thn (h pos pins s σ H _ I hq) fun us s1 ⟨xs, H1, I1, r, z, q⟩ => ⟨by rw [← r.length]; exact z, ?_⟩)
  have hf : H1 s1.heap.objs.size = none := I1.hok.fresh (Nat.le_refl _)
  refine ⟨.ref s1.heap.objs.size, upd H1 s1.heap.objs.size (.lst xs), I1.laid (t' := s1.toks) (fun b u e => Heap.get?_push_of_some _ e) (Nat.le_refl _) ?_, rfl, q _ hf⟩
  exact ⟨z, us, 0, r, Heap.get?_push_size _ rfl⟩
end

/-! ### what a def promises -/
/-- a def's promise: the bound arguments in the parameters' order, the heap, the wanted end, the wanted exception -/
abbrev Sp := List V → Hp → VK → XK → Prop
/-- how an exception lies behind a call (file 08 gives it): the callers' frames, abstract heap and state ahead of the call, the wish, the exception, the state -/
abbrev CXT := List Env → Hp → Shared → XK → Value → Shared → Prop

/-- the state at a call -/
structure Env0 (P : Program) (w : World) (K : PySem.W.Frag) (mg : Str → Option Value) (base : Heap) (A : Around) (outer : List Env) (s : Shared) (H : Hp) : Prop where
  frames : A.frames = some outer
  mod : Mod K mg base
  bs : ∀ b o, base.get? b = some o → s.heap.get? b = some o ∧ H b = none
  bsz : base.objs.size ≤ s.heap.objs.size
  funs : s.heap.FunFrames base outer
  frf : ∀ b ∈ frs outer, H b = none
  hok : HOk P w H s.heap
  bare : AllBare s.gens
/-- a call's end -/
def CE (outer : List Env) (P : Program) (w : World) (H : Hp) (s : Shared) (Q : VK) (u : Value) (s' : Shared) : Prop :=
  ∃ v H', s'.os = s.os ∧ AllBare s'.gens ∧ Un (frs outer) [] H H' s.heap s'.heap ∧ HOk P w H' s'.heap ∧ RelV v u ∧ Q v H'
def CR (CX : CXT) (outer : List Env) (P : Program) (w : World) (H : Hp) (s : Shared) (Q : VK) (E : XK) (r : Result) (s' : Shared) : Prop :=
  match r with
  | .ok (.ret u) => CE outer P w H s Q u s'
  | .ok _ => False
  | .error e => CX outer H s E e s'
structure FnOk (P : Program) (w : World) (K : PySem.W.Frag) (mg : Str → Option Value) (base : Heap) (CX : CXT) (k : Nat) (f : Addr) (fd : FuncData) (ps : List Str) (sp : Sp) : Prop where
  len : ∀ vs H Q E, sp vs H Q E → vs.length = ps.length
  run : ∀ (A : Around) (outer : List Env) (s : Shared) (H : Hp) (args : Args) (us : List Value) (vs : List V) (Q : VK) (E : XK), Room k A → Env0 P w K mg base A outer s H → BindsTo s fd args (ps.zip us) → Vals vs us → sp vs H Q E →
    codeAny (model P w) A (.call (.ref f) args) (CR CX outer P w H s Q E) s
theorem FnOk.mono {P : Program} {w : World} {K : PySem.W.Frag} {mg : Str → Option Value} {base : Heap} {CX : CXT} {j k : Nat} {f : Addr} {fd : FuncData} {ps : List Str} {sp : Sp} (F : FnOk P w K mg base CX j f fd ps sp) (h : j ≤ k) :
    FnOk P w K mg base CX k f fd ps sp := ⟨F.len, fun A outer s H args us vs Q E hr => F.run A outer s H args us vs Q E (hr.mono h)⟩
section
variable {X : Cx} {pins : List (Addr × Obj)} {σ : St} {H : Hp} {s s' : Shared}
/-- from a body: what a callee wants -/
theorem Inv.env0 (I : Inv X pins σ H s) : Env0 X.prog X.w X.K X.mg X.base X.A X.stack s H :=
  ⟨I.ok.frames, I.ok.mod, I.bs, Nat.le_trans I.ok.bsz I.sz, I.stack, I.stkFree, I.hok, I.bare⟩
/-- behind a call -/
theorem Inv.after {Q : VK} {u : Value} (I : Inv X pins σ H s) (h : CE X.stack X.prog X.w H s Q u s') : EP X pins σ Q u s' := by
  obtain ⟨v, H', os, bare, un, hok, r, q⟩ := h
  obtain ⟨hh, g, d, t, os'⟩ := s'
  obtain rfl : os' = s.os := os
  exact ⟨v, H', I.call (h' := hh) (g' := g) (d' := d) (t' := t) (ch := []) un hok bare (fun b z => absurd z (by simp)), r, q⟩
end

/-! ### calls -/
/-- f(..): the written arguments, then the defaults dvs; E: what is wanted of an exception -/
def tCall (sp : Sp) (dvs : List V) (E : XK) (t : TA) : TE := fun σ H Q => t σ H fun vs H1 => sp (vs ++ dvs) H1 Q E
/-- how the parameters are bound: us the positional arguments, kw the keywords' values by name, ds the defaults that fill up -/
def Binds (K : PySem.W.Frag) (fd : FuncData) (ps : List Str) (ds : List Value) : Prop :=
  ∀ (s : Shared) (us : List Value), K.In s.heap → (us ++ ds).length = ps.length → BindsTo s fd ⟨us, []⟩ (ps.zip (us ++ ds))
/-- every parameter is given -/
theorem Binds.all {K : PySem.W.Frag} {fd : FuncData} {ps : List Str} (h : ∀ us : List Value, us.length = ps.length → bindArgs fd ⟨us, []⟩ = pure (ps.zip us)) : Binds K fd ps [] := fun s us _ hl => by
  rw [List.append_nil] at hl ⊢
  exact .of_eq (h us hl)

/-- an exception of a callee reaches what this body wants of exceptions -/
def Passes (CX : CXT) (X : Cx) (E : XK) : Prop := ∀ (pins : List (Addr × Obj)) (σ : St) (H : Hp) (s : Shared) (e : Value) (s' : Shared), Inv X pins σ H s → CX X.stack H s E e s' → X.xe e s'

section
variable {X : Cx} {CX : CXT} {k : Nat} {f C : Addr} {fd : FuncData} {ps : List Str} {sp : Sp} {dvs : List V} {ds : List Value} {E : XK} {x m : Str} {p pos apos : Pos} {e o : Expr} {es : List Expr} {ta : TE} {t : TA}

/-- the callee runs -/
theorem run_fn {pins : List (Addr × Obj)} {σ : St} {H : Hp} {s : Shared} {Q : VK} {us : List Value} {vs : List V} (F : FnOk X.prog X.w X.K X.mg X.base CX k f fd ps sp) (hr : Room k X.A) (hb : Binds X.K fd ps ds) (hd : Vals dvs ds) (hx : Passes CX X E)
    (I : Inv X pins σ H s) (r : Vals vs us) (h : sp (vs ++ dvs) H Q E) : wpAny (model X.prog X.w) X.A (call (.ref f) us) (EP X pins σ Q) X.xe s := by
  have r2 : Vals (vs ++ dvs) (us ++ ds) := r.append hd
  have hl : (us ++ ds).length = ps.length := by rw [← r2.length]; exact F.len _ _ _ _ h
  refine wpAny_call (codeAny_mono (F.run X.A X.stack s H ⟨us, []⟩ (us ++ ds) (vs ++ dvs) Q E hr I.env0 (hb s us I.kIn hl) r2 h) fun r s' hq => ?_)
  cases r with
  | error e => exact hx pins σ H s e s' I hq
  | ok fl =>
    cases fl with
    | ret u => exact I.after hq
    | next => exact False.elim hq
    | brk => exact False.elim hq
    | cont => exact False.elim hq

theorem pe_call (F : FnOk X.prog X.w X.K X.mg X.base CX k f fd ps sp) (hr : Room k X.A) (hg : Gl X x) (hm : X.mg x = some (.ref f)) (hk : PySem.W.keepIn X.K (.ref f) = true) (hb : Binds X.K fd ps ds) (hd : Vals dvs ds) (hx : Passes CX X E)
    (ha : PA X (e :: es) t) (hdb : (x == ("__debug__" : Str)) = false := by decide) (he : starEach (e :: es) X.env = (false, eval e X.env) :: starEach es X.env := by rfl) (hpl : (backTo pos (starEach es X.env)).any (·.1) = false := by rfl) :
    PE X (.Call (.Name x p) (e :: es) [] pos) (tCall sp dvs E t) := by
  intro pins s σ H Q I h
  refine wpAny_Call_Name_kw (ld_glob I hg hm ?_ hdb)
  refine PySem.W.callWith_K (h₀ := X.base) I.ok.mod.kin hk (thn (ha pos pins s σ H _ I h) fun us s1 ⟨vs, H1, I1, r, q⟩ => ⟨I1.kIn, ?_⟩) he hpl
  exact run_fn F hr hb hd hx I1 r q
end

/-! ### keywords -/

/-! ### a def's body keeps its promise -/
/-- names: the parameters first -/
structure FnScope (N P : List Str) (sc : Scope) : Prop where
  kind : sc.kind = .function
  co : sc.isCoroutine = false
  gen : sc.isGenerator = false
  nd : N.Nodup
  pre : N.take P.length = P
  par : ∀ x ∈ P, sc.names.lookup x = some .local ∨ sc.names.lookup x = some .cell
  nofree : ∀ y ∈ sc.names, y.2 ≠ .free

theorem bindL_out {kindOf : Str → Option NameKind} {x : Str} : ∀ {binds : List (Str × Value)} {m : Str → Option Value}, (∀ v, (x, v) ∉ binds) → bindL kindOf binds m x = m x
  | [], _, _ => rfl
  | (n, v) :: r, m, h => by
    unfold bindL
    rw [bindL_out fun w hw => h w (List.mem_cons_of_mem _ hw)]
    split
    · have : x ≠ n := by rintro rfl; exact h v List.mem_cons_self
      simp [this]
    · rfl
theorem bindC_out {kindOf : Str → Option NameKind} {x : Str} : ∀ {binds : List (Str × Value)} {m : Str → Option Value}, (∀ v, (x, v) ∉ binds) → bindC kindOf binds m x = m x
  | [], _, _ => rfl
  | (n, v) :: r, m, h => by
    unfold bindC
    rw [bindC_out fun w hw => h w (List.mem_cons_of_mem _ hw)]
    split
    · rfl
    · have : x ≠ n := by rintro rfl; exact h v List.mem_cons_self
      simp [this]
theorem bindL_get {kindOf : Str → Option NameKind} {x : Str} {v : Value} : ∀ {P : List Str} {vs : List Value} {i : Nat} {m : Str → Option Value}, P.Nodup → P[i]? = some x → vs[i]? = some v → kindOf x = some .local →
    bindL kindOf (P.zip vs) m x = some v
  | [], _, _, _, _, h, _, _ => by simp at h
  | _ :: _, [], _, _, _, _, h, _ => by simp at h
  | p :: P, w :: vs, 0, m, nd, h1, h2, hk => by
    simp at h1 h2; subst h1; subst h2
    show bindL kindOf ((p, w) :: P.zip vs) m p = _
    unfold bindL
    rw [bindL_out fun v hv => (List.nodup_cons.mp nd).1 (List.of_mem_zip hv).1, if_pos hk]
    simp
  | p :: P, w :: vs, i + 1, m, nd, h1, h2, hk => by
    show bindL kindOf ((p, w) :: P.zip vs) m x = _
    unfold bindL
    exact bindL_get (i := i) (List.nodup_cons.mp nd).2 (by simpa using h1) (by simpa using h2) hk
theorem bindC_get {kindOf : Str → Option NameKind} {x : Str} {v : Value} : ∀ {P : List Str} {vs : List Value} {i : Nat} {m : Str → Option Value}, P.Nodup → P[i]? = some x → vs[i]? = some v → kindOf x ≠ some .local →
    bindC kindOf (P.zip vs) m x = some v
  | [], _, _, _, _, h, _, _ => by simp at h
  | _ :: _, [], _, _, _, _, h, _ => by simp at h
  | p :: P, w :: vs, 0, m, nd, h1, h2, hk => by
    simp at h1 h2; subst h1; subst h2
    show bindC kindOf ((p, w) :: P.zip vs) m p = _
    unfold bindC
    rw [bindC_out fun v hv => (List.nodup_cons.mp nd).1 (List.of_mem_zip hv).1, if_neg hk]
    simp
  | p :: P, w :: vs, i + 1, m, nd, h1, h2, hk => by
    show bindC kindOf ((p, w) :: P.zip vs) m x = _
    unfold bindC
    exact bindC_get (i := i) (List.nodup_cons.mp nd).2 (by simpa using h1) (by simpa using h2) hk

/-- the names' values at the entry -/
def start (N : List Str) (vs : List V) : St := vs.map some ++ List.replicate (N.length - vs.length) none

/-- the context of a def's body, at its entry; an exception leaves the frame, then lies as CX says -/
def cxOf (CX : CXT) (P : Program) (w : World) (K : PySem.W.Frag) (mg : Str → Option Value) (base : Heap) (N : List Str) (qual : Str) (scope : Scope) (f : Addr) (cd : Value) (A : Around) (outer : List Env) (s : Shared) (H : Hp) (E : XK) : Cx where
  prog := P
  w := w
  K := K
  mg := mg
  base := base
  A := A.deeper (envOfC qual scope s.heap.objs.size f cd)
  N := N
  s₀ := s
  H₀ := H
  env := envOfC qual scope s.heap.objs.size f cd
  outer := outer
  stack := envOfC qual scope s.heap.objs.size f cd :: outer
  ex := []
  calm := true
  fn := fun _ => true
  pn := []
  xe := fun e s' => wpAny (model P w) (A.deeper (envOfC qual scope s.heap.objs.size f cd)) (leaving (envOfC qual scope s.heap.objs.size f cd) e) (fun _ s'' => CX outer H s E e s'') (fun e' s'' => CX outer H s E e' s'') s'

theorem cell_has {sc : Scope} {n : Nat} {x : Str} (h : sc.names.lookup x = some .cell) : ∃ c, (cellsFrom n sc.names []).lookup x = some c := by
  have q := PySem.W.cellsFrom_some sc.names n [] (.inl h)
  exact Option.isSome_iff_exists.mp q

theorem inv_start {CX : CXT} {P : Program} {w : World} {K : PySem.W.Frag} {mg : Str → Option Value} {base : Heap} {N ps : List Str} {qual : Str} {scope : Scope} {f : Addr} {cd : Value} {A : Around} {outer : List Env} {s s1 : Shared} {H : Hp} {E : XK} {us : List Value} {vs : List V}
    (S : FnScope N ps scope) (hd : A.handled = none) (e0 : Env0 P w K mg base A outer s H) (hl : vs.length = ps.length) (r : Vals vs us)
    (x : InCallC s s.heap.objs.size (bindL (envOfC qual scope s.heap.objs.size f cd).kindOf (ps.zip us) fun _ => none) (cellsFrom (s.heap.objs.size + 1) scope.names []) (bindC (envOfC qual scope s.heap.objs.size f cd).kindOf (ps.zip us) fun _ => none) s1) :
    Inv (cxOf CX P w K mg base N qual scope f cd A outer s H E) [] (start N vs) H s1 := by
  have hpl : ps.length ≤ N.length := by have := congrArg List.length S.pre; rw [List.length_take] at this; omega
  obtain ⟨h1, tk, rfl, hk⟩ := x.done
  have noA : ∀ b : Addr, b ∉ (cxOf CX P w K mg base N qual scope f cd A outer s H E).ex := fun b z => absurd (show b ∈ ([] : List Addr) from z) (by simp)
  refine ⟨⟨e0.mod, S.kind, rfl, rfl, Nat.le_refl _, fun y z c h1 h2 => ?_, fun y hy => ?_, fun y c _ h => ?_, fun _ => hd, Around.frames_deeper e0.frames, .inr ⟨rfl, rfl⟩, fun b z => absurd z (noA b), e0.bs, e0.bsz, fun b _ _ => noA b, fun b z => absurd z (noA b), e0.funs, e0.frf⟩,
    rfl, e0.bare, Un.kept hk, ⟨_, x.toInCall.ns, fun i y v h1 h2 h3 => ?_⟩, fun y c h => ⟨_, x.cell y c h⟩, e0.hok.fresh (Nat.le_refl _), fun y c h => ?_, fun p hp => absurd (show p ∈ ([] : List (Addr × Obj)) from hp) (by simp), e0.hok.kept hk, ?_⟩
  · exact name_of_addr x.apart (PySem.mem_of_lookup h1) (PySem.mem_of_lookup h2)
  · have hy : scope.names.lookup y = some .cell ∨ scope.names.lookup y = some .free := hy
    rcases hy with hy | hy
    · exact cell_has hy
    · exact absurd rfl (S.nofree _ (PySem.mem_of_lookup hy))
  · exact Nat.le_of_lt (x.above y c (PySem.mem_of_lookup h))
  · have hi : i < vs.length := by
      unfold start at h2
      by_cases hi : i < vs.length
      · exact hi
      · rw [List.getElem?_append_right (by simpa using hi)] at h2
        rw [List.getElem?_replicate] at h2
        split at h2 <;> cases h2
    have ha : vs[i]? = some v := by
      unfold start at h2
      rw [List.getElem?_append_left (by simpa using hi), List.getElem?_map] at h2
      cases e : vs[i]? with
      | none => rw [e] at h2; cases h2
      | some a => rw [e] at h2; cases h2; rfl
    obtain ⟨u, hu, rv⟩ := r.get ha
    have hp : ps[i]? = some y := by
      rw [← S.pre, List.getElem?_take_of_lt (by omega)]; exact h1
    have ndP : ps.Nodup := by rw [← S.pre]; exact S.nd.sublist (List.take_sublist _ _)
    refine ⟨u, rv, ?_⟩
    rcases S.par y (List.mem_of_getElem? hp) with k | k
    · exact .inl ⟨k, bindL_get ndP hp hu k⟩
    · obtain ⟨c, e⟩ := cell_has (n := s.heap.objs.size + 1) k
      refine .inr ⟨.inl k, c, e, ?_⟩
      have q := x.cell y c e
      rw [bindC_get ndP hp hu (by show scope.names.lookup y ≠ _; rw [k]; decide)] at q
      exact q
  · exact e0.hok.fresh (Nat.le_of_lt (x.above y c (PySem.mem_of_lookup h)))
  · unfold start
    show _ = N.length
    rw [List.length_append, List.length_map, List.length_replicate]
    omega

/-- THE RULE: a def (or a method) of the text, by its body. The body's reading t is chosen for each entry; it is run at the parameters' values -/
theorem fn_of {CX : CXT} {P : Program} {w : World} {K : PySem.W.Frag} {mg : Str → Option Value} {base : Heap} {k : Nat} {f : Addr} {name qual : Str} {params : Arguments} {body : List Stmt} {scope : Scope} {dV kV doc pm cdv ct oc : Value} {an od : Option Addr}
    {osl : Array (Option Value)} {N ps : List Str} {sp : Sp} (lk : K.lookup f = some ⟨oc, od, .func (PySem.W.fnOf name qual params body scope dV kV doc pm an cdv ct), osl⟩) (hcd : PySem.W.codeIn K cdv qual = true) (S : FnScope N ps scope)
    (len : ∀ vs H Q E, sp vs H Q E → vs.length = ps.length)
    (hbody : ∀ (A : Around) (outer : List Env) (s : Shared) (H : Hp) (vs : List V) (Q : VK) (E : XK), Room k (A.deeper (envOfC qual scope s.heap.objs.size f cdv)) → sp vs H Q E →
      ∃ t, PSs (cxOf CX P w K mg base N qual scope f cdv A outer s H E) body t ∧ t { nx := fun _ H' => Q .non H', rt := Q } (start N vs) H) :
    FnOk P w K mg base CX (k + 1) f (PySem.W.fnOf name qual params body scope dV kV doc pm an cdv ct) ps sp := by
  refine ⟨len, fun A outer s H args us vs Q E hr e0 hb r hsp => ?_⟩
  have hl := len _ _ _ _ hsp
  have KX : K.In s.heap := e0.mod.kin.keeps fun b o e => (e0.bs b o e).1
  have lim : s.heap.NoLimit := e0.mod.nolimit.keeps fun b o e => (e0.bs b o e).1
  have hkind : ∀ y ∈ ps.zip us, scope.names.lookup y.1 = some .local ∨ (scope.names.lookup y.1 = some .cell ∧ ((cellsFrom (s.heap.objs.size + 1) scope.names []).lookup y.1).isSome = true) := fun ⟨n, v⟩ hy => by
    rcases S.par n (List.of_mem_zip hy).1 with q | q
    · exact .inl q
    · exact .inr ⟨q, PySem.W.cellsFrom_some _ _ _ (.inl q)⟩
  refine codeAny_call_function hr.depth (KX _ _ lk) rfl S.co S.gen rfl (PySem.W.codeRec_of KX hcd) (hb _ _ _ _ ?_)
  refine wpAny_newFunctionEnv_cells S.kind hkind fun env he s1 x => ?_
  subst he
  refine ⟨lim.keeps x.toInCall.keep, codeAny_func ?_⟩
  obtain ⟨t, ht, hq⟩ := hbody A outer s H vs Q E (hr.deeper _) hsp
  have I : Inv (cxOf CX P w K mg base N qual scope f cdv A outer s H E) [] (start N vs) H s1 := inv_start S hr.hd e0 hl r x
  refine wpAny_mono (ht [] s1 (start N vs) H _ I hq) (fun fl s' hs => ?_) fun e s' hs => hs
  have fin : ∀ {σ' : St} {H' : Hp} {v : V} {u : Value}, Inv (cxOf CX P w K mg base N qual scope f cdv A outer s H E) [] σ' H' s' → RelV v u → Q v H' → CE outer P w H s Q u s' :=
    fun {σ' H' v u} J rv q => ⟨v, H', J.os, J.bare, J.base, J.hok, rv, q⟩
  cases fl with
  | ret u =>
    obtain ⟨v, σ', H', J, rv, q⟩ := hs
    exact fin J rv q
  | next =>
    obtain ⟨σ', H', J, q⟩ := hs
    exact fin (v := V.non) (u := Value.none) J rfl q
  | brk =>
    obtain ⟨_, _, _, q⟩ := hs
    exact False.elim q
  | cont =>
    obtain ⟨_, _, _, q⟩ := hs
    exact False.elim q
end L2

namespace L2
open PySem PySem.Spec PyProof.Rows
section
variable {X : Cx} {x : Str} {p pos : Pos} {e : Expr} {es : List Expr} {t : TA} {id T : String} {r : List V → Hp → VK → Prop}

def tCB (r : List V → Hp → VK → Prop) (t : TA) : TE := fun σ H Q => t σ H fun vs H1 => r vs H1 Q
/-- f(e, ..), f a built-in function -/
theorem pe_callB (hc : CallR X (.builtin id) r) (hg : Gl X x) (hm : X.mg x = none) (hv : bootBuiltins x = some (.builtin id)) (ha : PA X (e :: es) t) (hn : x ≠ "__name__" := by decide) (hdb : (x == ("__debug__" : Str)) = false := by decide)
    (he : starEach (e :: es) X.env = (false, eval e X.env) :: starEach es X.env := by rfl) (hpl : (backTo pos (starEach es X.env)).any (·.1) = false := by rfl) : PE X (.Call (.Name x p) (e :: es) [] pos) (tCB r t) := by
  intro pins s σ H Q I h
  refine wpAny_Call_Name_kw (ld_blt I hg hm hv ?_ hn hdb)
  exact PyProof.Rows.callWith_builtin1 (thn (ha pos pins s σ H _ I h) fun us s1 ⟨vs, H1, I1, r1, q1⟩ => hc pins s1 σ H1 vs us Q I1 r1 q1) he hpl
/-- T(e, ..), T a built-in type -/
theorem pe_callTy (hc : CallR X (.type T) r) (hg : Gl X x) (hm : X.mg x = none) (hv : bootBuiltins x = some (.type T)) (ha : PA X (e :: es) t) (hn : x ≠ "__name__" := by decide) (hdb : (x == ("__debug__" : Str)) = false := by decide)
    (he : starEach (e :: es) X.env = (false, eval e X.env) :: starEach es X.env := by rfl) (hpl : (backTo pos (starEach es X.env)).any (·.1) = false := by rfl) : PE X (.Call (.Name x p) (e :: es) [] pos) (tCB r t) := by
  intro pins s σ H Q I h
  refine wpAny_Call_Name_kw (ld_blt I hg hm hv ?_ hn hdb)
  exact PyProof.Rows.callWith_type1 (thn (ha pos pins s σ H _ I h) fun us s1 ⟨vs, H1, I1, r1, q1⟩ => hc pins s1 σ H1 vs us Q I1 r1 q1) he hpl
end
end L2

namespace HT
open PySem PyProof.Rows


section
variable {prog : Program} {w : World} {A : Around} {E : Value → Shared → Prop} {s : Shared}

/-- t + u, t not empty -/
theorem cat_tup {t b : Addr} {vs ws : List Value} {Q : Value → Shared → Prop} (ht : IsTup s.heap t vs.toArray) (hb : IsTup s.heap b ws.toArray) (hv : vs ≠ [])
    (h1 : ws = [] → Q (.ref t) s) (h2 : ws ≠ [] → Q (.ref s.heap.objs.size) { s with heap := s.heap.push { cls := .type "tuple", data := .seq (vs ++ ws).toArray } })
    (hsz : vs.length + ws.length ≤ sizeLine) : wpAny (model prog w) A (binaryOp .Add (.ref t) (.ref b)) Q E s := by
  obtain ⟨⟨cls, dd, data, sl⟩, ho, hc, n, hd⟩ := id ht
  obtain ⟨⟨cls2, dd2, data2, sl2⟩, ho2, hc2, n2, hd2⟩ := id hb
  simp only at hc hd hc2 hd2
  subst hc hd hc2 hd2
  have e : vs.toArray ++ ws.toArray = (vs ++ ws).toArray := by simp
  by_cases hw : ws = []
  · exact concat_meets ⟨_, ho, rfl⟩ ⟨_, ho2, rfl⟩ noFill_tuple_add seq_tuple_add PySem.F.slot_tuple_add PySem.F.entry_tuple_add (PySem.F.args_tuple_add_2 _ _)
      (tuple_addW1 t b vs.toArray ws.toArray n n2 dd dd2 sl sl2 (by simpa using hv) (by simp [hw])) ⟨ho, ho2, h1 hw⟩
  · refine concat_meets ⟨_, ho, rfl⟩ ⟨_, ho2, rfl⟩ noFill_tuple_add seq_tuple_add PySem.F.slot_tuple_add PySem.F.entry_tuple_add (PySem.F.args_tuple_add_2 _ _)
      (tuple_addW2 t b vs.toArray ws.toArray n n2 dd dd2 sl sl2 (by simpa using hv) (by simpa using hw) (by rw [List.size_toArray, List.size_toArray]; exact hsz)) ⟨ho, ho2, ?_⟩
    rw [e]
    exact h2 hw

/-! ### t[a:b], not the whole -/
/-- a slice's bound as a place among n (d where it is left out) -/
def sIx (n d : Nat) : Option Int → Nat
  | none => d
  | some v => if v < 0 then (v + (n : Int)).toNat else min v.toNat n
theorem sIx_none (n d : Nat) : sIx n d none = d := rfl
theorem sIx_nat (n d k : Nat) : sIx n d (some (k : Int)) = min k n := by
  show (if (k : Int) < 0 then ((k : Int) + (n : Int)).toNat else min (k : Int).toNat n) = min k n
  rw [if_neg (by omega), Int.toNat_natCast]
theorem sIx_le (n d : Nat) (hd : d ≤ n) (o : Option Int) : sIx n d o ≤ n := by
  cases o with
  | none => exact hd
  | some v =>
    show (if v < 0 then (v + (n : Int)).toNat else min v.toNat n) ≤ n
    by_cases hv : v < 0
    · rw [if_pos hv]; omega
    · rw [if_neg hv]; exact Nat.min_le_right _ _
theorem clip_eq (v : Int) (n d : Nat) : (if v < 0 then max (v + (n : Int)) 0 else min v (n : Int)) = ((sIx n d (some v) : Nat) : Int) := by
  show (if v < 0 then max (v + (n : Int)) 0 else min v (n : Int)) = (((if v < 0 then (v + (n : Int)).toNat else min v.toNat n) : Nat) : Int)
  by_cases hv : v < 0
  · simp only [if_pos hv]; omega
  · simp only [if_neg hv]; omega
theorem adjust_gen (lo hi : Option Int) (n : Nat) : Builtin.Slice.sliceAdjust lo hi 1 (n : Int) = (((sIx n 0 lo : Nat) : Int), ((sIx n n hi : Nat) : Int)) := by
  have h1 : ¬ ((1 : Int) < 0) := by omega
  unfold Builtin.Slice.sliceAdjust
  simp only [h1, if_false]
  refine Prod.ext ?_ ?_
  · cases lo with
    | none => rfl
    | some v => exact clip_eq v n 0
  · cases hi with
    | none => rfl
    | some v => exact clip_eq v n n
theorem places_gen (i j : Nat) : Builtin.Slice.slicePlaces (i : Int) (j : Int) 1 = j - i := by
  unfold Builtin.Slice.slicePlaces
  have h1 : (1 : Int) > 0 := by omega
  simp only [h1, if_true, Int.ediv_one]
  split <;> omega
theorem slicePart_ {v : Value} {o : Option Int} {Q : Option Int → Shared → Prop} (p : IsPart v o) (h : Q o s) : wpAny (model prog w) A (Builtin.Slice.slicePartIndex v) Q E s := by
  cases p with
  | none => exact slicePart_none h
  | int i t => exact slicePart_int h
theorem sliceApplied_gen {sl : Addr} {vl vu : Value} {lo hi : Option Int} {n : Nat} {Q : Int × Int × Nat → Shared → Prop} (hs : s.heap.IsSliceOf sl vl vu .none) (pl : IsPart vl lo) (pu : IsPart vu hi)
    (h : Q (((sIx n 0 lo : Nat) : Int), 1, sIx n n hi - sIx n 0 lo) s) : wpAny (model prog w) A (Builtin.Slice.sliceApplied (.ref sl) (pure (n : Int))) Q E s := by
  obtain ⟨os, hos, hcs, hds⟩ := id hs
  unfold Builtin.Slice.sliceApplied Builtin.Slice.sliceFields
  refine wpAny_bind (wpAny_bind (wpAny_field hos hds (x := vl) rfl (wpAny_bind (wpAny_field hos hds (x := vu) rfl (wpAny_bind (wpAny_field hos hds (x := .none) rfl (wpAny_pure ?_)))))))
  refine wpAny_bind (slicePart_none ?_)
  show wpAny _ _ (if ((1 : Int) == 0) = true then _ else _) _ _ s
  rw [if_neg (by decide)]
  refine wpAny_bind (slicePart_ pl (wpAny_bind (slicePart_ pu (wpAny_bind (wpAny_pure ?_)))))
  show wpAny _ _ (match Builtin.Slice.sliceAdjust lo hi 1 (n : Int) with | (lo, hi) => pure (lo, (1 : Int), Builtin.Slice.slicePlaces lo hi 1)) _ _ s
  rw [adjust_gen lo hi n]
  show wpAny _ _ (pure (((sIx n 0 lo : Nat) : Int), (1 : Int), Builtin.Slice.slicePlaces ((sIx n 0 lo : Nat) : Int) ((sIx n n hi : Nat) : Int) 1)) _ _ s
  rw [places_gen]
  exact wpAny_pure h
theorem pick_gen (xs : Array Value) (i k : Nat) : ((List.range k).filterMap fun (m : Nat) => xs[((i : Int) + (m : Int) * 1).toNat]?).toArray = ((xs.toList.drop i).take k).toArray := by
  have e : (fun (m : Nat) => xs[((i : Int) + (m : Int) * 1).toNat]?) = fun m => xs[i + m]? := by
    funext m
    have : ((i : Int) + (m : Int) * 1).toNat = i + m := by omega
    rw [this]
  rw [e]
  have := pick_run xs i k
  rw [List.filterMap_map] at this
  have e2 : ((fun x => xs[x]?) ∘ fun x => i + x) = fun m => xs[i + m]? := rfl
  rw [e2] at this
  rw [this]

theorem getItem_tuple_cut {t sl : Addr} {items : Array Value} {vl vu : Value} {lo hi : Option Int} {Q : Value → Shared → Prop} (ht : IsTup s.heap t items) (hs : s.heap.IsSliceOf sl vl vu .none) (pl : IsPart vl lo) (pu : IsPart vu hi)
    (hw : ¬ (sIx items.size 0 lo = 0 ∧ sIx items.size items.size hi = items.size))
    (h : Q (.ref s.heap.objs.size) { s with heap := s.heap.push { cls := .type "tuple", data := .seq ((items.toList.drop (sIx items.size 0 lo)).take (sIx items.size items.size hi - sIx items.size 0 lo)).toArray } })
    (hsz : items.size ≤ sizeLine) : wpAny (model prog w) A (getItem (.ref t) (.ref sl)) Q E s := by
  have htake : sizeOk (.seq ((items.toList.drop (sIx items.size 0 lo)).take (sIx items.size items.size hi - sIx items.size 0 lo)).toArray) := by
    show ((items.toList.drop (sIx items.size 0 lo)).take (sIx items.size items.size hi - sIx items.size 0 lo)).toArray.size ≤ sizeLine
    rw [List.size_toArray, List.length_take, List.length_drop, Array.length_toList]
    omega
  have hj : sIx items.size items.size hi ≤ items.size := sIx_le _ _ (Nat.le_refl _) hi
  obtain ⟨os, hos, hcs, hds⟩ := id hs
  have hTs : s.TypeIs (.ref sl) "slice" := ⟨os, hos, hcs⟩
  unfold getItem
  try with_reducible refine wpAny_holding ?_
  first | refine wpAny_bind (wpAny_pure ?_) | skip
  refine wpAny_bind (wpAny_sequenceKey ht.typeIs (by decide) ?_)
  refine wpAny_bind (wpAny_callSpecial?_slot (name := Str.ofString "__getitem__") ht.typeIs PyProof.Rows.slot_tuple_getitem
    (wpAny_call_entry PyProof.Rows.slot_tuple_getitem ht.typeIs entry_tuple_getitem ?_ (args_tuple_getitem _ _)))
  show wpAny _ _ (Builtin.Tuple.tupleItemsOf (.ref t) >>= _) _ _ s
  refine wpAny_bind (tupleItemsOf_ ht ?_)
  refine wpAny_bind (wpAny_typeOf hTs ?_)
  rw [if_pos (by decide)]
  refine wpAny_bind (sliceApplied_gen hs pl pu ?_)
  have hno : ¬ ((((sIx items.size 0 lo : Nat) : Int) == 0 && (1 : Int) == 1 && (sIx items.size items.size hi - sIx items.size 0 lo) == items.size) = true) := by
    intro q
    rw [Bool.and_eq_true, Bool.and_eq_true] at q
    have q1 : ((sIx items.size 0 lo : Nat) : Int) = 0 := eq_of_beq q.1.1
    have q2 : sIx items.size items.size hi - sIx items.size 0 lo = items.size := eq_of_beq q.2
    exact hw ⟨by omega, by omega⟩
  show wpAny _ _ (if (((sIx items.size 0 lo : Nat) : Int) == 0 && (1 : Int) == 1 && (sIx items.size items.size hi - sIx items.size 0 lo) == items.size) = true then _ else _) _ _ s
  rw [if_neg hno, pick_gen]
  first
    | exact wpAny_bind (m := Builtin.Tuple.tupleExact _) (wpAny_newObj_type (wpAny_pure ⟨_, rfl, wpAny_pure h⟩) htake)
    | exact wpAny_bind (m := Builtin.Tuple.tupleExact _) (wpAny_newObj_type (wpAny_bind (wpAny_pure (wpAny_pure ⟨_, rfl, wpAny_pure h⟩))) htake)
    | exact wpAny_bind (wpAny_bind (m := Builtin.Tuple.tupleExact _) (wpAny_newObj_type (wpAny_pure (wpAny_pure ⟨_, rfl, wpAny_pure h⟩)) htake))
    | exact wpAny_bind (wpAny_bind (m := Builtin.Tuple.tupleExact _) (wpAny_newObj_type (wpAny_pure ⟨_, rfl, wpAny_pure h⟩) htake))
end
end HT

namespace L2
open PySem PySem.Spec PyProof.Rows

/-! ### the parts of a slice -/
abbrev TO := St → Hp → (Option Int → Hp → Prop) → Prop
/-- a slice's part (left out, or an int) -/
def PO (X : Cx) (e : Option Expr) (t : TO) : Prop :=
  ∀ (pins : List (Addr × Obj)) (s : Shared) (σ : St) (H : Hp) (Q : Option Int → Hp → Prop), Inv X pins σ H s → t σ H Q →
    wpAny (model X.prog X.w) X.A (evalPart e X.env) (fun u s' => ∃ o H', Inv X pins σ H' s' ∧ IsPart u o ∧ Q o H') X.xe s
def tNoPart : TO := fun _ H Q => Q none H
def tPart (t : TE) : TO := fun σ H Q => t σ H fun x H1 => ∃ i, x = .int i ∧ Q (some i) H1

section
variable {X : Cx} {e : Expr} {te : TE} {lo hi : Option Expr} {tl th : TO} {pos p2 : Pos}

theorem po_none : PO X none tNoPart := by
  intro pins s σ H Q I h
  rw [evalPart_none]
  exact wpAny_pure ⟨none, H, I, .none, h⟩
theorem po_some (h : PE X e te) : PO X (some e) (tPart te) := by
  intro pins s σ H Q I hw
  rw [evalPart_some]
  refine thn (h pins s σ H _ I hw) fun u s1 ⟨x, H1, I1, r1, q1⟩ => ?_
  obtain ⟨i, rfl, q⟩ := q1
  obtain ⟨t, rfl⟩ := r1
  exact ⟨some i, H1, I1, .int i t, q⟩

/-- what a slice of a value is, by values: the slice object stands at sl -/
def SlR (X : Cx) (r : V → Option Int → Option Int → Hp → VK → Prop) : Prop :=
  ∀ (pins : List (Addr × Obj)) (s : Shared) (σ : St) (H : Hp) (x : V) (v vl vu : Value) (lo hi : Option Int) (sl : Addr) (Q : VK), Inv X pins σ H s → RelV x v → s.heap.IsSliceOf sl vl vu .none → IsPart vl lo → IsPart vu hi → r x lo hi H Q →
    ∃ T id, typeLookup (.type T) "__getitem__" = pure (some (.builtin id)) ∧ s.TypeIs v T ∧ wpAny (model X.prog X.w) X.A (getItem v (.ref sl)) (EP X pins σ Q) X.xe s
theorem SlR.or {r r' : V → Option Int → Option Int → Hp → VK → Prop} (h : SlR X r) (h' : SlR X r') : SlR X (fun x lo hi H Q => r x lo hi H Q ∨ r' x lo hi H Q) := by
  intro pins s σ H x v vl vu lo hi sl Q I rx hs pl pu q
  rcases q with q | q
  · exact h pins s σ H x v vl vu lo hi sl Q I rx hs pl pu q
  · exact h' pins s σ H x v vl vu lo hi sl Q I rx hs pl pu q
def tSl (r : V → Option Int → Option Int → Hp → VK → Prop) (te : TE) (tl th : TO) : TE := fun σ H Q => te σ H fun x H1 => tl σ H1 fun l H2 => th σ H2 fun u H3 => r x l u H3 Q
/-- a[lo:hi], any a -/
theorem pe_slice {r : V → Option Int → Option Int → Hp → VK → Prop} (hr : SlR X r) (he : PE X e te) (hl : PO X lo tl) (hu : PO X hi th) : PE X (.Subscript e (.Slice lo hi none p2) pos) (tSl r te tl th) := by
  intro pins s σ H Q I h
  refine Subscript_ (thn (he pins s σ H _ I h) fun v s1 ⟨x, H1, I1, r1, q1⟩ => ?_)
  refine wpAny_Slice (thn (hl pins s1 σ H1 _ I1 q1) fun vl s2 ⟨l, H2, I2, pl, q2⟩ => thn (hu pins s2 σ H2 _ I2 q2) fun vu s3 ⟨u, H3, I3, pu, q3⟩ => ?_)
  rw [evalPart_none]
  refine wpAny_pure ?_
  have I4 : Inv X pins σ H3 { s3 with heap := s3.heap.push { cls := .type "slice", data := .fields #[vl, vu, .none] } } := I3.kept (t' := s3.toks) fun b ob q => Heap.get?_push_of_some _ q
  obtain ⟨T, id, hT, ht, hg⟩ := hr pins { s3 with heap := s3.heap.push { cls := .type "slice", data := .fields #[vl, vu, .none] } } σ H3 x v vl vu l u s3.heap.objs.size Q I4 r1 (Heap.IsSliceOf.new ..) pl pu q3
  show wpAny (model X.prog X.w) X.A (subscriptTail e (.Slice lo hi none p2) v (.ref s3.heap.objs.size)) (EP X pins σ Q) X.xe { s3 with heap := s3.heap.push { cls := .type "slice", data := .fields #[vl, vu, .none] } }
  exact tail_any (ops := [.ref s3.heap.objs.size, v]) ht hT hg (by with_unfolding_all rfl)

/-- the items of xs[lo:hi] -/
def cutV (xs : List V) (lo hi : Option Int) : List V := (xs.drop (HT.sIx xs.length 0 lo)).take (HT.sIx xs.length xs.length hi - HT.sIx xs.length 0 lo)
theorem cutV_length (xs : List V) (lo hi : Option Int) : (cutV xs lo hi).length ≤ xs.length := by
  unfold cutV
  rw [List.length_take, List.length_drop]
  omega
/-- t[lo:hi], not the whole of it (the whole would be t itself) -/
def rSlT (K : PySem.W.Frag) : V → Option Int → Option Int → Hp → VK → Prop := fun x lo hi H Q => ∃ a xs, x = .ref a ∧ SqT K H a xs ∧
  ¬ (HT.sIx xs.length 0 lo = 0 ∧ HT.sIx xs.length xs.length hi = xs.length) ∧ ∀ p, H p = none → Q (.ref p) (upd H p (.tup (cutV xs lo hi)))
theorem sl_tup : SlR X (rSlT X.K) := by
  intro pins s σ H x v vl vu lo hi sl Q I rx hs pl pu h
  obtain ⟨a, xs, rfl, hx, hw, q⟩ := h
  cases rx
  obtain ⟨its, r, ht, hz⟩ := I.tuple hx
  have hlen : its.toArray.size = xs.length := by rw [List.size_toArray]; exact r.length.symm
  refine ⟨"tuple", _, PyProof.Rows.slot_tuple_getitem.lookup, ht.typeIs, ?_⟩
  refine HT.getItem_tuple_cut ht hs pl pu (by rw [hlen]; exact hw) ?_ (by rw [hlen]; exact hz)
  rw [hlen]
  refine ⟨.ref s.heap.objs.size, _, I.laid (t' := s.toks) (o := .tup (cutV xs lo hi)) (fun b ob q => Heap.get?_push_of_some _ q) (Nat.le_refl _) ?_, rfl, q _ (I.hok.fresh (Nat.le_refl _))⟩
  exact ⟨Nat.le_trans (cutV_length xs lo hi) hz, _, (r.drop (HT.sIx xs.length 0 lo)).take (HT.sIx xs.length xs.length hi - HT.sIx xs.length 0 lo), IsTup.new _ _⟩

/-! ### t < u, t + u -/
/-- t + u, t not empty: u empty gives t itself -/
def rCatT (K : PySem.W.Frag) : R2 := fun x y H Q => ∃ a b xs ys, x = .ref a ∧ y = .ref b ∧ SqT K H a xs ∧ SqT K H b ys ∧ xs ≠ [] ∧ xs.length + ys.length ≤ sizeLine ∧
  (ys = [] → Q (.ref a) H) ∧ (ys ≠ [] → ∀ p, H p = none → Q (.ref p) (upd H p (.tup (xs ++ ys))))
theorem Vals.nil_iff {xs : List V} {us : List Value} (r : Vals xs us) : us = [] ↔ xs = [] := by
  cases r with
  | nil => simp
  | cons _ _ => simp
theorem op_catT : OpR X (binaryOp .Add) (rCatT X.K) := by
  intro pins s σ H x y v u Q I rx ry h
  obtain ⟨a, b, xs, ys, rfl, rfl, ha, hb, hx, hz, q1, q2⟩ := h
  cases rx
  cases ry
  obtain ⟨its, r1, p1, _⟩ := I.tuple ha
  obtain ⟨its2, r2, p2, _⟩ := I.tuple hb
  refine HT.cat_tup p1 p2 (fun z => hx (r1.nil_iff.mp z)) (fun z => ⟨.ref a, H, I, rfl, q1 (r2.nil_iff.mp z)⟩) (fun z => ?_) (by rw [← r1.length, ← r2.length]; exact hz)
  refine ⟨.ref s.heap.objs.size, _, I.laid (t' := s.toks) (o := .tup (xs ++ ys)) (fun b ob q => Heap.get?_push_of_some _ q) (Nat.le_refl _) ?_, rfl, q2 (fun w => z (r2.nil_iff.mpr w)) _ (I.hok.fresh (Nat.le_refl _))⟩
  exact ⟨by rw [List.length_append]; exact hz, _, r1.append r2, IsTup.new _ _⟩
end
end L2

namespace L2
open PySem PySem.Spec PyProof.Rows

/-! ### places -/
/-- the place that an index of any sign means -/
def ixN (n : Nat) (i : Int) : Option Nat := if 0 ≤ i then (if i < n then some i.toNat else none) else if -(n : Int) ≤ i then some (i + n).toNat else none
def atI {α : Type} (xs : List α) (i : Int) : Option α := (ixN xs.length i).bind fun j => xs[j]?
theorem ixN_seq {n : Nat} {i : Int} {j : Nat} (h : ixN n i = some j) : seqIndex? i n = some j ∧ j < n ∧ -(n : Int) ≤ i ∧ i < n := by
  unfold ixN at h
  by_cases h0 : 0 ≤ i
  · rw [if_pos h0] at h
    by_cases h1 : i < n
    · rw [if_pos h1] at h
      have e : i.toNat = j := Option.some.inj h
      exact ⟨by rw [seqIndex_of h0 h1, e], by omega, by omega, h1⟩
    · rw [if_neg h1] at h; cases h
  · rw [if_neg h0] at h
    by_cases h1 : -(n : Int) ≤ i
    · rw [if_pos h1] at h
      have e : (i + n).toNat = j := Option.some.inj h
      exact ⟨by rw [seqIndex_neg (by omega) h1, e], by omega, h1, by omega⟩
    · rw [if_neg h1] at h; cases h
theorem atI_get {α : Type} {xs : List α} {i : Int} {v : α} (h : atI xs i = some v) : ∃ j, seqIndex? i xs.length = some j ∧ xs[j]? = some v ∧ j < xs.length ∧ -(xs.length : Int) ≤ i ∧ i < xs.length := by
  unfold atI at h
  cases e : ixN xs.length i with
  | none => rw [e] at h; cases h
  | some j =>
    rw [e] at h
    obtain ⟨h1, h2, h3, h4⟩ := ixN_seq e
    exact ⟨j, h1, h, h2, h3, h4⟩
theorem atI_nat {α : Type} {xs : List α} {j : Nat} {v : α} (h : xs[j]? = some v) : atI xs (j : Int) = some v := by
  have hj : j < xs.length := (List.getElem?_eq_some_iff.mp h).1
  have e : ixN xs.length (j : Int) = some j := by
    unfold ixN
    rw [if_pos (by omega), if_pos (by omega)]; simp
  unfold atI; rw [e]; exact h
/-! ### what may be subscripted -/
/-- what stands as an index of a plain subscript -/
def PlainIx (b : Expr) : Prop := ∀ o i, subscripted b false o i = operate [o, i] (getItem o i)
/-- a subscript by values -/
def IxR (X : Cx) (r : R2) : Prop :=
  ∀ (value slice : Expr) (pins : List (Addr × Obj)) (s : Shared) (σ : St) (H : Hp) (x y : V) (v u : Value) (Q : VK), Inv X pins σ H s → RelV x v → RelV y u → r x y H Q →
    subscripted slice false v u = operate [v, u] (getItem v u) → wpAny (model X.prog X.w) X.A (subscriptTail value slice v u) (EP X pins σ Q) X.xe s
/-- a call of a builtin's method by values: the receiver, the arguments -/
def MtR (X : Cx) (id : String) (r : V → List V → Hp → VK → Prop) : Prop :=
  ∀ (pins : List (Addr × Obj)) (s : Shared) (σ : St) (H : Hp) (x : V) (xs : List V) (v : Value) (us : List Value) (Q : VK), Inv X pins σ H s → RelV x v → Vals xs us → r x xs H Q →
    wpAny (model X.prog X.w) X.A (call (.builtin id) (v :: us)) (EP X pins σ Q) X.xe s
section
variable {X : Cx} {a b : Expr} {ta tb : TE} {pos : Pos}
/-- a[b] -/
theorem pe_ix {r : R2} (hr : IxR X r) (ha : PE X a ta) (hb : PE X b tb) (hs : PlainIx b) : PE X (.Subscript a b pos) (tOp r ta tb) := by
  intro pins s σ H Q I h
  exact Subscript_ (binT ha hb I h fun v u s2 x y H2 I2 rx ry q => hr a b pins s2 σ H2 x y v u Q I2 rx ry q (hs _ _))

def rIxL (K : PySem.W.Frag) : R2 := fun x y H Q => ∃ p xs i v, x = .ref p ∧ y = .int i ∧ SqL K H p xs ∧ atI xs i = some v ∧ Q v H
def rIxT (K : PySem.W.Frag) : R2 := fun x y H Q => ∃ p xs i v, x = .ref p ∧ y = .int i ∧ SqT K H p xs ∧ atI xs i = some v ∧ Q v H
theorem ix_list : IxR X (rIxL X.K) := by
  intro value slice pins s σ H x y v u Q I rx ry h hs
  obtain ⟨p, xs, i, z, rfl, rfl, hq, he, q⟩ := h
  cases rx
  obtain ⟨t, rfl⟩ := ry
  obtain ⟨its, r, pl, hz⟩ := I.list hq
  obtain ⟨j, h1, h2, h3, h4, h5⟩ := atI_get he
  obtain ⟨w, ew, rw'⟩ := r.get h2
  have hl := r.length
  have hn := line63
  have fin : EP X pins σ Q w s := ⟨z, H, I, rw', q⟩
  by_cases h0 : 0 ≤ i
  · have hj : i.toNat = j := by
      rw [seqIndex_of h0 h5] at h1
      exact Option.some.inj h1
    exact item_listR pl.isList h0 (by omega) (by rw [hj]; simpa using ew) fin hs
  · have hj : (i + (its.toArray.size : Int)).toNat = j := by
      rw [seqIndex_neg (by omega) h4] at h1
      rw [List.size_toArray, ← hl]
      exact Option.some.inj h1
    exact subscriptTail_builtinR (x := w) pl.isList.typeIs slot_list_getitem.lookup
      (wpAny_getItem_list_neg (Q := fun r s' => r = w ∧ EP X pins σ Q r s') pl.isList (by omega) (by rw [List.size_toArray] <;> omega) (by omega) (by rw [hj]; simpa using ew) ⟨rfl, fin⟩) hs
theorem ix_tup : IxR X (rIxT X.K) := by
  intro value slice pins s σ H x y v u Q I rx ry h hs
  obtain ⟨p, xs, i, z, rfl, rfl, hq, he, q⟩ := h
  cases rx
  obtain ⟨t, rfl⟩ := ry
  obtain ⟨its, r, pl, hz⟩ := I.tuple hq
  obtain ⟨j, h1, h2, h3, h4, h5⟩ := atI_get he
  obtain ⟨w, ew, rw'⟩ := r.get h2
  have hl := r.length
  have hn := line63
  have fin : EP X pins σ Q w s := ⟨z, H, I, rw', q⟩
  exact subscriptTail_builtinR (x := w) pl.typeIs slot_tuple_getitem.lookup
    (getItem_tuple (j := j) (Q := fun r s' => r = w ∧ EP X pins σ Q r s') pl (by omega) (by omega) (by rw [List.size_toArray, ← hl]; exact h1) (by simpa using ew) ⟨rfl, fin⟩) hs
/-! ### xs[i] = v, any sign -/
/-- the list's object behind a store -/
theorem mapSeq_set (its : List Value) (n j : Nat) (u : Value) : Obj.mapSeq (·.setIfInBounds j u) { cls := .type "list", data := .seq its.toArray n } = { cls := .type "list", data := .seq (its.set j u).toArray n } := by
  simp [Obj.mapSeq]
theorem Inv.lst {pins : List (Addr × Obj)} {σ : St} {H : Hp} {s : Shared} {p : Addr} {xs : List V} (I : Inv X pins σ H s) (h : H p = some (.lst xs)) :
    ∃ (its : List Value) (n : Nat), Vals xs its ∧ s.heap.get? p = some { cls := .type "list", data := .seq its.toArray n } ∧ xs.length ≤ sizeLine := by
  obtain ⟨z, its, n, r, e⟩ := I.hok p _ h
  exact ⟨its, n, r, e, z⟩
/-- the list at p is written by an update of its object -/
theorem Inv.lstUpd {pins : List (Addr × Obj)} {σ : St} {H : Hp} {s : Shared} {p : Addr} {xs ys : List V} {its its' : List Value} {n n' : Nat} {f : Obj → Obj} (I : Inv X pins σ H s) (h : H p = some (.lst xs))
    (ho : s.heap.get? p = some { cls := .type "list", data := .seq its.toArray n }) (hf : f { cls := .type "list", data := .seq its.toArray n } = { cls := .type "list", data := .seq its'.toArray n' }) (r : Vals ys its') (hz : ys.length ≤ sizeLine) (t : Nat) :
    Inv X pins σ (upd H p (.lst ys)) { s with heap := s.heap.update p f, toks := t } := by
  have e : (s.heap.update p f).get? p = some { cls := .type "list", data := .seq its'.toArray n' } := by
    rw [Heap.get?_update_self f ho (by rw [hf] <;> rfl), hf]
  refine I.write (x := p) (e := p) (by rw [h]; trivial) (.inl rfl) (fun b u hb q => (Heap.get?_update_other _ _ (Ne.symm hb)).trans q) ⟨_, e⟩ ?_
  exact ⟨hz, its', n', r, e⟩
def rSetL : V → V → V → Hp → (Hp → Prop) → Prop := fun o i v H Q => ∃ p xs k j, o = .ref p ∧ i = .int k ∧ H p = some (.lst xs) ∧ ixN xs.length k = some j ∧ Q (upd H p (.lst (xs.set j v)))
theorem set_list : PSet X rSetL := by
  intro pins s σ H o i v ov iv u Q I ro ri rv h
  obtain ⟨p, xs, k, j, rfl, rfl, hp, hj, q⟩ := h
  cases ro
  obtain ⟨t, rfl⟩ := ri
  obtain ⟨its, n, r, ho, hz⟩ := I.lst hp
  obtain ⟨h1, h2, h3, h4⟩ := ixN_seq hj
  have hl := r.length
  have hn := line63
  have I' : Inv X pins σ (upd H p (.lst (xs.set j v))) { s with heap := s.heap.update p (Obj.mapSeq (·.setIfInBounds j u)) } :=
    I.lstUpd hp ho (mapSeq_set its n j u) (r.set rv j) (by rw [List.length_set]; exact hz) s.toks
  by_cases h0 : 0 ≤ k
  · have hk : k.toNat = j := by
      rw [seqIndex_of h0 h4] at h1
      exact Option.some.inj h1
    exact PySem.W.ki_setAt ho h0 (by omega) (by rw [List.size_toArray, ← hl]; exact h4) (by rw [hk]; exact ⟨_, I', q⟩)
  · have hk : (k + (its.toArray.size : Int)).toNat = j := by
      rw [seqIndex_neg (by omega) h3] at h1
      rw [List.size_toArray, ← hl]
      exact Option.some.inj h1
    exact PySem.W.ki_setBack ho (by omega) (by rw [List.size_toArray, ← hl]; exact h3) (by omega) (by rw [hk]; exact ⟨_, I', q⟩)

/-! ### slices -/
theorem slice_bounds (lo hi : Option Int) (n : Nat) : (sliceBounds lo hi none n).1 = ((HT.sIx n 0 lo : Nat) : Int) ∧ (sliceBounds lo hi none n).2.1 = ((HT.sIx n n hi : Nat) : Int) ∧ (sliceBounds lo hi none n).2.2 = 1 := by
  refine ⟨?_, ?_, rfl⟩
  · cases lo with
    | none => simp [sliceBounds, HT.sIx]
    | some i =>
      simp only [sliceBounds, HT.sIx, Option.getD_none, show (1 : Int) > 0 by decide, if_true]
      by_cases h : i < 0
      · simp only [h, if_true] <;> omega
      · simp only [h, if_false] <;> omega
  · cases hi with
    | none => simp [sliceBounds, HT.sIx]
    | some i =>
      simp only [sliceBounds, HT.sIx, Option.getD_none, show (1 : Int) > 0 by decide, if_true]
      by_cases h : i < 0
      · simp only [h, if_true] <;> omega
      · simp only [h, if_false] <;> omega
theorem slicePick_cut (its : List Value) (lo hi : Option Int) : slicePick its.toArray lo hi none = ((its.drop (HT.sIx its.length 0 lo)).take (HT.sIx its.length its.length hi - HT.sIx its.length 0 lo)).toArray := by
  obtain ⟨h1, h2, h3⟩ := slice_bounds lo hi its.toArray.size
  unfold slicePick
  rw [h1, h2, h3]
  simp only [sliceRange_one, pick_run, List.size_toArray] <;> rfl
/-- xs[lo:hi] of a list: a new list -/
def rSlL (K : PySem.W.Frag) : V → Option Int → Option Int → Hp → VK → Prop := fun x lo hi H Q => ∃ a xs, x = .ref a ∧ SqL K H a xs ∧ ∀ p, H p = none → Q (.ref p) (upd H p (.lst (cutV xs lo hi)))
theorem sl_list : SlR X (rSlL X.K) := by
  intro pins s σ H x v vl vu lo hi sl Q I rx hs pl pu h
  obtain ⟨a, xs, rfl, hx, q⟩ := h
  cases rx
  obtain ⟨its, r, ht, hz⟩ := I.list hx
  have hlen := r.length
  refine ⟨"list", _, slot_list_getitem.lookup, ht.isList.typeIs, ?_⟩
  refine wpAny_getItem_list_slice ht.isList hs pl pu .none (by simp) ?_ (by rw [List.size_toArray] <;> omega)
  rw [slicePick_cut, ← hlen]
  refine ⟨.ref s.heap.objs.size, _, I.laid (t' := s.toks) (o := .lst (cutV xs lo hi)) (fun b ob q => Heap.get?_push_of_some _ q) (Nat.le_refl _) ?_, rfl, q _ (I.hok.fresh (Nat.le_refl _))⟩
  exact ⟨Nat.le_trans (cutV_length xs lo hi) hz, _, 0, (r.drop (HT.sIx xs.length 0 lo)).take (HT.sIx xs.length xs.length hi - HT.sIx xs.length 0 lo), Heap.get?_push_size _ rfl⟩

/-! ### in, not in: flat items -/
def flatV : V → Bool
  | .non => true
  | .bl _ => true
  | .int _ => true
  | .str _ => true
  | _ => false
/-- == of flat values -/
def eqV : V → V → Bool
  | .non, .non => true
  | .bl a, .bl b => a == b
  | .bl a, .int b => (if a then 1 else 0) == b
  | .int a, .bl b => a == (if b then 1 else 0)
  | .int a, .int b => a == b
  | .str a, .str b => a == b
  | _, _ => false
theorem eqAt_V {A : Around} {s : Shared} {y x : V} {u v : Value} (ry : RelV y u) (rx : RelV x v) (fy : flatV y = true) (fx : flatV x = true) : SeqAt.EqAt A s u v (eqV y x) := by
  cases y with
  | non =>
    cases ry
    cases x with
    | non => cases rx; exact SeqAt.EqAt.same _
    | bl b => cases rx; exact SeqAt.EqAt.none_bool b
    | int b => obtain ⟨t, rfl⟩ := rx; exact SeqAt.EqAt.none_int b t
    | str b => obtain ⟨t, rfl⟩ := rx; exact SeqAt.EqAt.none_str b t
    | _ => exact absurd (show false = true from fx) Bool.false_ne_true
  | bl a =>
    cases ry
    cases x with
    | non => cases rx; exact SeqAt.EqAt.bool_none a
    | bl b => cases rx; exact SeqAt.EqAt.bool_bool a b
    | int b => obtain ⟨t, rfl⟩ := rx; exact SeqAt.EqAt.bool_int a b t
    | str b => obtain ⟨t, rfl⟩ := rx; exact SeqAt.EqAt.bool_str a b t
    | _ => exact absurd (show false = true from fx) Bool.false_ne_true
  | int a =>
    obtain ⟨t', rfl⟩ := ry
    cases x with
    | non => cases rx; exact SeqAt.EqAt.int_none a t'
    | bl b => cases rx; exact SeqAt.EqAt.int_bool a t' b
    | int b => obtain ⟨t, rfl⟩ := rx; exact SeqAt.EqAt.int_int a t' b t
    | str b => obtain ⟨t, rfl⟩ := rx; exact SeqAt.EqAt.int_str a t' b t
    | _ => exact absurd (show false = true from fx) Bool.false_ne_true
  | str a =>
    obtain ⟨t', rfl⟩ := ry
    cases x with
    | non => cases rx; exact SeqAt.EqAt.str_none a t'
    | bl b => cases rx; exact SeqAt.EqAt.str_bool a t' b
    | int b => obtain ⟨t, rfl⟩ := rx; exact SeqAt.EqAt.str_int a t' b t
    | str b => obtain ⟨t, rfl⟩ := rx; exact SeqAt.EqAt.str_str a t' b t
    | _ => exact absurd (show false = true from fx) Bool.false_ne_true
  | _ => exact absurd (show false = true from fy) Bool.false_ne_true
/-- the items' answers, read off the values (a value's own answer does not lean on its token) -/
def eqU (x : V) (u : Value) : Bool := match u with
  | .none => eqV .non x
  | .bool b => eqV (.bl b) x
  | .int i _ => eqV (.int i) x
  | .str z _ => eqV (.str z) x
  | _ => false
theorem eqU_of {x y : V} {u : Value} (r : RelV y u) (f : flatV y = true) : eqU x u = eqV y x := by
  cases y with
  | non => cases r; rfl
  | bl b => cases r; rfl
  | int i => obtain ⟨t, rfl⟩ := r; rfl
  | str z => obtain ⟨t, rfl⟩ := r; rfl
  | _ => exact absurd (show false = true from f) Bool.false_ne_true
theorem any_eqU {x : V} : ∀ {xs : List V} {us : List Value}, Vals xs us → xs.all flatV = true → us.any (eqU x) = xs.any fun y => eqV y x
  | _, _, .nil, _ => rfl
  | y :: xs, u :: us, .cons r t, f => by
    rw [List.all_cons, Bool.and_eq_true] at f
    rw [List.any_cons, List.any_cons, eqU_of r f.1, any_eqU t f.2]
theorem mem_eqAt {A : Around} {s : Shared} {x : V} {v : Value} (rx : RelV x v) (fx : flatV x = true) : ∀ {xs : List V} {us : List Value}, Vals xs us → xs.all flatV = true → ∀ u ∈ us, SeqAt.EqAt A s u v (eqU x u)
  | _, _, .nil, _ => fun u hu => by cases hu
  | y :: xs, u :: us, .cons r t, f => fun u' hu => by
    rw [List.all_cons, Bool.and_eq_true] at f
    rcases List.mem_cons.mp hu with rfl | hu
    · rw [eqU_of r f.1]; exact eqAt_V r rx f.1 fx
    · exact mem_eqAt rx fx t f.2 u' hu
def inV (x : V) (xs : List V) : Bool := xs.any fun y => eqV y x
/-- x in a list or tuple of flat items -/
def rIn (K : PySem.W.Frag) (neg : Bool) : R2 := fun x y H Q => ∃ p xs, y = .ref p ∧ (SqL K H p xs ∨ SqT K H p xs) ∧ flatV x = true ∧ xs.all flatV = true ∧ Q (.bl (if neg then !inV x xs else inV x xs)) H
theorem op_in_seq : OpR X (compareOp .In) (rIn X.K false) := by
  intro pins s σ H x y v u Q I rx ry h
  obtain ⟨p, xs, rfl, hq, fx, fs, q⟩ := h
  cases ry
  rcases hq with hq | hq
  · obtain ⟨its, r, pl, hz⟩ := I.list hq
    refine SeqAt.in_listAt (eqU x) pl.isList (fun w hw => mem_eqAt rx fx r fs w (by simpa using hw)) ⟨.bl _, H, I, rfl, ?_⟩
    rw [show its.toArray.any (eqU x) = its.any (eqU x) by simp, any_eqU r fs]
    exact q
  · obtain ⟨its, r, pl, hz⟩ := I.tuple hq
    refine SeqAt.in_tupleAt (eqU x) pl (fun w hw => mem_eqAt rx fx r fs w (by simpa using hw)) ⟨.bl _, H, I, rfl, ?_⟩
    rw [show its.toArray.any (eqU x) = its.any (eqU x) by simp, any_eqU r fs]
    exact q
theorem op_notIn_seq : OpR X (compareOp .NotIn) (rIn X.K true) := by
  intro pins s σ H x y v u Q I rx ry h
  obtain ⟨p, xs, rfl, hq, fx, fs, q⟩ := h
  cases ry
  rcases hq with hq | hq
  · obtain ⟨its, r, pl, hz⟩ := I.list hq
    refine SeqAt.notIn_listAt (eqU x) pl.isList (fun w hw => mem_eqAt rx fx r fs w (by simpa using hw)) ⟨.bl _, H, I, rfl, ?_⟩
    rw [show its.toArray.any (eqU x) = its.any (eqU x) by simp, any_eqU r fs]
    exact q
  · obtain ⟨its, r, pl, hz⟩ := I.tuple hq
    refine SeqAt.notIn_tupleAt (eqU x) pl (fun w hw => mem_eqAt rx fx r fs w (by simpa using hw)) ⟨.bl _, H, I, rfl, ?_⟩
    rw [show its.toArray.any (eqU x) = its.any (eqU x) by simp, any_eqU r fs]
    exact q
/-! ### len, list(x), tuple(x) of any list or tuple that is read -/
theorem call_len_seq : CallR X (.builtin "len") (fun xs H Q => ∃ p ys, xs = [.ref p] ∧ (SqL X.K H p ys ∨ SqT X.K H p ys) ∧ Q (.int ys.length) H) := by
  intro pins s σ H xs us Q I r h
  obtain ⟨p, ys, rfl, hq, q⟩ := h
  obtain ⟨u, rfl, rx⟩ := vals1 r
  cases rx
  have hn := line63
  rcases hq with hq | hq
  · obtain ⟨its, r', pl, hz⟩ := I.list hq
    have hlen := r'.length
    exact Calls.call_len_list pl.isList (by simp only [List.size_toArray] <;> omega) ⟨.int ys.length, H, I.tok _, ⟨s.toks + 1, by rw [List.size_toArray, hlen]⟩, q⟩
  · obtain ⟨its, r', pl, hz⟩ := I.tuple hq
    have hlen := r'.length
    exact len_tuple pl (by simp only [List.size_toArray] <;> omega) ⟨.int ys.length, H, I.tok _, ⟨s.toks + 1, by rw [List.size_toArray, hlen]⟩, q⟩
theorem call_list_of : CallR X (.type "list") (fun xs H Q => ∃ p ys, xs = [.ref p] ∧ (SqL X.K H p ys ∨ SqT X.K H p ys) ∧ ∀ l, H l = none → Q (.ref l) (upd H l (.lst ys))) := by
  intro pins s σ H xs us Q I r h
  obtain ⟨p, ys, rfl, hq, q⟩ := h
  obtain ⟨u, rfl, rx⟩ := vals1 r
  cases rx
  have fin : ∀ (its : List Value), Vals ys its → ys.length ≤ sizeLine → ∀ (h' : Heap) (c' : Nat), (∀ b o', s.heap.get? b = some o' → h'.get? b = some o') →
      h'.get? s.heap.objs.size = some { cls := .type "list", dict := none, data := .seq its.toArray c', slots := #[] } → EP X pins σ Q (.ref s.heap.objs.size) { s with heap := h' } := fun its r' hz h' c' kp e =>
    ⟨.ref s.heap.objs.size, _, I.laid (t' := s.toks) kp (Nat.le_refl _) (show ObjOk X.prog X.w _ h' _ (.lst ys) from ⟨hz, its, c', r', e⟩), rfl, q _ (I.hok.fresh (Nat.le_refl _))⟩
  rcases hq with hq | hq
  · obtain ⟨its, r', pl, hz⟩ := I.list hq
    have hlen := r'.length
    obtain ⟨o, ho, hc, n, hd⟩ := pl.isList
    exact call_list_seq p (.inl rfl) ho hc hd (fun h' c' kp e => fin its r' hz h' c' kp e) (by simp only [List.size_toArray] <;> omega)
  · obtain ⟨its, r', pl, hz⟩ := I.tuple hq
    have hlen := r'.length
    obtain ⟨o, ho, hc, n, hd⟩ := pl
    exact call_list_seq p (.inr rfl) ho hc hd (fun h' c' kp e => fin its r' hz h' c' kp e) (by simp only [List.size_toArray] <;> omega)
theorem call_tuple_of : CallR X (.type "tuple") (fun xs H Q => ∃ p ys, xs = [.ref p] ∧ ((SqL X.K H p ys ∧ ∀ l, H l = none → Q (.ref l) (upd H l (.tup ys))) ∨ (SqT X.K H p ys ∧ Q (.ref p) H))) := by
  intro pins s σ H xs us Q I r h
  obtain ⟨p, ys, rfl, h⟩ := h
  obtain ⟨u, rfl, rx⟩ := vals1 r
  cases rx
  rcases h with ⟨hq, q⟩ | ⟨hq, q⟩
  · obtain ⟨its, r', pl, hz⟩ := I.list hq
    have hlen := r'.length
    refine call_tuple_list pl.isList (fun h' kp => ?_) (by simp only [List.size_toArray] <;> omega)
    have I1 : Inv X pins σ H { s with heap := h' } := I.kept (t' := s.toks) kp
    have I2 : Inv X pins σ (upd H h'.objs.size (.tup ys)) { s with heap := h'.push { cls := .type "tuple", data := .seq its.toArray } } :=
      I1.laid (t' := s.toks) (fun b o e => Heap.get?_push_of_some _ e) (Nat.le_refl _) (show ObjOk X.prog X.w _ _ _ (.tup ys) from ⟨hz, its, r', IsTup.new _ _⟩)
    exact ⟨.ref h'.objs.size, _, I2, rfl, q _ (I1.hok.fresh (Nat.le_refl _))⟩
  · obtain ⟨its, r', pl, hz⟩ := I.tuple hq
    exact call_tuple_same pl ⟨.ref p, H, I, rfl, q⟩

/-! ### the call of a builtin's method: o.m(..) -/
/-- the value is of that builtin type -/
def tyV (K : PySem.W.Frag) (T : String) (x : V) (H : Hp) : Prop := match x with
  | .str _ => T = "str"
  | .int _ => T = "int"
  | .ref p => (T = "list" ∧ ∃ xs, SqL K H p xs) ∨ (T = "tuple" ∧ ∃ o, K.lookup p = some o ∧ o.cls = .type "tuple" ∧ o.dict = none) ∨
      (T = "dict" ∧ ((∃ kvs, H p = some (.dK kvs)) ∨ ∃ kvs, H p = some (.dT kvs))) ∨ (T = "set" ∧ ∃ S n, H p = some (.set S n))
  | _ => False
theorem tyV_is {pins : List (Addr × Obj)} {σ : St} {H : Hp} {s : Shared} {T : String} {x : V} {v : Value} (I : Inv X pins σ H s) (r : RelV x v) (ty : tyV X.K T x H) :
    s.TypeIs v T ∧ ∀ a, v = .ref a → ∃ ob, s.heap.get? a = some ob ∧ ob.dict = none := by
  cases x with
  | str z =>
    obtain ⟨t, rfl⟩ := r
    cases (show T = "str" from ty)
    exact ⟨typeIs_str s z t, fun _ e => nomatch e⟩
  | int i =>
    obtain ⟨t, rfl⟩ := r
    cases (show T = "int" from ty)
    exact ⟨typeIs_int s i t, fun _ e => nomatch e⟩
  | ref p =>
    cases r
    rcases ty with ⟨rfl, xs, hq⟩ | ⟨rfl, o, hk, hc, hd⟩ | ⟨rfl, hk⟩ | ⟨rfl, S, n, hk⟩
    · obtain ⟨its, _, pl, _⟩ := I.list hq
      refine ⟨pl.isList.typeIs, fun a e => ?_⟩
      cases e
      obtain ⟨o, n, e, c, hd, _⟩ := pl
      exact ⟨o, e, hd⟩
    · refine ⟨⟨o, I.kIn p o hk, hc⟩, fun a e => ?_⟩
      cases e
      exact ⟨o, I.kIn _ o hk, hd⟩
    · have z : ∃ o, s.heap.get? p = some o ∧ o.ExactDict := by
        rcases hk with ⟨kvs, hk⟩ | ⟨kvs, hk⟩
        · obtain ⟨_, _, _, _, o, _, _, e, ex, _⟩ := I.hok p _ hk
          exact ⟨o, e, ex⟩
        · obtain ⟨_, _, _, _, o, _, _, e, ex, _⟩ := I.hok p _ hk
          exact ⟨o, e, ex⟩
      obtain ⟨o, e, ex⟩ := z
      refine ⟨⟨o, e, ex.1⟩, fun a e2 => ?_⟩
      cases e2
      exact ⟨o, e, ex.2.1⟩
    · obtain ⟨o, _, _, _, e, ex, _⟩ := I.hok p _ hk
      refine ⟨⟨o, e, ex.1⟩, fun a e2 => ?_⟩
      cases e2
      exact ⟨o, e, ex.2.1⟩
  | _ => exact False.elim ty
def tBM (K : PySem.W.Frag) (T : String) (r : V → List V → Hp → VK → Prop) (to : TE) (t : TA) : TE := fun σ H Q => to σ H fun x H1 => tyV K T x H1 ∧ t σ H1 fun xs H2 => r x xs H2 Q
variable {o e : Expr} {es : List Expr} {to : TE} {t : TA} {name : Str} {apos cpos : Pos} {T id : String} {r : V → List V → Hp → VK → Prop}
theorem pe_bm (pa : PlainAttrs T) (slot : Slot T name id) (hty : typeOf (.builtin id) = pure (.type "method_descriptor")) (hm : MtR X id r) (ho : PE X o to) (ha : PA X (e :: es) t)
    (hbase : attributeBase o name X.env (eval o X.env) = eval o X.env := by rfl)
    (hfew : ((backTo cpos (starEach (e :: es) X.env)).all (fun x => !x.1) && (backToKw cpos (keywordEach [] X.env)).all (fun x => x.1.isSome)
      && decide ((e :: es).length + ([] : List Keyword).length + (if ([] : List Keyword).isEmpty then 0 else 1) < 30)) = true := by rfl)
    (hline : (apos.endLine == cpos.line) = true := by rfl) (hs : starEach (e :: es) X.env = (false, eval e X.env) :: starEach es X.env := by rfl) (hplain : (backTo cpos (starEach es X.env)).any (·.1) = false := by rfl) :
    PE X (.Call (.Attribute o name apos) (e :: es) [] cpos) (tBM X.K T r to t) := by
  intro pins s σ H Q I h
  refine wpAny_Call_method_late hbase hfew hline rfl (thn (ho pins s σ H _ I h) fun v s1 ⟨x, H1, I1, r1, ty, q1⟩ => ?_)
  obtain ⟨h1, h2⟩ := tyV_is I1 r1 ty
  refine ⟨T, id, pa, slot, hty, h1, h2, ?_⟩
  have hA := ha cpos pins s1 σ H1 _ I1 q1
  rw [hs] at hA ⊢
  refine Calls.callWith_builtin (by show (false || (backTo cpos (starEach es X.env)).any (·.1)) = false; rw [hplain] <;> rfl) (Calls.evalArgs_plain ?_)
  exact thn hA fun us s2 ⟨vs, H2, I2, r2, q2⟩ => hm pins s2 σ H2 x vs v us Q I2 r1 r2 q2
/- xs.append(e), list.index on a module's tuple .. are MtR facts of 06m -/
end
end L2

namespace L2
open PySem PySem.Spec PyProof.Rows

def MtM (X : Cx) (id : String) (r : V → List V → Hp → VK → Prop) : Prop :=
  ∀ (pins : List (Addr × Obj)) (s : Shared) (σ : St) (H : Hp) (x : V) (xs : List V) (v : Value) (us : List Value) (Q : VK), Inv X pins σ H s → RelV x v → Vals xs us → r x xs H Q →
    wpAny (model X.prog X.w) X.A (call (.builtin id) (v :: us)) (EP X pins σ Q) X.xe s

/-! ### lists of values -/
theorem Vals.one : ∀ {x : V} {us : List Value}, Vals [x] us → ∃ u, us = [u] ∧ RelV x u
  | _, _, .cons r .nil => ⟨_, rfl, r⟩
theorem Vals.two : ∀ {x y : V} {us : List Value}, Vals [x, y] us → ∃ u v, us = [u, v] ∧ RelV x u ∧ RelV y v
  | _, _, _, .cons r (.cons q .nil) => ⟨_, _, rfl, r, q⟩
section
variable {X : Cx} {pins : List (Addr × Obj)} {σ : St} {H : Hp} {s : Shared} {l b : Addr} {xs ys zs : List V}

/-! ### the two steps: a tracked list is rewritten, a new list is laid -/
theorem Inv.lset {its its' : List Value} {n : Nat} {f : Array Value → Array Value} {t' : Nat} (I : Inv X pins σ H s) (hH : H l = some (.lst xs))
    (e : s.heap.get? l = some { cls := .type "list", data := .seq its.toArray n }) (hf : f its.toArray = its'.toArray) (hv : Vals ys its') (hz : ys.length ≤ sizeLine) :
    Inv X pins σ (upd H l (.lst ys)) { s with heap := s.heap.update l (Obj.mapSeq f), toks := t' } := by
  have q := PySem.IsL.update e f
  rw [hf] at q
  refine I.write (x := l) (e := l) (by rw [hH]; exact trivial) (.inl rfl) (fun b' u hb hu => (Heap.get?_update_other s.heap (Obj.mapSeq f) (Ne.symm hb)).trans hu) ⟨_, q⟩ ?_
  exact ⟨hz, its', _, hv, q⟩
theorem Inv.lnew {its : List Value} {t' : Nat} (I : Inv X pins σ H s) (hv : Vals ys its) (hz : ys.length ≤ sizeLine) :
    Inv X pins σ (upd H s.heap.objs.size (.lst ys)) { s with heap := s.heap.push { cls := .type "list", data := .seq its.toArray }, toks := t' } :=
  I.laid (fun _ _ q => Heap.get?_push_of_some _ q) (Nat.le_refl _) ⟨hz, its, 0, hv, Heap.get?_push_size _ rfl⟩
theorem Inv.fresh (I : Inv X pins σ H s) : H s.heap.objs.size = none := I.hok.fresh (Nat.le_refl _)
theorem Inv.lstM (I : Inv X pins σ H s) (hH : H l = some (.lst xs)) : xs.length ≤ sizeLine ∧ ∃ (its : List Value) (n : Nat), Vals xs its ∧ xs.length = its.length ∧ s.heap.get? l = some { cls := .type "list", data := .seq its.toArray n } := by
  obtain ⟨z, its, n, r, e⟩ := I.hok l _ hH
  exact ⟨z, its, n, r, r.length, e⟩

theorem notLongL {n : Nat} (h : n ≤ sizeLine) : Builtin.List.listTooLong n = false := by
  unfold Builtin.List.listTooLong
  exact decide_eq_false (by omega)
end

section
variable {X : Cx}

/-! ### methods -/
def rAppend : V → List V → Hp → VK → Prop := fun x vs H Q => ∃ l xs y, x = .ref l ∧ vs = [y] ∧ H l = some (.lst xs) ∧ xs.length < sizeLine ∧ Q .non (upd H l (.lst (xs ++ [y])))
theorem mt_append : MtM X "list.append" rAppend := by
  intro pins s σ H x vs v us Q I rx rv h
  obtain ⟨l, xs, y, rfl, rfl, hH, hz, q⟩ := h
  cases rx
  obtain ⟨u, rfl, ru⟩ := rv.one
  obtain ⟨z, its, n, r, hl, e⟩ := I.lstM hH
  refine call_meets F.slot_list_append ⟨_, e, rfl⟩ F.entry_list_append (F.args_list_append_2 _ _) (PySem.list_append l its.toArray n u (by rw [List.size_toArray]; omega)) ⟨e, ?_⟩
  refine ⟨.non, _, I.lset (its' := its ++ [u]) hH e (by simp) (r.append (.cons ru .nil)) ?_, rfl, q⟩
  rw [List.length_append, List.length_singleton]
  omega

def rExtend : V → List V → Hp → VK → Prop := fun x vs H Q => ∃ l b xs zs, x = .ref l ∧ vs = [.ref b] ∧ H l = some (.lst xs) ∧ H b = some (.lst zs) ∧ xs.length + zs.length ≤ sizeLine ∧ Q .non (upd H l (.lst (xs ++ zs)))
theorem mt_extend : MtM X "list.extend" rExtend := by
  intro pins s σ H x vs v us Q I rx rv h
  obtain ⟨l, b, xs, zs, rfl, rfl, hH, hB, hz, q⟩ := h
  cases rx
  obtain ⟨u, rfl, ru⟩ := rv.one
  cases ru
  obtain ⟨z, its, n, r, hl, e⟩ := I.lstM hH
  obtain ⟨z2, its2, n2, r2, hl2, e2⟩ := I.lstM hB
  have hsz : its.toArray.size + its2.toArray.size ≤ sizeLine := by rw [List.size_toArray, List.size_toArray]; omega
  have hlong : ¬ (!its.toArray.isEmpty && Builtin.List.listTooLong (its.toArray.size + its2.toArray.size)) = true := by
    rw [notLongL hsz, Bool.and_false]
    exact Bool.false_ne_true
  refine call_meets F.slot_list_extend ⟨_, e, rfl⟩ F.entry_list_extend (F.args_list_extend_2 _ _)
    (AutoSeq1.list_extend_list_list_0 l its.toArray n b its2.toArray n2 hlong (by rw [List.size_toArray]; omega) (by omega)) ⟨e, e2, ?_⟩
  refine ⟨.non, _, I.lset (its' := its ++ its2) hH e (by simp) (r.append r2) ?_, rfl, q⟩
  rw [List.length_append]
  omega

/-! ### list + list, list += list, list * int -/
def rCat : R2 := fun x y H Q => ∃ l b xs zs, x = .ref l ∧ y = .ref b ∧ H l = some (.lst xs) ∧ H b = some (.lst zs) ∧ xs.length + zs.length ≤ sizeLine ∧ ∀ p, H p = none → Q (.ref p) (upd H p (.lst (xs ++ zs)))
theorem op_cat : OpR X (binaryOp .Add) rCat := by
  intro pins s σ H x y v u Q I rx ry h
  obtain ⟨l, b, xs, zs, rfl, rfl, hH, hB, hz, q⟩ := h
  cases rx
  cases ry
  obtain ⟨z, its, n, r, hl, e⟩ := I.lstM hH
  obtain ⟨z2, its2, n2, r2, hl2, e2⟩ := I.lstM hB
  refine PySem.P.add_list e e2 ?_ (by rw [List.size_toArray, List.size_toArray]; omega)
  have ea : its.toArray ++ its2.toArray = (its ++ its2).toArray := by simp
  rw [ea]
  exact ⟨.ref _, _, I.lnew (t' := s.toks) (r.append r2) (by rw [List.length_append]; omega), rfl, q _ I.fresh⟩
/-! ### del xs[i] -/
end

/-! ### xs[a:b] = ys -/

end L2

namespace Att
open PySem PySem.W PySem.Calls PyProof.Rows

/-! ### the script -/
theorem ints_of_wellAll {P : Params} {h : Heap} : ∀ (ns : List Int) (vs : List Value), WellAll P h vs (ns.map WData.int) → IntsAre vs ns := by
  intro ns
  induction ns with
  | nil =>
    intro vs w
    rw [List.map_nil] at w
    cases w
    exact .nil
  | cons n ns ih =>
    intro vs w
    rw [List.map_cons] at w
    cases w with
    | cons a b =>
      cases a
      exact .cons _ _ (ih _ b)

theorem script_of {l : OpenLaw} {n : Nat} (hn : l.most = some n) {P : Params} {h : Heap} {args : List WData} {vals : List Value}
    (hpre : l.row.toRowW.claim.pre args = true) (hwl : WellAll P h vals args) :
    ∃ a vs ns, vals = [Value.ref a] ∧ args = [WData.list (ns.map WData.int)] ∧ h.get? a = some { cls := .type "list", data := .seq vs.toArray } ∧ IntsAre vs ns ∧ ns.length ≤ n := by
  have hsh : WShape.hasAll [] args [.list .int] = true := (pre_splitW hpre).1
  have hc : l.pre.holds [] { args := args } = true := (pre_splitW hpre).2
  obtain ⟨d, r, rfl, h1, h2⟩ := hasAllW_cons hsh
  obtain rfl := hasAllW_nil h2
  obtain ⟨xs, rfl, h3⟩ := hasW_list h1
  obtain ⟨ns, rfl⟩ := items_int h3
  have hlen : ns.length ≤ n := by
    unfold OpenLaw.pre at hc
    have h4 : (WTm.not (.lt (.lit (.int (n : Int))) (.len (.arg 0)))).holds [] { args := [.list (ns.map .int)] } = true := by
      have h4 := (holds_andW hc).1
      rw [hn] at h4
      exact h4
    have h5 := condW_of h4 (w_not (w_lt w_lit (w_len_list (w_arg rfl))))
    rw [List.length_map] at h5
    refine Nat.le_of_not_lt fun q => ?_
    have q' : (n : Int) < ((ns.length : Nat) : Int) := by omega
    first
      | (rw [decide_eq_true q'] at h5; exact absurd h5 (by decide))
      | (simp at h5; omega)
  cases hwl with
  | cons w1 w2 =>
    cases w2
    cases w1 with
    | list ho hall => exact ⟨_, _, ns, rfl, rfl, ho, ints_of_wellAll ns _ hall, hlen⟩

theorem post_true (l : OpenLaw) (args : List WData) : l.row.toRowW.claim.post args (.bool true) args = true :=
  postW_of (r := l.row.toRowW) (X := (true == true))
    (show WShape.has [] (.bool true) .bool = true by first | rfl | decide | simp [WShape.has, WShape.arms, WShape.armsAll])
    (show (WTm.eq .res (.lit (.bool true))).value [] { args := args, res := some (.bool true), after := args } = some (.bool (true == true)) from w_eq_bool (w_res rfl) w_lit) rfl

/-! ### the attachment: holds_open's last premise (the goal 'hc' behind k_head) from a wpAny of the law's body -/
/-- the same from a codeAny of the CALL (for a layer whose function contracts speak of calls) -/
theorem attach_call {l : OpenLaw} {n : Nat} {q : Program} {loose : List Str} {XP : (Str → Option Value) → Heap → Prop} {YP : World → Heap → Prop} {d : DefRec}
    (hn : l.most = some n) (hdf : d.params.defaults = [])
    (call : ∀ (w : World) (s₀ s₁ : Shared) (mg mb : Str → Option Value) (fa : Addr) (o : Obj) (pm cd doc : Value) (a : Addr) (vs : List Value) (ns : List Int),
      Ground q loose [] XP w s₀ mg mb s₁.heap → YP w s₁.heap →
      s₁.heap.get? fa = some o → o.data = .func (docDef d.name d.params d.body d.scope pm cd doc) → s₁.heap.CodeRec cd d.name → mg d.name = some (.ref fa) →
      s₁.heap.get? a = some { cls := .type "list", data := .seq vs.toArray } → IntsAre vs ns → ns.length ≤ n → s₁.gens = #[] →
      codeAny (model l.prog w) callerA (.call (.ref fa) ⟨[.ref a], []⟩) (fun r s' => r = .ok (.ret (.bool true)) ∧ OldK s₁.heap s'.heap ∧ s'.os = s₁.os ∧ AllBare s'.gens) s₁) :
    WalkO q loose XP YP l.row.toRowW d [] (fun f vs => PySem.call f vs) := by
  intro w s₀ s₁ mg mb G Y fa o pm cd doc dV kV ho hd hcd hD hmg hg args vals as hpre hlay hrd hwl hlo
  obtain rfl : dV = .none := Dflts.none hD hdf
  obtain rfl : kV = .none := Dflts.noKw hD
  obtain ⟨a, vs, ns, rfl, rfl, hobj, hints, hlen⟩ := script_of hn hpre hwl
  refine enter_call (codeAny_mono (call w s₀ s₁ mg mb fa o pm cd doc a vs ns G Y ho (fd_plain hd) hcd hmg hobj hints hlen hg) fun r s' hq => ?_)
  obtain ⟨rfl, h2, h3, h4⟩ := hq
  exact ⟨.inl ⟨.bool true, .bool true, [], rfl, fun _ => rfl, .bool true, post_true l _, fun _ => ⟨List.Pairwise.nil, fun _ hm => (nomatch hm)⟩⟩, h2, h3, h4⟩

/-! ### rules over ANY heap (no ledger) from facts about the written part K: the library's own take a ledger (News) for what they write -/
end Att

namespace L2
open PySem PySem.Spec PyProof.Rows

theorem vals_ints : ∀ {vs : List Value} {ns : List Int}, IntsAre vs ns → Vals (ns.map V.int) vs
  | _, _, .nil => .nil
  | _, _, .cons n t h => .cons ⟨t, rfl⟩ (vals_ints h)

/-- nothing is tracked but the script, known to the object (or it is an object of the module) -/
def Only (H : Hp) : Prop := ∀ b, H b = none ∨ ∃ o xs, H b = some (.frz o (.lst xs))

/-- THE HEAD: the law's promise, at the heap behind the top. F, the promise of the law's def, may use that base is part of the heap (so K.In base, base.Ns mainGlobals mg stand in Mod) -/
theorem law_call {P : Program} {w : World} {K : PySem.W.Frag} {mg mb : Str → Option Value} {CX : CXT} {k : Nat} {fa a : Addr} {fd : FuncData} {x : Str} {sp : Sp} {s₁ : Shared} {vs : List Value} {ns : List Int}
    (KX : K.In s₁.heap) (hns : s₁.heap.Ns mainGlobals mg) (hb : s₁.heap.Ns builtinsNs mb) (hbb : ∀ x : Str, x ≠ "__name__" → mb x = bootBuiltins x) (hlim : s₁.heap.NoLimit) (hg : s₁.gens = #[])
    (ha : s₁.heap.get? a = some { cls := .type "list", data := .seq vs.toArray }) (hi : IntsAre vs ns) (hl : ns.length ≤ sizeLine) (hr : Room k callerA)
    (F : ∀ base : Heap, K.In base → base.Ns mainGlobals mg → FnOk P w K mg base CX k fa fd [x] sp) (hbind : ∀ (s : Shared) (u : Value), BindsTo s fd ⟨[u], []⟩ [(x, u)])
    (hsp : ∀ H : Hp, Only H → SqL K H a (ns.map V.int) → sp [.ref a] H (fun v _ => v = .bl true) fun _ _ _ => False)
    (hCX : ∀ H e s', CX [] H s₁ (fun _ _ _ => False) e s' → False) :
    codeAny (model P w) callerA (.call (.ref fa) ⟨[.ref a], []⟩) (fun r s' => r = .ok (.ret (.bool true)) ∧ OldK s₁.heap s'.heap ∧ s'.os = s₁.os ∧ AllBare s'.gens) s₁ := by
  have rv := vals_ints hi
  have lenV := hi.length
  -- from an abstract heap in which nothing but the script may be tracked
  have core : ∀ H : Hp, Only H → SqL K H a (ns.map V.int) → HOk P w H s₁.heap → (∀ b, H b ≠ none → b = a) → (H a ≠ none → K.lookup a = none) →
      codeAny (model P w) callerA (.call (.ref fa) ⟨[.ref a], []⟩) (fun r s' => r = .ok (.ret (.bool true)) ∧ OldK s₁.heap s'.heap ∧ s'.os = s₁.os ∧ AllBare s'.gens) s₁ := by
    intro H hO hS hok hA hK
    have base_of : ∀ {b : Addr} {o : Obj}, s₁.heap.get? b = some o → H b = none → (hidT s₁.heap H).get? b = some o := fun e n => hidT_get e n
    have noA : ∀ {b : Addr} {o : Obj} {es : Array DictEntry} {ep : Nat}, s₁.heap.get? b = some o → o.data = .dict es ep → H b = none := fun {b o es ep} e d => by
      cases q : H b with
      | none => rfl
      | some u =>
        have e' : b = a := hA b (by rw [q]; simp)
        subst e'
        rw [ha] at e; cases e
        have d' : Data.seq vs.toArray _ = Data.dict es ep := d
        cases d'
    have nsK : ∀ {b : Addr} {m : Str → Option Value}, s₁.heap.Ns b m → (hidT s₁.heap H).Ns b m := fun {b m} ⟨o, es, ep, e, d, r⟩ => ⟨o, es, ep, base_of e (noA e d), d, r⟩
    have hKb : K.In (hidT s₁.heap H) := fun b o e => base_of (KX b o e) (by
      cases q : H b with
      | none => rfl
      | some u =>
        have e' : b = a := hA b (by rw [q]; simp)
        subst e'
        rw [hK (by rw [q]; simp)] at e; cases e)
    have hM : Mod K mg (hidT s₁.heap H) := ⟨hKb, nsK hns, ⟨mb, nsK hb, hbb⟩, let ⟨mc, h1, h2⟩ := hlim; ⟨mc, nsK h1, h2⟩⟩
    have e0 : Env0 P w K mg (hidT s₁.heap H) callerA [] s₁ H := ⟨rfl, hM, fun b o e => of_hidT e, Nat.le_of_eq (hidT_size _ _), trivial, fun b hb => absurd (show b ∈ ([] : List Addr) from hb) (by simp), hok, .of_eq hg⟩
    refine codeAny_mono ((F _ hKb (nsK hns)).run callerA [] s₁ H ⟨[.ref a], []⟩ [.ref a] [.ref a] _ _ hr e0 (hbind s₁ (.ref a)) (.cons rfl .nil) (hsp H hO hS)) fun r s' h => ?_
    cases r with
    | error e => exact (hCX H e s' h).elim
    | ok fl =>
      cases fl with
      | next => exact False.elim h
      | brk => exact False.elim h
      | cont => exact False.elim h
      | ret u =>
        obtain ⟨v, H', os, bare, un, hok', r', q⟩ := h
        have q' : v = .bl true := q
        subst q'
        obtain rfl : u = Value.bool true := r'
        refine ⟨rfl, OldK.of_keep fun b o e => ?_, os, bare⟩
        cases q : H b with
        | none => exact un.keep b o e q (by intro z; exact absurd (show b ∈ ([] : List Addr) from z) (by simp)) (by simp)
        | some u =>
          rcases hO b with z | ⟨ob, xs, z⟩
          · rw [q] at z; cases z
          · have z2 := un.frzs b ob _ z
            obtain ⟨e1, _⟩ := hok b _ z
            obtain ⟨e2, _⟩ := hok' b _ z2
            rw [e] at e1; cases e1
            exact e2
  cases hk : K.lookup a with
  | some o =>
    -- the script is one of the module's own objects
    have e := KX a o hk
    rw [ha] at e
    cases e
    refine core (fun _ => none) (fun _ => .inl rfl) (.inr ⟨_, vs.toArray, _, hk, rfl, rfl, rfl, by rw [List.size_toArray, lenV]; exact hl, by simpa using rv⟩) (fun b u z => by have z' : (none : Option HO) = some u := z; cases z') (fun b z => absurd rfl z) fun z => absurd rfl z
  | none =>
    refine core (fun b => if b = a then some (.frz { cls := .type "list", data := .seq vs.toArray } (.lst (ns.map V.int))) else none) (fun b => ?_) (.inl (.inr ⟨{ cls := .type "list", data := .seq vs.toArray }, if_pos rfl⟩)) (fun b u z => ?_) (fun b z => ?_) fun _ => hk
    · by_cases hb : b = a
      · exact .inr ⟨_, _, if_pos hb⟩
      · exact .inl (if_neg hb)
    · by_cases hb : b = a
      · have z' := (if_pos hb).symm.trans z
        cases z'
        subst hb
        exact ⟨ha, by rw [List.length_map]; exact hl, vs, _, rv, ha⟩
      · have z' := (if_neg hb).symm.trans z
        cases z'
    · by_cases hb : b = a
      · exact hb
      · exact absurd (if_neg hb) z
end L2

namespace L2
open PySem PySem.Spec PyProof.Rows

/-- the goal that k_head leaves (case hc), from the law's promise. F gives the function object fd (K's own) once, then the promise over every base -/
theorem walk_of {l : PySem.W.OpenLaw} {n k : Nat} {q : Program} {loose : List Str} {XP : (Str → Option Value) → Heap → Prop} {YP : World → Heap → Prop} {d : DefRec} {K : Params → PySem.W.Frag} {CX : World → CXT} {sp : World → Sp} {x : Str}
    (hn : l.most = some n) (hn2 : n ≤ sizeLine) (hdf : d.params.defaults = []) (hr : Room k callerA)
    (hY : ∀ (w : World) (h : Heap), YP w h → (K w.params).In h)
    (F : ∀ (w : World) (mg : Str → Option Value) (fa : Addr) (h : Heap), (K w.params).In h → h.Ns mainGlobals mg → mg d.name = some (.ref fa) →
      ∃ fd : FuncData, (∀ (s : Shared) (u : Value), BindsTo s fd ⟨[u], []⟩ [(x, u)]) ∧
        ∀ base : Heap, (K w.params).In base → base.Ns mainGlobals mg → FnOk l.prog w (K w.params) mg base (CX w) k fa fd [x] (sp w))
    (hsp : ∀ (w : World) (H : Hp) (a : Addr) (ns : List Int), ns.length ≤ n → Only H → SqL (K w.params) H a (ns.map V.int) → sp w [.ref a] H (fun v _ => v = .bl true) fun _ _ _ => False)
    (hCX : ∀ (w : World) (H : Hp) (s : Shared) (e : Value) (s' : Shared), CX w [] H s (fun _ _ _ => False) e s' → False) :
    PySem.W.WalkO q loose XP YP l.row.toRowW d [] (fun f vs => PySem.call f vs) := by
  refine Att.attach_call hn hdf fun w s₀ s₁ mg mb fa o pm cd doc a vs ns G Y ho hd hcd hmg hobj hints hlen hg => ?_
  have KX := hY w _ Y
  obtain ⟨fd, hb, hF⟩ := F w mg fa _ KX G.T.g hmg
  exact law_call KX G.T.g G.T.b G.T.builtins G.T.nolimit hg hobj hints (Nat.le_trans hlen hn2) hr hF hb (fun H hO hS => hsp w H a ns hlen hO hS) fun H e s' => hCX w H s₁ e s'
end L2

/- THE LAST THEOREM (shape; LID, My.* are yours):
   My.Adr: a structure of the addresses that your layer names (classes, functions); My.Txt K t: a structure (Prop) of the equations over K;
   My.txt_mk : {K} {implicit addresses ..} (e1 : nsIn K mainGlobals "law" = some (some (.ref f))) (e2 : K.lookup f = some ⟨oc, od, .func (fnOf "law" "law" params body scope dV kV doc pm an cdv ct), sl⟩) (e3 : codeIn K cdv "law" = true) .. : ∃ t, My.Txt K t

set_option maxRecDepth 100000 in
set_option maxHeartbeats 0 in
theorem PySem.Challenge.cw_LID_holds : PySem.Challenge.rw_LID.Holds := by
  w_on; o_law; k_head; (case hw => w_witness2)
  k_fill
  refine L2.walk_of (l := PySem.Challenge.rw_LID) (n := 63) (k := 40) (x := "script") (CX := fun w => ..) (sp := fun _ => My.sp_law) rfl (by decide) rfl ⟨rfl, by decide, by decide⟩ (fun w h Y => PySem.W.kIn_of Y) ?F ?S ?C
  case F =>
    intro w mg fa h KX G hmg
    have T : ∃ t, My.Txt (L2.KOf KX) t := by
      dsimp only [L2.KOf]                          -- K must stand as «<heap const> w.params» for k_is
      refine' My.txt_mk ?e1 ?e2 ?e3 ..
      (case e1 => PySem.W.k_is)                    -- in the order: a name -> its address -> its object -> its parts
      (case e2 => PySem.W.k_is)
      ..
    obtain ⟨t, T⟩ := T
    have e0 := hmg.symm.trans (PySem.W.mg_of KX G T.law)
    cases e0                                       -- fa is the law's own address
    exact ⟨_, fun s u => .of_eq rfl, fun base kb nb => My.law_fn T kb nb⟩     -- if «.of_eq rfl» comes too early: refine' ⟨_, ?b, fun base kb nb => My.law_fn T kb nb⟩; exact fun s u => .of_eq rfl
  case S => exact fun w H a ns hl hO hS => ..
  case C => exact ..
(the tactic k_is has no namespace: write k_is) -/

/-! SHORT WORDS over the layer: a def of the text, its body, what a loop and a test want. -/
namespace L2
open PySem PySem.Spec PyProof.Rows

/-! ### the text by places -/
def defArgs (s : Stmt) : Arguments := match s with
  | .FunctionDef _ a _ _ _ _ _ _ _ _ => a
  | _ => { posonlyargs := [], args := [], vararg := none, kwonlyargs := [], kw_defaults := [], kwarg := none, defaults := [] }
def defBody (s : Stmt) : List Stmt := match s with
  | .FunctionDef _ _ b _ _ _ _ _ _ _ => b
  | _ => []
def defScope (s : Stmt) : Scope := match s with
  | .FunctionDef _ _ _ _ _ _ sc _ _ _ => sc
  | _ => { kind := .function, names := [], isGenerator := false, isCoroutine := false }

/-! ### no exception leaves a def -/
abbrev CX0 : CXT := fun _ _ _ _ _ _ => False
abbrev E0 : XK := fun _ _ _ => False
theorem pass0 {X : Cx} : Passes CX0 X E0 := fun _ _ _ _ _ _ _ h => h.elim

/-! ### a def (or method) of the text as it stands behind the top -/
structure Fun (K : PySem.W.Frag) (x qual : Str) (st : Stmt) (f : Addr) (fd : FuncData) : Prop where
  ex : ∃ (oc : Value) (od : Option Addr) (kV doc pm : Value) (an : Option Addr) (cdv ct : Value) (osl : Array (Option Value)),
    fd = PySem.W.fnOf x qual (defArgs st) (defBody st) (defScope st) .none kV doc pm an cdv ct ∧ K.lookup f = some ⟨oc, od, .func fd, osl⟩ ∧ PySem.W.codeIn K cdv qual = true
  kp : PySem.W.keepIn K (.ref f) = true
section
variable {P : Program} {w : World} {K : PySem.W.Frag} {mg : Str → Option Value} {base : Heap}
/-- THE RULE for a def: its body as a term of rules, and the reading of that term -/
theorem Fun.ok {x qual : Str} {st : Stmt} {f : Addr} {fd : FuncData} {N ps : List Str} {k : Nat} {sp : Sp} (F : Fun K x qual st f fd) (S : FnScope N ps (defScope st)) (len : ∀ vs H Q E, sp vs H Q E → vs.length = ps.length)
    (hbody : ∀ (cdv : Value) (A : Around) (outer : List Env) (s : Shared) (H : Hp) (vs : List V) (Q : VK) (E : XK), Room k (A.deeper (envOfC qual (defScope st) s.heap.objs.size f cdv)) → sp vs H Q E →
      ∃ t, PSs (cxOf CX0 P w K mg base N qual (defScope st) f cdv A outer s H E).nox (defBody st) t ∧ t { nx := fun _ H' => Q .non H', rt := Q } (start N vs) H) : FnOk P w K mg base CX0 (k + 1) f fd ps sp := by
  obtain ⟨oc, od, kV, doc, pm, an, cdv, ct, osl, rfl, lk, hcd⟩ := F.ex
  refine fn_of lk hcd S len fun A outer s H vs Q E hr hsp => ?_
  obtain ⟨t, h, q⟩ := hbody cdv A outer s H vs Q E hr hsp
  exact ⟨t, h.nox, q⟩
/-- how its arguments bind (no defaults): h is «fun _ _ _ _ _ _ us hl => match us, hl with | [_, _], _ => rfl», one _ a parameter -/
theorem Fun.binds {x qual : Str} {st : Stmt} {f : Addr} {fd : FuncData} {ps : List Str} (F : Fun K x qual st f fd)
    (h : ∀ (kV doc pm : Value) (an : Option Addr) (cdv ct : Value) (us : List Value), us.length = ps.length → bindArgs (PySem.W.fnOf x qual (defArgs st) (defBody st) (defScope st) .none kV doc pm an cdv ct) ⟨us, []⟩ = pure (ps.zip us)) : Binds K fd ps [] := by
  obtain ⟨oc, od, kV, doc, pm, an, cdv, ct, osl, rfl, lk, hcd⟩ := F.ex
  exact .all (h kV doc pm an cdv ct)
theorem fun_mk {x qual : Str} {st : Stmt} {f : Addr} {oc : Value} {od an : Option Addr} {osl : Array (Option Value)} {kV doc pm cdv ct : Value} (l : K.lookup f = some ⟨oc, od, .func (PySem.W.fnOf x qual (defArgs st) (defBody st) (defScope st) .none kV doc pm an cdv ct), osl⟩)
    (c : PySem.W.codeIn K cdv qual = true) (k : PySem.W.keepIn K (.ref f) = true) : Fun K x qual st f (PySem.W.fnOf x qual (defArgs st) (defBody st) (defScope st) .none kV doc pm an cdv ct) := ⟨⟨oc, od, kV, doc, pm, an, cdv, ct, osl, rfl, l, c⟩, k⟩
end
theorem small1000 {n : Nat} (h : n ≤ 1000) : n < sizeLine := Nat.lt_of_le_of_lt h (by decide)

/-! ### expressions in short: the name that stands in the i-th slot -/

/-! ### tests -/
theorem iteF {A B : Prop} (h : B) : if false = true then A else B := by
  rw [if_neg Bool.false_ne_true]
  exact h
theorem iteT {A B : Prop} (h : A) : if true = true then A else B := by
  rw [if_pos rfl]
  exact h
theorem ite2 {c A B : Prop} [Decidable c] (h1 : c → A) (h2 : ¬ c → B) : if c then A else B := by
  by_cases h : c
  · rw [if_pos h]
    exact h1 h
  · rw [if_neg h]
    exact h2 h
/-! ### heaps -/
/-- all that was tracked is as it was -/
def Same (H H' : Hp) : Prop := ∀ b o, H b = some o → H' b = some o
end L2
set_option Elab.async false
set_option linter.all false
set_option maxRecDepth 100000
namespace L2
open PySem PySem.Spec PyProof.Rows

/-! ### lists of pairs as tables -/
section
variable {κ : Type} [DecidableEq κ]
def valV (kvs : List (κ × V)) (k : κ) : Option V := (kvs.find? fun kv => decide (kv.1 = k)).map (·.2)
/-- in its place, or at the end -/
def putK (kvs : List (κ × V)) (k : κ) (v : V) : List (κ × V) :=
  if (kvs.any fun kv => decide (kv.1 = k)) = true then kvs.map (fun kv => if kv.1 = k then (kv.1, v) else kv) else kvs ++ [(k, v)]
theorem valV_pos {p : κ × V} {r : List (κ × V)} {k : κ} (e : p.1 = k) : valV (p :: r) k = some p.2 := by simp [valV, List.find?_cons, e]
theorem valV_neg {p : κ × V} {r : List (κ × V)} {k : κ} (e : ¬ p.1 = k) : valV (p :: r) k = valV r k := by simp [valV, List.find?_cons, e]
theorem valV_any (k : κ) : ∀ kvs : List (κ × V), (kvs.any fun kv => decide (kv.1 = k)) = (valV kvs k).isSome
  | [] => rfl
  | p :: r => by
    rw [List.any_cons]
    by_cases e : p.1 = k
    · simp only [valV_pos e, decide_eq_true e, Bool.true_or, Option.isSome_some]
    · rw [valV_neg e, decide_eq_false e, Bool.false_or]; exact valV_any k r
theorem valV_map (k j : κ) (y : V) : ∀ kvs : List (κ × V), valV (kvs.map fun kv => if kv.1 = k then (kv.1, y) else kv) j = (valV kvs j).map fun x => if j = k then y else x
  | [] => rfl
  | p :: r => by
    have ih := valV_map k j y r
    rw [List.map_cons]
    by_cases h : p.1 = k
    · rw [if_pos h]
      by_cases e : p.1 = j
      · rw [valV_pos (p := (p.1, y)) e, valV_pos e, Option.map_some, if_pos (e.symm.trans h)]
      · rw [valV_neg (p := (p.1, y)) e, valV_neg e, ih]
    · rw [if_neg h]
      by_cases e : p.1 = j
      · rw [valV_pos (p := p) e, valV_pos e, Option.map_some, if_neg (fun z => h (e.trans z))]
      · rw [valV_neg (p := p) e, valV_neg e, ih]
theorem valV_snoc (k j : κ) (y : V) : ∀ kvs : List (κ × V), valV kvs k = none → valV (kvs ++ [(k, y)]) j = if j = k then some y else valV kvs j
  | [], _ => by
    by_cases e : k = j
    · rw [if_pos e.symm]; exact valV_pos (p := (k, y)) e
    · rw [if_neg (fun z => e z.symm)]; exact valV_neg (p := (k, y)) e
  | p :: r, hn => by
    rw [List.cons_append]
    have hk : ¬ p.1 = k := fun z => by rw [valV_pos z] at hn; cases hn
    rw [valV_neg hk] at hn
    have ih := valV_snoc k j y r hn
    by_cases e : p.1 = j
    · rw [valV_pos e, valV_pos e, if_neg (fun z => hk (e.trans z))]
    · rw [valV_neg e, valV_neg e, ih]
theorem valV_put (kvs : List (κ × V)) (k j : κ) (y : V) : valV (putK kvs k y) j = if j = k then some y else valV kvs j := by
  unfold putK
  by_cases a : (kvs.any fun kv => decide (kv.1 = k)) = true
  · rw [if_pos a, valV_map]
    rw [valV_any] at a
    by_cases e : j = k
    · obtain ⟨x, hx⟩ := Option.isSome_iff_exists.mp a
      rw [if_pos e, e, hx, Option.map_some, if_pos rfl]
    · rw [if_neg e]
      cases valV kvs j with
      | none => rfl
      | some x => rw [Option.map_some, if_neg e]
  · rw [if_neg a]
    refine valV_snoc k j y kvs ?_
    rw [valV_any] at a
    cases q : valV kvs k with
    | none => rfl
    | some x => rw [q] at a; exact (a rfl).elim
theorem length_putK (kvs : List (κ × V)) (k : κ) (v : V) : (putK kvs k v).length ≤ kvs.length + 1 := by
  unfold putK
  split
  · rw [List.length_map]; omega
  · rw [List.length_append, List.length_cons, List.length_nil]; omega
theorem putK_new {kvs : List (κ × V)} {k : κ} (v : V) (h : valV kvs k = none) : putK kvs k v = kvs ++ [(k, v)] := by
  unfold putK
  rw [valV_any, h]
  exact if_neg (by decide)

theorem RelO.isSome_eq {o : Option V} {u : Option Value} (r : RelO o u) : o.isSome = u.isSome := by
  cases o with
  | none => cases u with
    | none => rfl
    | some _ => exact (show False from r).elim
  | some _ => cases u with
    | none => exact (show False from r).elim
    | some _ => rfl
theorem RelO.getD {o : Option V} {u : Option Value} {d : V} {d' : Value} (r : RelO o u) (rd : RelV d d') : RelV (o.getD d) (u.getD d') := by
  cases o with
  | none => cases u with
    | none => exact rd
    | some _ => exact (show False from r).elim
  | some _ => cases u with
    | none => exact (show False from r).elim
    | some _ => exact r

/-- raw tables of the same keys -/
theorem KV.val {kvs : List (κ × V)} {vs : List (κ × Value)} (r : KV kvs vs) (k : κ) : RelO (valV kvs k) (valueAt vs k) := by
  unfold KV at r
  induction r with
  | nil => exact True.intro
  | @cons p q ps qs h t ih =>
    obtain ⟨h1, h2⟩ := h
    by_cases e : p.1 = k
    · have e' : q.1 = k := h1.symm.trans e
      have b : valueAt (q :: qs) k = some q.2 := by simp [valueAt, List.find?_cons, e']
      rw [valV_pos e, b]; exact h2
    · have e' : ¬ q.1 = k := fun z => e (h1.trans z)
      have b : valueAt (q :: qs) k = valueAt qs k := by simp [valueAt, List.find?_cons, e']
      rw [valV_neg e, b]; exact ih
theorem KV.any {kvs : List (κ × V)} {vs : List (κ × Value)} (r : KV kvs vs) (k : κ) : (kvs.any fun kv => decide (kv.1 = k)) = vs.any fun kv => decide (kv.1 = k) := by
  unfold KV at r
  induction r with
  | nil => rfl
  | cons h t ih => rw [List.any_cons, List.any_cons, ih, h.1]
theorem KV.repl {kvs : List (κ × V)} {vs : List (κ × Value)} (r : KV kvs vs) (k : κ) {y : V} {u : Value} (ry : RelV y u) :
    KV (kvs.map fun kv => if kv.1 = k then (kv.1, y) else kv) (vs.map fun kv => if kv.1 = k then (kv.1, u) else kv) := by
  unfold KV at r ⊢
  induction r with
  | nil => exact .nil
  | @cons p q ps qs h t ih =>
    rw [List.map_cons, List.map_cons]
    refine .cons ?_ ih
    obtain ⟨h1, h2⟩ := h
    by_cases e : p.1 = k
    · rw [if_pos e, if_pos (h1.symm.trans e)]; exact ⟨h1, ry⟩
    · rw [if_neg e, if_neg (fun z => e (h1.trans z))]; exact ⟨h1, h2⟩
theorem KV.put {kvs : List (κ × V)} {vs : List (κ × Value)} (r : KV kvs vs) (k : κ) {y : V} {u : Value} (ry : RelV y u) : KV (putK kvs k y) (stored vs k u) := by
  unfold putK stored
  rw [r.any k]
  by_cases e : (vs.any fun kv => decide (kv.1 = k)) = true
  · rw [if_pos e, if_pos e]; exact r.repl k ry
  · rw [if_neg e, if_neg e]; exact Paired.snoc r ⟨rfl, ry⟩
theorem KV.length {kvs : List (κ × V)} {vs : List (κ × Value)} (r : KV kvs vs) : kvs.length = vs.length := Paired.length r
end


/-! ### a tracked dict, its keys ints and texts or tuples of these -/
theorem kV_is {P : Program} {w : World} {k : Key} {u : Value} (r : RelV (kV k) u) : (mixKind P w).is k u = true := by
  cases k with
  | inl i => obtain ⟨t, e⟩ := (show ∃ t, u = Value.int i t from r); subst e; exact mixKind_int P w i t
  | inr x => obtain ⟨t, e⟩ := (show ∃ t, u = Value.str x t from r); subst e; exact mixKind_str P w x t
theorem items_are {P : Program} {w : World} : ∀ {ks : List Key} {us : List Value}, Vals (ks.map kV) us → ItemsAre (mixKind P w) ks us
  | [], _, r => by rw [List.map_nil] at r; cases r; exact .nil
  | k :: ks, _, r => by
    rw [List.map_cons] at r
    cases r with
    | cons h t => exact .cons (kV_is h) (items_are t)

/-- raw entries of a dict with tuple keys -/
abbrev KT (H : Hp) : List (List Key × V) → List (List Key × Addr × Value) → Prop := Paired fun p q => p.1 = q.1 ∧ H q.2.1 = some (.tup (p.1.map kV)) ∧ RelV p.2 q.2.2
theorem KT.val {H : Hp} {kvs : List (List Key × V)} {xs : List (List Key × Addr × Value)} (r : KT H kvs xs) (k : List Key) : RelO (valV kvs k) ((atKey xs k).map (·.2)) := by
  induction r with
  | nil => exact True.intro
  | @cons p q ps qs h t ih =>
    obtain ⟨h1, _, h2⟩ := h
    by_cases e : p.1 = k
    · have e' : q.1 = k := h1.symm.trans e
      have b : atKey (q :: qs) k = some q.2 := by simp [atKey, List.find?_cons, e']
      rw [valV_pos e, b]; exact h2
    · have e' : ¬ q.1 = k := fun z => e (h1.trans z)
      have b : atKey (q :: qs) k = atKey qs k := by simp [atKey, List.find?_cons, e']
      rw [valV_neg e, b]; exact ih
theorem KT.repl {H : Hp} {kvs : List (List Key × V)} {xs : List (List Key × Addr × Value)} (r : KT H kvs xs) (k : List Key) {y : V} {u : Value} (ry : RelV y u) :
    KT H (kvs.map fun kv => if kv.1 = k then (kv.1, y) else kv) (xs.map (putAt k u)) := by
  induction r with
  | nil => exact .nil
  | @cons p q ps qs h t ih =>
    rw [List.map_cons, List.map_cons]
    refine .cons ?_ ih
    obtain ⟨h1, h2, h3⟩ := h
    unfold putAt
    by_cases e : p.1 = k
    · rw [if_pos e, if_pos (h1.symm.trans e)]; exact ⟨h1, h2, ry⟩
    · rw [if_neg e, if_neg (fun z => e (h1.trans z))]; exact ⟨h1, h2, h3⟩
theorem KT.put {H : Hp} {kvs : List (List Key × V)} {xs : List (List Key × Addr × Value)} (r : KT H kvs xs) (k : List Key) {b : Addr} {y : V} {u : Value} (hb : H b = some (.tup (k.map kV))) (ry : RelV y u) :
    KT H (putK kvs k y) (storedH xs k b u) := by
  have e : (kvs.any fun kv => decide (kv.1 = k)) = (atKey xs k).isSome := by
    rw [valV_any, (r.val k).isSome_eq, Option.isSome_map]
  unfold putK storedH
  rw [e]
  by_cases q : (atKey xs k).isSome = true
  · rw [if_pos q, if_pos q]; exact r.repl k ry
  · rw [if_neg q, if_neg q]; exact Paired.snoc r ⟨rfl, hb, ry⟩
theorem KT.keeps {H H' : Hp} {kvs : List (List Key × V)} {xs : List (List Key × Addr × Value)} (r : KT H kvs xs) (ht : ∀ b ys, H b = some (.tup ys) → H' b = some (.tup ys)) : KT H' kvs xs :=
  Paired.mapP r fun _ _ z => ⟨z.1, ht _ _ z.2.1, z.2.2⟩

section
variable {P : Program} {w : World} {H : Hp} {h : Heap} {a : Addr}
theorem rd_of {u : HO} (ok : HOk P w H h) (e : Rd H a u) : ObjOk P w H h a u := e.ok ok
theorem dk_rd {kvs : List (Key × V)} (ok : HOk P w H h) (e : Rd H a (.dK kvs)) : kvs.length ≤ sizeLine ∧ (a == sysModules) = false ∧ ∃ vs, KV kvs vs ∧ h.DictOf (mixKind P w) a vs :=
  show ObjOk P w H h a (.dK kvs) from rd_of ok e
theorem dk_of {kvs : List (Key × V)} (ok : HOk P w H h) (e : H a = some (.dK kvs)) : kvs.length ≤ sizeLine ∧ (a == sysModules) = false ∧ ∃ vs, KV kvs vs ∧ h.DictOf (mixKind P w) a vs := dk_rd ok (.inl e)
/-- a tracked tuple of ints and texts is a key -/
theorem key_of {ks : List Key} (ok : HOk P w H h) (e : H a = some (.tup (ks.map kV))) : (tupleKind (mixKind P w)).is h ks a := by
  obtain ⟨_, its, r, o, h1, h2, n, h3⟩ := (show ObjOk P w H h a (.tup (ks.map kV)) from ok a _ e)
  exact ⟨o, its.toArray, n, h1, h2, h3, by simpa using items_are r⟩
theorem dt_rd {kvs : List (List Key × V)} (ok : HOk P w H h) (e : Rd H a (.dT kvs)) : kvs.length ≤ sizeLine ∧ (a == sysModules) = false ∧
    ∃ xs, KT H kvs xs ∧ h.DictOfH (tupleKind (mixKind P w)) a xs := by
  obtain ⟨z, y, xs, r, o, es, ep, h1, h2, h3, h4, h5⟩ := (show ObjOk P w H h a (.dT kvs) from rd_of ok e)
  refine ⟨z, y, xs, r, o, es, ep, h1, h2, h3, h4, fun x hx => ?_, h5⟩
  have all : ∀ {l : List (List Key × V)} {m : List (List Key × Addr × Value)}, KT H l m → ∀ x ∈ m, (tupleKind (mixKind P w)).is h x.1 x.2.1 := by
    intro l m q
    induction q with
    | nil => intro x hx; exact nomatch hx
    | @cons p q ps qs hq t ih =>
      intro x hx
      rcases List.mem_cons.mp hx with e | hx
      · subst e
        exact key_of ok (by rw [← hq.1]; exact hq.2.1)
      · exact ih x hx
  exact all r x hx
theorem dt_of {kvs : List (List Key × V)} (ok : HOk P w H h) (e : H a = some (.dT kvs)) : kvs.length ≤ sizeLine ∧ (a == sysModules) = false ∧
    ∃ xs, KT H kvs xs ∧ h.DictOfH (tupleKind (mixKind P w)) a xs := dt_rd ok (.inl e)
end

/-- what the dict at a holds at the key y -/
def DGet (H : Hp) (a : Addr) (y : V) (r : Option V) : Prop :=
  (∃ kvs k, Rd H a (.dK kvs) ∧ y = kV k ∧ r = valV kvs k) ∨ ∃ kvs k b, Rd H a (.dT kvs) ∧ y = .ref b ∧ H b = some (.tup (k.map kV)) ∧ r = valV kvs k
/-- the heap behind a[y] = v -/
def DPut (H : Hp) (a : Addr) (y v : V) (H' : Hp) : Prop :=
  (∃ kvs k, H a = some (.dK kvs) ∧ y = kV k ∧ kvs.length < sizeLine ∧ H' = upd H a (.dK (putK kvs k v))) ∨
  ∃ kvs k b, H a = some (.dT kvs) ∧ y = .ref b ∧ H b = some (.tup (k.map kV)) ∧ kvs.length < sizeLine ∧ H' = upd H a (.dT (putK kvs k v))
theorem DGet.t {H : Hp} {a b : Addr} {kvs : List (List Key × V)} {k : List Key} (e : H a = some (.dT kvs)) (eb : H b = some (.tup (k.map kV))) : DGet H a (.ref b) (valV kvs k) := .inr ⟨kvs, k, b, .inl e, rfl, eb, rfl⟩
theorem DPut.t {H : Hp} {a b : Addr} {kvs : List (List Key × V)} {k : List Key} {v : V} (e : H a = some (.dT kvs)) (eb : H b = some (.tup (k.map kV))) (hl : kvs.length < sizeLine) :
    DPut H a (.ref b) v (upd H a (.dT (putK kvs k v))) := .inr ⟨kvs, k, b, e, rfl, eb, hl, rfl⟩


section
variable {X : Cx} {pins : List (Addr × Obj)} {σ : St} {H : Hp} {s : Shared} {a : Addr} {y v : V} {u r : Value} {o : Option V} {A : Around} {E : Value → Shared → Prop}

theorem Inv.big (I : Inv X pins σ H s) : sysModules < s.heap.objs.size := by
  have h : mainGlobals < s.heap.objs.size := (I.mod.glob.keeps I.bk).lt
  exact Nat.lt_trans (by decide) h

/-- d[y], there -/
theorem d_getItem {Q : Value → Shared → Prop} (hu : A.units + 1 < cLine) (I : Inv X pins σ H s) (g : DGet H a y (some v)) (ry : RelV y u) (h : ∀ w' s', Inv X pins σ H s' → RelV v w' → Q w' s') :
    wpAny (model X.prog X.w) A (getItem (.ref a) u) Q E s := by
  rcases g with ⟨kvs, k, e, ey, l⟩ | ⟨kvs, k, b, e, ey, eb, l⟩
  · subst ey
    obtain ⟨z, hd, vs, rel, dd⟩ := dk_rd I.hok e
    obtain ⟨w', hw, rw'⟩ := RelO.some_of (v := v) (o := valueAt vs k) (by rw [l]; exact rel.val k)
    exact wpAny_getItem_of (kV_is ry) dd.mapOf hw (h w' _ (I.tok _) rw')
  · subst ey
    cases (show u = Value.ref b from ry)
    obtain ⟨z, hd, xs, rel, dd⟩ := dt_rd I.hok e
    obtain ⟨w', hw, rw'⟩ := RelO.some_of (v := v) (o := (atKey xs k).map (·.2)) (by rw [l]; exact rel.val k)
    obtain ⟨p, hp, hp2⟩ := Option.map_eq_some_iff.mp hw
    refine wpAny_getItem_heap (tupleKind_room_in1 hu) (key_of I.hok eb) dd hp ?_
    rw [hp2]
    exact h w' _ (I.tok _) rw'
/-- a dict's object is replaced -/
theorem d_write {h' : Heap} {t' : Nat} {ob : HO} (I : Inv X pins σ H s) (mu : Mut (H a)) (hs : Heap.SameBut a s.heap h') (he : ∃ q, h'.get? a = some q) (new : ObjOk X.prog X.w (upd H a ob) h' a ob) :
    Inv X pins σ (upd H a ob) { s with heap := h', toks := t' } :=
  I.write (x := a) (e := a) mu (.inl rfl) (fun b q hb z => (hs.2 b hb).trans z) he new
theorem dk_new {P : Program} {w : World} {H' : Hp} {h' : Heap} {kvs : List (Key × V)} {vs : List (Key × Value)} (z : kvs.length ≤ sizeLine) (hd : (a == sysModules) = false) (rel : KV kvs vs) (dd : h'.DictOf (mixKind P w) a vs) :
    ObjOk P w H' h' a (.dK kvs) := ⟨z, hd, vs, rel, dd⟩
/-- d[y] = v -/
theorem d_setItem {H' : Hp} {Q : Unit → Shared → Prop} (hu : A.units + 1 < cLine) (I : Inv X pins σ H s) (g : DPut H a y v H') (ry : RelV y u) (rv : RelV v r) (h : ∀ s', Inv X pins σ H' s' → Q () s') :
    wpAny (model X.prog X.w) A (setItem (.ref a) u r) Q E s := by
  rcases g with ⟨kvs, k, e, ey, l, eH⟩ | ⟨kvs, k, b, e, ey, eb, l, eH⟩
  · subst ey eH
    obtain ⟨z, hd, vs, rel, dd⟩ := dk_of I.hok e
    have hz : vs.length ≤ sizeLine := by rw [← rel.length]; exact z
    have hl : (putK kvs k v).length ≤ sizeLine := by have := length_putK kvs k v; omega
    refine wpAny_setItem_pairs (hsz := hz) (kV_is ry) dd fun h' dd' hs => h _ ?_
    have he : ∃ q, h'.get? a = some q := let ⟨q, _, _, hq, _⟩ := dd'; ⟨q, hq⟩
    exact d_write I (by rw [e]; exact True.intro) hs he (dk_new hl hd (rel.put k rv) dd')
  · subst ey eH
    cases (show u = Value.ref b from ry)
    obtain ⟨z, hd, xs, rel, dd⟩ := dt_of I.hok e
    have hz : xs.length ≤ sizeLine := by rw [← Paired.length rel]; exact z
    have hl : (putK kvs k v).length ≤ sizeLine := by have := length_putK kvs k v; omega
    refine wpAny_setItem_heap (hsz := hz) (tupleKind_room_in1 hu) (key_of I.hok eb) dd fun h' dd' hs => h _ ?_
    obtain ⟨q, es, ep, hq, h2, h3, h4, _, h5⟩ := dd'
    refine d_write I (by rw [e]; exact True.intro) hs ⟨q, hq⟩ ⟨hl, hd, _, (rel.put k eb rv).keeps fun c ys ec => ?_, q, es, ep, hq, h2, h3, h4, h5⟩
    rw [upd_ne (ne_of ec e (fun z => nomatch z))]
    exact ec
end



/-! ### readings and rules -/
/-- the element of a subscription, not a slice -/
def NoSl (i : Expr) : Prop := ∀ ov iv, subscripted i false ov iv = operate [ov, iv] (getItem ov iv)
theorem subD_of {prog : Program} {w : World} {A : Around} {E : Value → Shared → Prop} {s : Shared} {env : Env} {value slice : Expr} {pos : Pos} {T id : String} {Q : Value → Shared → Prop}
    (hl : typeLookup (.type T) "__getitem__" = pure (some (.builtin id))) (hs : NoSl slice)
    (h : wpAny (model prog w) A (eval value env) (fun o s₁ => wpAny (model prog w) A (eval slice env) (fun i s₂ => s₂.TypeIs o T ∧ wpAny (model prog w) A (getItem o i) Q E s₂) E s₁) E s) :
    wpAny (model prog w) A (eval (.Subscript value slice pos) env) Q E s := by
  refine Subscript_ (wpAny_mono h (fun o s₁ h₁ => wpAny_mono h₁ (fun i s₂ h₂ => ?_) fun _ _ x => x) fun _ _ x => x)
  obtain ⟨hT, h₂⟩ := h₂
  unfold subscriptTail
  refine wpAny_bind ?_
  rw [getitemInPython_of_ne hT.not_modules]
  refine wpAny_bind (wpAny_specialOf hT hl ?_)
  have fin : wpAny (model prog w) A (subscripted slice false o i) (fun r s₃ => wpAny (model prog w) A (letTemporaryGo value o r >>= fun _ => pure r) Q E s₃) E s₂ := by
    rw [hs o i]
    exact wpAny_operating (wpAny_mono h₂ (fun r s₃ h₃ => wpAny_bind (wpAny_letTemporaryGo (wpAny_pure h₃))) fun _ _ x => x)
  first
    | exact wpAny_pure (wpAny_bind fin)
    | exact wpAny_bind (wpAny_pure (wpAny_bind fin))
    | exact wpAny_bind fin

theorem dict_typeIs {X : Cx} {pins : List (Addr × Obj)} {σ : St} {H : Hp} {s : Shared} {a : Addr} {y : V} {o : Option V} (I : Inv X pins σ H s) (g : DGet H a y o) : s.TypeIs (.ref a) "dict" := by
  rcases g with ⟨kvs, k, e, _, _⟩ | ⟨kvs, k, b, e, _, _, _⟩
  · obtain ⟨_, _, vs, _, dd⟩ := dk_rd I.hok e
    exact dd.typeIs
  · obtain ⟨_, _, xs, _, dd⟩ := dt_rd I.hok e
    exact dd.typeIs
/-- d[y] -/
def tDGet (td ty : TE) : TE := fun σ H Q => td σ H fun x H1 => ty σ H1 fun y H2 => ∃ a v, x = .ref a ∧ DGet H2 a y (some v) ∧ Q v H2
/-- d[y] = v -/
def sDPut (td ty tv : TE) : TS := fun D σ H => tv σ H fun v H1 => td σ H1 fun x H2 => ty σ H2 fun y H3 => ∃ a H4, x = .ref a ∧ DPut H3 a y v H4 ∧ D.nx σ H4
section
variable {X : Cx} {o i e value : Expr} {pos pos' tpos : Pos} {td ty tv : TE}
theorem pe_dget (hu : X.A.units + 1 < cLine) (ho : PE X o td) (hi : PE X i ty) (hs : NoSl i) : PE X (.Subscript o i pos) (tDGet td ty) := by
  intro pins s σ H Q I h
  refine subD_of PySem.F.slot_dict_getitem.lookup hs (thn (ho pins s σ H _ I h) fun u s1 ⟨x, H1, I1, rx, q1⟩ => thn (hi pins s1 σ H1 _ I1 q1) fun iv s2 ⟨y, H2, I2, ry, a, v, ex, g, q2⟩ => ?_)
  subst ex
  obtain rfl : u = Value.ref a := rx
  exact ⟨dict_typeIs I2 g, d_getItem hu I2 g ry fun w' s3 I3 rw' => ⟨v, H2, I3, rw', q2⟩⟩
theorem ps_dput (hu : X.A.units + 1 < cLine) (ho : PE X o td) (hi : PE X i ty) (hv : PE X value tv) (hs : swapsWith value (some (.Subscript o i pos')) pos.line X.env = pure false) :
    PS X (.Assign [.Subscript o i pos'] value pos) (sDPut td ty tv) := by
  intro pins s σ H D I h
  refine wpAny_Assign_Subscript (thn (hv pins s σ H _ I h) fun r s1 ⟨v, H1, I1, rv, q1⟩ => thn (ho pins s1 σ H1 _ I1 q1) fun u s2 ⟨x, H2, I2, rx, q2⟩ => thn (hi pins s2 σ H2 _ I2 q2) fun iv s3 ⟨y, H3, I3, ry, a, H4, ex, g, q3⟩ => ?_) hs
  subst ex
  obtain rfl : u = Value.ref a := rx
  exact d_setItem hu I3 g ry rv fun s4 I4 => ⟨σ, H4, I4, q3⟩
end


/-! ### displays -/
theorem dt_empty {P : Program} {w : World} {H : Hp} (h : Heap) (hb : sysModules < h.objs.size) : ObjOk P w H (h.push { cls := .type "dict", data := .dict #[] }) h.objs.size (.dT []) :=
  ⟨Nat.zero_le _, beq_eq_false_iff_ne.mpr (Ne.symm (Nat.ne_of_lt hb)), [], .nil, _, #[], 0, Heap.get?_push_size _ rfl, ⟨rfl, rfl, rfl⟩, rfl, rfl, List.nodup_nil⟩
def tDNewT : TE := fun _ H Q => ∀ p, H p = none → Q (.ref p) (upd H p (.dT []))
section
variable {X : Cx} {pos : Pos}
theorem pe_dnewT : PE X (.Dict [] [] pos) tDNewT := fun pins s σ H Q I h =>
  wpAny_Dict_empty ⟨.ref s.heap.objs.size, _, I.laid (a := s.heap.objs.size) (o := .dT []) (t' := s.toks) (fun _ _ q => Heap.get?_push_of_some _ q) (Nat.le_refl _) (dt_empty s.heap I.big), rfl, h _ (I.hok.fresh (Nat.le_refl _))⟩
end

/-! ### methods -/
/-- a method call o.m(e) of a built-in, with one argument: what must be seen of the text -/
structure M1 (X : Cx) (o : Expr) (m : Str) (apos : Pos) (e : Expr) (cpos : Pos) : Prop where
  base : attributeBase o m X.env (eval o X.env) = eval o X.env
  few : ((backTo cpos (starEach [e] X.env)).all (fun x => !x.1) && (backToKw cpos (keywordEach [] X.env)).all (fun x => x.1.isSome)
    && decide (([e] : List Expr).length + ([] : List Keyword).length + (if ([] : List Keyword).isEmpty then 0 else 1) < 30)) = true
  line : (apos.endLine == cpos.line) = true
  trees : backTo cpos (starEach [e] X.env) = [(false, eval e X.env)]
structure M2 (X : Cx) (o : Expr) (m : Str) (apos : Pos) (e f : Expr) (cpos : Pos) : Prop where
  base : attributeBase o m X.env (eval o X.env) = eval o X.env
  few : ((backTo cpos (starEach [e, f] X.env)).all (fun x => !x.1) && (backToKw cpos (keywordEach [] X.env)).all (fun x => x.1.isSome)
    && decide (([e, f] : List Expr).length + ([] : List Keyword).length + (if ([] : List Keyword).isEmpty then 0 else 1) < 30)) = true
  line : (apos.endLine == cpos.line) = true
  trees : backTo cpos (starEach [e, f] X.env) = [(false, eval e X.env), (false, eval f X.env)]

/-- a is a dict, whatever its keys -/
def IsD (H : Hp) (a : Addr) : Prop := (∃ kvs, Rd H a (.dK kvs)) ∨ ∃ kvs, Rd H a (.dT kvs)
theorem isD_at {X : Cx} {pins : List (Addr × Obj)} {σ : St} {H : Hp} {s : Shared} {a : Addr} (I : Inv X pins σ H s) (d : IsD H a) :
    s.TypeIs (.ref a) "dict" ∧ (∀ b, Value.ref a = .ref b → ∃ ob, s.heap.get? b = some ob ∧ ob.dict = none) ∧ (a == sysModules) = false := by
  rcases d with ⟨kvs, e⟩ | ⟨kvs, e⟩
  · obtain ⟨_, hd, vs, _, dd⟩ := dk_rd I.hok e
    refine ⟨dd.typeIs, fun b q => ?_, hd⟩
    cases q
    obtain ⟨ob, _, _, h1, h2, _⟩ := dd
    exact ⟨ob, h1, h2.2.1⟩
  · obtain ⟨_, hd, xs, _, dd⟩ := dt_rd I.hok e
    refine ⟨dd.typeIs, fun b q => ?_, hd⟩
    cases q
    obtain ⟨ob, _, _, h1, h2, _⟩ := dd
    exact ⟨ob, h1, h2.2.1⟩

section
variable {X : Cx} {pins : List (Addr × Obj)} {σ : St} {H : Hp} {s : Shared} {a : Addr} {y d : V} {u r : Value} {o : Option V} {A : Around} {E : Value → Shared → Prop}
/-- d.get(y, x) -/
theorem d_get2 {Q : Value → Shared → Prop} (hu : A.units + 1 < cLine) (I : Inv X pins σ H s) (g : DGet H a y o) (ry : RelV y u) (rd : RelV d r) (h : ∀ w' s', Inv X pins σ H s' → RelV (o.getD d) w' → Q w' s') :
    wpAny (model X.prog X.w) A (call (.builtin "dict.get") [.ref a, u, r]) Q E s := by
  rcases g with ⟨kvs, k, e, ey, l⟩ | ⟨kvs, k, b, e, ey, eb, l⟩
  · subst ey
    obtain ⟨z, hd, vs, rel, dd⟩ := dk_rd I.hok e
    refine call_meetsIn PySem.F.slot_dict_get dd.typeIs PySem.F.entry_dict_get (PySem.F.args_dict_get_3 _ _ _) (meets_dict_get_default (mixKind X.prog X.w) a (kV_is ry) hd r) ⟨_, dd.mapOf, h _ _ (I.tok _) ?_⟩
    rw [l]
    exact (rel.val k).getD rd
  · subst ey
    cases (show u = Value.ref b from ry)
    obtain ⟨z, hd, xs, rel, dd⟩ := dt_rd I.hok e
    refine call_meetsIn PySem.F.slot_dict_get dd.typeIs PySem.F.entry_dict_get (PySem.F.args_dict_get_3 _ _ _) (meetsH_dict_get_default (tupleKind (mixKind X.prog X.w)) a b hd r) ⟨tupleKind_room_in1 hu, k, xs, key_of I.hok eb, dd, h _ _ (I.tok _) ?_⟩
    rw [l]
    exact (rel.val k).getD rd
end

def tDGet2 (td ty tx : TE) : TE := fun σ H Q => td σ H fun x H1 => ∃ a, x = .ref a ∧ IsD H1 a ∧ ty σ H1 fun y H2 => tx σ H2 fun z H3 => ∃ o, DGet H3 a y o ∧ Q (o.getD z) H3
section
variable {X : Cx} {o e f : Expr} {apos cpos : Pos} {td ty tx : TE}
theorem pe_dget2 (hu : X.A.units + 1 < cLine) (ho : PE X o td) (he : PE X e ty) (hf : PE X f tx) (m : M2 X o "get" apos e f cpos) : PE X (.Call (.Attribute o "get" apos) [e, f] [] cpos) (tDGet2 td ty tx) := by
  intro pins s σ H Q I h
  refine wpAny_Call_method m.base m.few m.line PySem.F.plainAttrs_dict PySem.F.slot_dict_get PySem.F.type_dict_get (thn (ho pins s σ H _ I h) fun u s1 ⟨x, H1, I1, rx, a, ex, d, q1⟩ => ?_)
  subst ex
  obtain rfl : u = Value.ref a := rx
  obtain ⟨t1, t2, _⟩ := isD_at I1 d
  refine ⟨t1, t2, ?_⟩
  rw [m.trees]
  refine Calls.callWith_builtin rfl (Calls.evalArgs_plain (Calls.spliced_cons (thn (he pins s1 σ H1 _ I1 q1) fun iv s2 ⟨y, H2, I2, ry, q2⟩ =>
    Calls.spliced_cons (thn (hf pins s2 σ H2 _ I2 q2) fun fv s3 ⟨z, H3, I3, rz, ov, g, q3⟩ => Calls.spliced_nil ?_))))
  exact d_get2 hu I3 g ry rz fun w' s4 I4 rw' => ⟨_, H3, I4, rw', q3⟩
end

/-! ### dict(d): a copy -/


end L2
namespace L2
open PySem PySem.Spec PyProof.Rows
/-! ### a dict's pairs: keys that differ -/
section
variable {κ : Type} [DecidableEq κ]
theorem valV_in {kvs : List (κ × V)} {k : κ} {v : V} (h : valV kvs k = some v) : k ∈ kvs.map (·.1) := by
  have q : (kvs.any fun kv => decide (kv.1 = k)) = true := by
    rw [valV_any, h]
    all_goals rfl
  obtain ⟨p, hp, e⟩ := List.any_eq_true.mp q
  exact List.mem_map.mpr ⟨p, hp, of_decide_eq_true e⟩
end
end L2
set_option Elab.async false
set_option linter.all false
set_option maxRecDepth 100000
namespace L2
open PySem PySem.Spec PyProof.Rows

/-! ### a comprehension's block: its context -/
def clOf (scope : Scope) (env : Env) : List (Str × Addr) :=
  (scope.names.filterMap fun (p : Str × NameKind) => if p.2 == .free then (env.cells.lookup p.1).map fun c => (p.1, c) else none).reverse
theorem closure_go (env : Env) : ∀ (l : List (Str × NameKind)) (acc : List (Str × Addr)), (∀ p ∈ l, p.2 = .free → ∃ c, env.cells.lookup p.1 = some c) →
    (forIn l acc fun (x : Str × NameKind) (r : List (Str × Addr)) => if (x.2 == NameKind.free) = true then do let c ← cellOf env x.1; pure (ForInStep.yield ((x.1, c) :: r)) else pure (ForInStep.yield r) : Sem (List (Str × Addr))) =
      pure ((l.filterMap fun (p : Str × NameKind) => if p.2 == .free then (env.cells.lookup p.1).map fun c => (p.1, c) else none).reverse ++ acc)
  | [], acc, _ => rfl
  | p :: l, acc, h => by
    have ih := fun acc => closure_go env l acc fun q hq => h q (List.mem_cons_of_mem _ hq)
    rw [List.forIn_cons]
    by_cases hp : p.2 = .free
    · obtain ⟨c, hc⟩ := h p List.mem_cons_self hp
      have e : (p.2 == NameKind.free) = true := by rw [hp]; rfl
      rw [if_pos e]
      have ec : cellOf env p.1 = pure c := by unfold cellOf; rw [hc]
      rw [ec, List.filterMap_cons, if_pos e, hc]
      show (forIn l ((p.1, c) :: acc) _ : Sem _) = _
      rw [ih]
      simp
    · have e : ¬ (p.2 == NameKind.free) = true := by intro z; exact hp (by simpa using z)
      rw [if_neg e, List.filterMap_cons, if_neg e]
      show (forIn l acc _ : Sem _) = _
      rw [ih]
theorem closure_of {scope : Scope} {env : Env} (h : ∀ p ∈ scope.names, p.2 = .free → ∃ c, env.cells.lookup p.1 = some c) : closureFor scope env = pure (clOf scope env) := by
  have e := closure_go env scope.names [] h
  rw [List.append_nil] at e
  show ((forIn scope.names [] fun (x : Str × NameKind) (r : List (Str × Addr)) => if (x.2 == NameKind.free) = true then do let c ← cellOf env x.1; pure (ForInStep.yield ((x.1, c) :: r)) else pure (ForInStep.yield r)) >>= fun cs => pure cs : Sem (List (Str × Addr))) = _
  rw [e]
  rfl
theorem cl_mem {scope : Scope} {env : Env} {x : Str} {c : Addr} (h : (x, c) ∈ clOf scope env) : (x, NameKind.free) ∈ scope.names ∧ env.cells.lookup x = some c := by
  unfold clOf at h
  obtain ⟨p, hp, e⟩ := List.mem_filterMap.mp (List.mem_reverse.mp h)
  obtain ⟨n, k⟩ := p
  dsimp only at e
  by_cases hk : (k == NameKind.free) = true
  · rw [if_pos hk] at e
    have hk' : k = .free := by simpa using hk
    subst hk'
    cases q : env.cells.lookup n with
    | none => rw [q] at e; cases e
    | some c' => rw [q] at e; cases e; exact ⟨hp, q⟩
  · rw [if_neg hk] at e; cases e
theorem cl_lookup {scope : Scope} {env : Env} {x : Str} {c : Addr} (hm : (x, NameKind.free) ∈ scope.names) (hc : env.cells.lookup x = some c) : (clOf scope env).lookup x = some c := by
  have hin : (x, c) ∈ clOf scope env := by
    unfold clOf
    refine List.mem_reverse.mpr (List.mem_filterMap.mpr ⟨(x, .free), hm, ?_⟩)
    simp [hc]
  cases q : (clOf scope env).lookup x with
  | none =>
    have := List.lookup_eq_none_iff.mp q (x, c) hin
    simp at this
  | some c' =>
    obtain ⟨_, e⟩ := cl_mem (PySem.mem_of_lookup q)
    rw [hc] at e
    exact e.symm

/-- what of a comprehension's scope must be true (all of it by looking) -/
structure CompScope (sc : Scope) (env : Scope) : Prop where
  kind : sc.kind = .function
  cell : ∀ y ∈ sc.names, y.2 ≠ .cell
  names : ∀ x ∈ sc.names, x.2 = .local → sc.names.lookup x.1 = some .local
  free : ∀ x ∈ sc.names, x.2 = .free → env.names.lookup x.1 = some .cell ∨ env.names.lookup x.1 = some .free
/-- the names of the block: the own ones, then those that are read from around, by their slots there -/
def capsOk (sc : Scope) (src : List (Option Nat)) (N' N : List Str) : Bool :=
  src.length == N'.length && (src.zip N').all fun p => match p.1 with
    | none => true
    | some j => N[j]? == some p.2 && sc.names.lookup p.2 == some .free
def capσ (src : List (Option Nat)) (σ : St) : St := src.map fun o => match o with
  | none => none
  | some j => match σ[j]? with
    | some v => v
    | none => none
theorem caps_at {sc : Scope} {N N' : List Str} {src : List (Option Nat)} (h : capsOk sc src N' N = true) {i : Nat} {x : Str} {j : Nat} (h1 : src[i]? = some (some j)) (h2 : N'[i]? = some x) : N[j]? = some x ∧ sc.names.lookup x = some .free := by
  unfold capsOk at h
  have h' := (Bool.and_eq_true _ _ ▸ h).2
  have hz : (src.zip N')[i]? = some (some j, x) := by rw [List.getElem?_zip_eq_some]; exact ⟨h1, h2⟩
  have q := List.all_eq_true.mp h' _ (List.mem_of_getElem? hz)
  simpa using q
theorem caps_len {sc : Scope} {N N' : List Str} {src : List (Option Nat)} (h : capsOk sc src N' N = true) : src.length = N'.length := by
  unfold capsOk at h
  have h' := (Bool.and_eq_true _ _ ▸ h).1
  simpa using h'

/-- the context of a comprehension's block -/
def cxC (X : Cx) (N' : List Str) (sc : Scope) (s : Shared) (H : Hp) (C : Addr) (fp : List Addr) (xe : Value → Shared → Prop) : Cx where
  prog := X.prog
  w := X.w
  K := X.K
  mg := X.mg
  base := X.base
  A := X.A
  N := N'
  s₀ := s
  H₀ := H
  env := compEnvC sc (clOf sc X.env) C X.env
  outer := X.stack
  stack := X.stack
  ex := fp
  fn := fun _ => false
  calm := X.calm
  pn := []
  xe := xe

theorem relabel_lookup {sc : Scope} {env : Env} {x : Str} : ∀ {names : List (Str × NameKind)},
    (names.map fun (p : Str × NameKind) => if (p.2 == NameKind.free && env.scope.kind == .function && env.kindOf p.1 == some .cell) then (p.1, NameKind.cell) else (p.1, p.2)).lookup x =
      (names.lookup x).map fun k => if (k == NameKind.free && env.scope.kind == .function && env.kindOf x == some .cell) then NameKind.cell else k
  | [] => rfl
  | (n, k) :: r => by
    have ih := @relabel_lookup sc env x r
    rw [List.map_cons]
    cases hx : x == n with
    | true =>
      have e : x = n := by simpa using hx
      subst e
      by_cases hc : (k == NameKind.free && env.scope.kind == .function && env.kindOf x == some .cell) = true
      · simp only [hc, if_true, List.lookup_cons, hx, Option.map_some]
      · simp only [hc, if_false, List.lookup_cons, hx, Option.map_some, Bool.false_eq_true]
    | false =>
      by_cases hc : (k == NameKind.free && env.scope.kind == .function && env.kindOf n == some .cell) = true
      · simp only [hc, if_true, List.lookup_cons, hx]; exact ih
      · simp only [hc, if_false, List.lookup_cons, hx, Bool.false_eq_true]; exact ih
theorem comp_kind {sc : Scope} {env : Env} {cl : List (Str × Addr)} {C : Addr} (x : Str) : (compEnvC sc cl C env).kindOf x =
    (sc.names.lookup x).map fun k => if (k == NameKind.free && env.scope.kind == .function && env.kindOf x == some .cell) then NameKind.cell else k :=
  relabel_lookup (sc := sc) (env := env)

section
variable {X : Cx} {pins : List (Addr × Obj)} {σ : St} {H : Hp} {s : Shared} {N' : List Str} {sc : Scope} {src : List (Option Nat)} {fp : List Addr} {xe : Value → Shared → Prop}
/-- entered: the block's namespace has just been laid at the heap's end -/
theorem comp_enter (I : Inv X pins σ H s) (S : CompScope sc X.env.scope) (hc : capsOk sc src N' X.N = true) (hf : ∀ b ∈ fp, FpOk X pins H b) (ho : ∀ b ∈ fp, ∃ o, s.heap.get? b = some o) {h₁ : Heap} {tk : Nat}
    (hn : h₁.Ns s.heap.objs.size (fun _ => none)) (hk : ∀ b o, s.heap.get? b = some o → h₁.get? b = some o) :
    Inv (cxC X N' sc s H s.heap.objs.size fp xe) [] (capσ src σ) H { s with heap := h₁, toks := tk } := by
  have cellmem : ∀ x c, (clOf sc X.env).lookup x = some c → X.env.cells.lookup x = some c := fun x c e => (cl_mem (PySem.mem_of_lookup e)).2
  have isfree : ∀ x, ((compEnvC sc (clOf sc X.env) s.heap.objs.size X.env).kindOf x = some .cell ∨ (compEnvC sc (clOf sc X.env) s.heap.objs.size X.env).kindOf x = some .free) → (x, NameKind.free) ∈ sc.names := fun x hx => by
    rw [comp_kind] at hx
    cases q : sc.names.lookup x with
    | none => rw [q] at hx; simp at hx
    | some k =>
      have hm := PySem.mem_of_lookup q
      by_cases hkf : k = .free
      · subst hkf; exact hm
      · have : (k == NameKind.free) = false := by simpa using hkf
        have e2 : (k == NameKind.free && X.env.scope.kind == .function && X.env.kindOf x == some .cell) = false := by rw [this]; rfl
        rw [q, Option.map_some, e2] at hx
        have hx' : (some k : Option NameKind) = some .cell ∨ (some k : Option NameKind) = some .free := hx
        rcases hx' with hx | hx
        · exact absurd (Option.some.inj hx) (S.cell _ hm)
        · exact absurd (Option.some.inj hx) hkf
  have has : ∀ x, (x, NameKind.free) ∈ sc.names → ∃ c, X.env.cells.lookup x = some c := fun x hm => I.ok.has x (S.free _ hm rfl)
  refine ⟨⟨I.ok.mod, S.kind, I.ok.glob, I.ok.blt, Nat.le_refl _, fun x y c h1 h2 => I.ok.inj x y c (cellmem x c h1) (cellmem y c h2), fun x hx => ?_, fun x c hfn _ => ?_, I.ok.hd, I.ok.frames, .inl rfl, fun b hb => ⟨?_, fun x c e => ?_⟩, I.bs, Nat.le_trans I.ok.bsz I.sz, fun b o e hb => ?_, fun b hb hs => ?_, I.stack, I.stkFree⟩,
    rfl, I.bare, Un.kept hk, ⟨_, hn, fun i x v h1 h2 h3 => ?_⟩, fun x c e => ?_, I.hok.fresh (Nat.le_refl _), fun x c e => I.freeC x c (cellmem x c e), fun p hp => absurd (show p ∈ ([] : List (Addr × Obj)) from hp) (by simp), I.hok.kept hk, ?_⟩
  · obtain ⟨c, e⟩ := has x (isfree x hx)
    exact ⟨c, cl_lookup (isfree x hx) e⟩
  · exact absurd (show false = true from hfn) (by simp)
  · obtain ⟨o, e⟩ := ho b hb
    exact Nat.ne_of_lt (Heap.lt_size e)
  · exact (hf b hb).2.2.2.2.1 x c (cellmem x c e)
  · rcases (hf b hb).2.2.2.1 with z | z
    · exact I.ok.noex b o e z
    · exact absurd (Nat.lt_of_lt_of_le (Heap.lt_size e) (Nat.le_trans I.ok.bsz z)) (Nat.lt_irrefl _)
  · rcases List.mem_cons.mp (I.stkSub b hs) with z | z
    · exact (hf b hb).2.1 z
    · exact (hf b hb).2.2.1 z
  · -- a captured name
    have h2' : (capσ src σ)[i]? = some (some v) := h2
    unfold capσ at h2'
    rw [List.getElem?_map] at h2'
    cases q : src[i]? with
    | none => rw [q] at h2'; cases h2'
    | some o =>
      rw [q] at h2'
      cases o with
      | none => simp at h2'
      | some j =>
        obtain ⟨hj, hfr⟩ := caps_at hc q h1
        have hσ : σ[j]? = some (some v) := by
          simp only [Option.map_some, Option.some.injEq] at h2'
          cases r : σ[j]? with
          | none => rw [r] at h2'; cases h2'
          | some w => rw [r] at h2'; rw [← h2']
        have hm := PySem.mem_of_lookup hfr
        have hout := S.free _ hm rfl
        obtain ⟨m, _, hl⟩ := I.loc
        obtain ⟨u, ru, lk⟩ := hl j x v hj hσ (Or.inr hout)
        refine ⟨u, ru, .inr ⟨?_, ?_⟩⟩
        · show (compEnvC sc (clOf sc X.env) s.heap.objs.size X.env).kindOf x = some .cell ∨ (compEnvC sc (clOf sc X.env) s.heap.objs.size X.env).kindOf x = some .free
          rw [comp_kind, hfr]
          by_cases z : (NameKind.free == NameKind.free && X.env.scope.kind == .function && X.env.kindOf x == some .cell) = true
          · exact .inl (by simp only [Option.map_some, z, if_true])
          · exact .inr (by simp only [Option.map_some, z, if_false, Bool.false_eq_true])
        · rcases lk with ⟨z, _⟩ | ⟨_, c, e, z⟩
          · have z' : X.env.scope.names.lookup x = some .local := z
            rcases hout with y | y <;> (rw [z'] at y; cases y)
          · obtain ⟨oc, hoc, hd⟩ := z
            exact ⟨c, cl_lookup hm e, oc, hk c oc hoc, hd⟩
  · obtain ⟨v, oc, hoc, hd⟩ := I.cell x c (cellmem x c e)
    exact ⟨v, oc, hk c oc hoc, hd⟩
  · show (capσ src σ).length = N'.length
    unfold capσ
    rw [List.length_map]
    exact caps_len hc
/-- left: the block's end is a state of the def's body again; the namespace may still be changed -/
theorem comp_leave {H' : Hp} {σ' : St} {s' : Shared} (I : Inv X pins σ H s) (hf : ∀ b ∈ fp, FpOk X pins H b) (I' : Inv (cxC X N' sc s H s.heap.objs.size fp xe) [] σ' H' s') : Inv X pins σ H' s' :=
  I.call' I'.os I'.base I'.hok I'.bare fun b hb => ⟨(hf b hb).2.2.2.1, (hf b hb).2.1, (hf b hb).2.2.2.2.1, (hf b hb).2.2.2.2.2⟩
theorem comp_ns {H' : Hp} {σ' : St} {s' : Shared} (I' : Inv (cxC X N' sc s H s.heap.objs.size fp xe) [] σ' H' s') : ∃ m, s'.heap.Ns s.heap.objs.size m := let ⟨m, hn, _⟩ := I'.loc; ⟨m, hn⟩
theorem comp_gone {H1 : Hp} {σ1 : St} {s1 : Shared} {h' : Heap} (I : Inv X pins σ H s) (I1 : Inv X pins σ1 H1 s1) (hn : H1 s.heap.objs.size = none) (hs : Heap.SameBut s.heap.objs.size s1.heap h') : Inv X pins σ1 H1 { s1 with heap := h' } := by
  obtain ⟨f0, f1, f2, f3, f4, f5⟩ := I.fpOk (H' := H1) (Nat.le_refl _) hn
  exact I1.turned (t' := s1.toks) (fun b o hb e => (hs.2 b hb).trans e) f0 f1 f3 f4 f5
end
end L2
set_option Elab.async false
set_option linter.all false
set_option maxRecDepth 100000
namespace L2
open PySem PySem.Spec PyProof.Rows

/-! ### a comprehension's loop -/
/-- what a turn gives over: the values of the second where the first one has any -/
def Keeps2 : St → St → Prop
  | [], [] => True
  | none :: r, _ :: r' => Keeps2 r r'
  | some v :: r, u :: r' => u = some v ∧ Keeps2 r r'
  | _, _ => False
theorem Keeps2.len : ∀ {a b : St}, Keeps2 a b → a.length = b.length
  | [], [], _ => rfl
  | [], _ :: _, h => h.elim
  | none :: _, [], h => h.elim
  | some _ :: _, [], h => h.elim
  | none :: r, _ :: r', h => by
    have h' : Keeps2 r r' := h
    rw [List.length_cons, List.length_cons, h'.len]
  | some v :: r, u :: r', h => by
    have h' : u = some v ∧ Keeps2 r r' := h
    rw [List.length_cons, List.length_cons, h'.2.len]
theorem Keeps2.get : ∀ {a b : St}, Keeps2 a b → ∀ (i : Nat) (v : V), a[i]? = some (some v) → b[i]? = some (some v)
  | [], [], _, i, v, e => by simp at e
  | [], _ :: _, h, _, _, _ => h.elim
  | none :: _, [], h, _, _, _ => h.elim
  | some _ :: _, [], h, _, _, _ => h.elim
  | none :: r, _ :: r', h, 0, v, e => by simp at e
  | none :: r, _ :: r', h, i + 1, v, e => by
    have h' : Keeps2 r r' := h
    simpa using h'.get i v (by simpa using e)
  | some w :: r, u :: r', h, 0, v, e => by
    have h' : u = some w ∧ Keeps2 r r' := h
    simp at e
    subst e
    simp [h'.1]
  | some w :: r, u :: r', h, i + 1, v, e => by
    have h' : u = some w ∧ Keeps2 r r' := h
    simpa using h'.2.get i v (by simpa using e)

/-- the tests of a clause -/
def PIfs (X : Cx) (cs : List Expr) (t : TT) : Prop :=
  ∀ (pins : List (Addr × Obj)) (s : Shared) (σ : St) (H : Hp) (Q : Bool → Hp → Prop), Inv X pins σ H s → t σ H Q →
    wpAny (model X.prog X.w) X.A (forIn cs true fun c r => if r = true then do let ok ← isTrue c X.env (eval c X.env); pure (ForInStep.yield ok) else pure (ForInStep.yield r)) (TP X pins σ Q) X.xe s
def tIf0 : TT := fun _ H Q => Q true H
theorem pif0 {X : Cx} : PIfs X [] tIf0 := fun _ _ _ H _ I h => wpAny_tests_nil ⟨H, I, h⟩
/-- what a turn does with what it has made -/
abbrev TM := St → Hp → (Hp → Prop) → Prop
def PEm (X : Cx) (m : Sem Unit) (t : TM) : Prop :=
  ∀ (pins : List (Addr × Obj)) (s : Shared) (σ : St) (H : Hp) (Q : Hp → Prop), Inv X pins σ H s → t σ H Q →
    wpAny (model X.prog X.w) X.A m (fun _ s' => ∃ H', Inv X pins σ H' s' ∧ Q H') X.xe s
/-- one turn -/
def turnOf (tg : Expr) (ipos : Pos) (ifs : List Expr) (it : Value) (env : Env) (cont : Sem Unit) (more : Sem Fin) : Sem Fin := do
  standAt ipos
  match ← pyNext it with
  | none => pure (.done .next)
  | some v =>
    letOwnedTupleGo tg it v
    assign tg env v
    let mut ok := true
    for c in ifs do
      if ok then ok ← isTrue c env (eval c env)
    if ok then cont
    more
/-- W: by the turn and a measure; σ0: what each turn begins with -/
def tComp (J : It) (σ0 : St) (g : TG) (tifs : TT) (tm : TM) (Z : Hp → Prop) (H : Hp) : Prop :=
  ∃ W : Nat → Nat → Hp → Prop, (∃ m, W 0 m H) ∧ ∀ i m H, W i m H → (J.stop i H ∧ Z H) ∨
    (J.go i H ∧ ∀ x H', J.yld i H x H' → g x σ0 H' fun σ2 H2 => tifs σ2 H2 fun b H3 =>
      if b = true then tm σ2 H3 fun H4 => Keeps2 σ0 σ2 ∧ ∃ m', m' < m ∧ W (i + 1) m' H4 else Keeps2 σ0 σ2 ∧ ∃ m', m' < m ∧ W (i + 1) m' H3)

section
variable {X : Cx} {e tg : Expr} {ipos : Pos} {ifs : List Expr} {depth : Nat} {acc : Value} {cont : Sem Unit} {it : Addr} {fp : List Addr} {tn : Nat → Heap → Prop} {J : It} {g : TG} {tifs : TT} {tm : TM} {σ0 : St} {Z : Hp → Prop} {R : Result → Shared → Prop}
theorem comp_loop (hX : X.xe = notedBy (model X.prog X.w) X.A X.env fun e s' => R (.error e) s')
    (heq : compTurn e depth (.ref it) acc X.env = turnOf tg ipos ifs (.ref it) X.env cont (again (.compLoop e depth (.ref it) acc X.env)))
    (hq : (Code.compLoop e depth (.ref it) acc X.env).quiet = true) (hA : X.A.under (.compLoop e depth (.ref it) acc X.env) = X.A) (hF : (Code.compLoop e depth (.ref it) acc X.env).isFrame = false)
    (hc : X.calm = true) (T : Turn X.prog X.w X.K tg J fp it tn) (hg : PG X tg g) (hif : PIfs X ifs tifs) (hm : PEm X cont tm)
    {pins : List (Addr × Obj)} {H : Hp} {s : Shared} (hf : ∀ b ∈ fp, FpOk X pins H b) (I : Inv X pins σ0 H s) (st : tn 0 s.heap)
    (hZ : ∀ H' s', Inv X pins σ0 H' s' → (∀ b ∈ fp, H' b = none) → Z H' → R (.ok .next) s') (h : tComp J σ0 g tifs tm Z H) :
    codeAny (model X.prog X.w) X.A (.compLoop e depth (.ref it) acc X.env) R s := by
  obtain ⟨W, ⟨m0, w0⟩, turn⟩ := h
  have stat : ∀ {H' : Hp}, (∀ b ∈ fp, H' b = none) → ∀ b ∈ fp, FpOk X pins H' b := fun hn b hb => ⟨hn b hb, (hf b hb).2⟩
  refine codeAny_loop hq (fun n s' => ∃ i H', Inv X pins σ0 H' s' ∧ tn i s'.heap ∧ (∀ b ∈ fp, H' b = none) ∧ W i n H') ?_ m0 ⟨0, H, I, st, fun b hb => (hf b hb).1, w0⟩
  rintro n s3 ⟨i, H3, I3, st3, fr3, w3⟩
  rw [hA]
  have hden : (model X.prog X.w).den (.compLoop e depth (.ref it) acc X.env) = (compTurn e depth (.ref it) acc X.env).onRaise (fun x => do noteFrame x X.env; theTreesLotGoes x) := by
    show (if (Code.compLoop e depth (.ref it) acc X.env).isFrame then _ else _) = _
    rw [if_neg (by rw [hF]; decide)]
  rw [hden]
  refine wpAny_noted ?_
  rw [← hX, heq]
  unfold turnOf
  refine wpAny_bind (wpAny_standAt ?_)
  have again' : ∀ {σ7 : St} {H7 : Hp} {s5 s7 : Shared}, tn (i + 1) s5.heap → Inv X (pins ++ pinsAt fp s5.heap) σ7 H7 s7 → Keeps2 σ0 σ7 → (∃ m', m' < n ∧ W (i + 1) m' H7) →
      ∃ m, m < n ∧ ∃ i H', Inv X pins σ0 H' s7 ∧ tn i s7.heap ∧ (∀ b ∈ fp, H' b = none) ∧ W i m H' := fun {σ7 H7 s5 s7} st5 I7 k7 ⟨m', hm', w7⟩ => by
    refine ⟨m', hm', i + 1, H7, I7.unpinned.weak k7.len k7.get, T.keep _ _ _ st5 fun b hb o e => (I7.pin (b, o) (List.mem_append_right _ (List.mem_append_right _ (mem_pinsAt hb e)))).1, fun b hb => ?_, w7⟩
    obtain ⟨o, e, d⟩ := T.obj _ _ st5 b hb
    exact (I7.pin (b, o) (List.mem_append_right _ (List.mem_append_right _ (mem_pinsAt hb e)))).2.1
  rcases turn i n H3 w3 with ⟨stop, qn⟩ | ⟨go, step⟩
  · refine wpAny_bind (thn (T.done X rfl rfl rfl hc i pins s3 σ0 H3 X.xe I3 (stat fr3) st3 stop) fun r s4 ⟨hr, I4⟩ => ?_)
    subst hr
    exact wpAny_pure (hZ H3 s4 I4 fr3 qn)
  · refine wpAny_bind (thn (T.item X rfl rfl rfl hc i pins s3 σ0 H3 X.xe I3 (stat fr3) st3 go) fun r s4 ⟨u, hr, h4⟩ => ?_)
    subst hr
    refine wpAny_bind (thn h4 fun _ s5 ⟨x, H5, I5, r5, y5, st5, fr5⟩ => ?_)
    have I5' := I5.pinned (stat fr5) (T.obj _ _ st5)
    refine wpAny_bind (thn (hg _ s5 σ0 H5 x u _ I5' r5 (step x H5 y5)) fun _ s6 ⟨σ6, H6, I6, q6⟩ => ?_)
    refine wpAny_bind (thn (hif _ s6 σ6 H6 _ I6 q6) fun b s7 ⟨H7, I7, q7⟩ => ?_)
    cases b with
    | false =>
      obtain ⟨k7, w7⟩ := q7
      exact wpAny_pure ⟨rfl, again' st5 I7 k7 w7⟩
    | true =>
      refine wpAny_bind (thn (hm _ s7 σ6 H7 _ I7 q7) fun _ s8 ⟨H8, I8, k8, w8⟩ => ?_)
      exact wpAny_pure ⟨rfl, again' st5 I8 k8 w8⟩
end
end L2
set_option Elab.async false
set_option linter.all false
set_option maxRecDepth 100000
namespace L2
open PySem PySem.Spec PyProof.Rows

/-- what a comprehension needs of its kind: its loop's turn and its start -/
structure CompKind (P : Program) (w : World) (A : Around) (e : Expr) (tg iter : Expr) (ifs : List Expr) (emit : Addr → Env → Sem Unit) : Prop where
  cl : clausesOf e = [⟨tg, iter, ifs, 0⟩]
  turn : ∀ it D env, compTurn e 0 (.ref it) (.ref D) env = turnOf tg iter.pos ifs (.ref it) env (emit D env) (again (.compLoop e 0 (.ref it) (.ref D) env))
  start : ∀ (R : Result → Shared → Prop) (s : Shared) (it acc : Value) (env : Env), codeAny (model P w) A (.compLoop e 0 it acc env) R s →
    wpAny (model P w) A (pyIter it) (fun it' s' => codeAny (model P w) A (.compLoop e 0 it' acc env) R s') (notedBy (model P w) A env fun x s' => R (.error x) s') s → codeAny (model P w) A (.compStart e 0 it acc env) R s
  quiet : ∀ it acc env, (Code.compLoop e 0 it acc env).quiet = true
  under : ∀ it acc env, A.under (.compLoop e 0 it acc env) = A
  frame : ∀ it acc env, (Code.compLoop e 0 it acc env).isFrame = false

theorem ck_list {P : Program} {w : World} {A : Around} {elt tg iter : Expr} {ifs : List Expr} {sc : Scope} {pos : Pos} :
    CompKind P w A (.ListComp elt [⟨tg, iter, ifs, 0⟩] sc pos) tg iter ifs (fun D env => do let _ ← call (.builtin "list.append") [.ref D, ← eval elt env]) where
  cl := rfl
  turn := fun it D env => by rw [compTurn_list]; rfl
  start := fun R s it acc env h0 h => codeAny_compStart_list h0 h
  quiet := fun _ _ _ => rfl
  under := fun _ _ _ => rfl
  frame := fun _ _ _ => rfl
section
variable {X : Cx} {e tg iter : Expr} {ifs : List Expr} {emit : Addr → Env → Sem Unit} {sc : Scope} {pos : Pos} {wi : TI} {N' : List Str} {src : List (Option Nat)} {g : TG} {tifs : TT} {tm : Addr → TM} {newAcc : Sem Value} {ob : Obj} {accO : HO}
/-- a comprehension: the accumulator at D (it begins as accO) -/
def tCompE (src : List (Option Nat)) (accO : HO) (wi : TI) (g : TG) (tifs : TT) (tm : Addr → TM) : TE :=
  fun σ H Q => wi σ H fun J H1 => ∀ D, H1 D = none → tComp J (capσ src σ) g tifs (tm D) (fun H' => Q (.ref D) H') (upd H1 D accO)
/-- the accumulator that is laid -/
structure AccNew (X : Cx) (newAcc : Sem Value) (ob : Obj) (accO : HO) : Prop where
  new : ∀ (s : Shared) (Q : Value → Shared → Prop) (E : Value → Shared → Prop), Q (.ref s.heap.objs.size) { s with heap := s.heap.push ob } → wpAny (model X.prog X.w) X.A newAcc Q E s
  live : ob.isFreed = false
  ok : ∀ (pins : List (Addr × Obj)) (σ : St) (H : Hp) (s : Shared), Inv X pins σ H s → ObjOk X.prog X.w (upd H s.heap.objs.size accO) (s.heap.push ob) s.heap.objs.size accO

theorem comp_run {use : Option (Value → Sem Unit)} {Q' : Value → Shared → Prop} (K : CompKind X.prog X.w X.A e tg iter ifs emit) (hc : X.calm = true) (S : CompScope sc X.env.scope) (hcap : capsOk sc src N' X.N = true) (hi : PI X tg iter wi)
    (hb : ∀ s H C fp xe D, PG (cxC X N' sc s H C fp xe) tg g ∧ PIfs (cxC X N' sc s H C fp xe) ifs tifs ∧ PEm (cxC X N' sc s H C fp xe) (emit D (cxC X N' sc s H C fp xe).env) (tm D)) (N : AccNew X newAcc ob accO)
    (hs : ∀ x, foldedSetIterable iter X.env x = pure x)
    {pins : List (Addr × Obj)} {s : Shared} {σ : St} {H : Hp} {Q : VK} (I : Inv X pins σ H s) (h : tCompE src accO wi g tifs tm σ H Q)
    (hQ : ∀ (C D : Addr) (H' : Hp) (s' : Shared), Inv X pins σ H' s' → Q (.ref D) H' → H' C = none → (∃ m, s'.heap.Ns C m) → (∀ (σ1 : St) (H1 : Hp) (s1 : Shared) (h' : Heap), Inv X pins σ1 H1 s1 → H1 C = none → Heap.SameBut C s1.heap h' → Inv X pins σ1 H1 { s1 with heap := h' }) →
      (C ≠ X.env.locals ∧ ∀ x c, X.env.cells.lookup x = some c → c ≠ C) → compPost (model X.prog X.w) X.A X.xe use Q' (.ref D) C (.ok .next) s') :
    wpAny (model X.prog X.w) X.A (comprehension e sc X.env pos newAcc false (eval iter X.env) use) Q' X.xe s := by
  refine wpAny_comprehension_free (g := ⟨tg, iter, ifs, 0⟩) (gs := []) K.cl hs (closure_of fun p hp hf => I.ok.has p.1 (S.free p hp hf)) S.kind S.names ?_
  refine thn (hi pins s σ H _ I h) fun v s1 h1 => thn h1 fun itv s2 h2 => ?_
  obtain ⟨it, fp, tn, J, H2, e1, I2, T, st2, f2, q2⟩ := h2
  subst e1
  refine N.new s2 _ _ ?_
  have hD : H2 s2.heap.objs.size = none := I2.hok.fresh (Nat.le_refl _)
  have hk3 : ∀ b o, s2.heap.get? b = some o → (s2.heap.push ob).get? b = some o := fun b o e => Heap.get?_push_of_some _ e
  have I3 : Inv X pins σ (upd H2 s2.heap.objs.size accO) { s2 with heap := s2.heap.push ob } := I2.laid (t' := s2.toks) hk3 (Nat.le_refl _) (N.ok pins σ H2 s2 I2)
  have st3 : tn 0 (s2.heap.push ob) := T.keep _ _ _ st2 fun b _ o e => hk3 b o e
  have ob3 : ∀ b ∈ fp, ∃ o, (s2.heap.push ob).get? b = some o := fun b hb => let ⟨o, e, _⟩ := T.obj _ _ st3 b hb; ⟨o, e⟩
  have f3 : ∀ b ∈ fp, FpOk X pins (upd H2 s2.heap.objs.size accO) b := fun b hb => by
    refine ⟨?_, (f2 b hb).2⟩
    obtain ⟨o, e, _⟩ := T.obj _ _ st2 b hb
    rw [upd_ne (Nat.ne_of_lt (Heap.lt_size e))]
    exact (f2 b hb).1
  have qq := q2 s2.heap.objs.size hD
  generalize hs3 : ({ s2 with heap := s2.heap.push ob } : Shared) = s3 at I3 ⊢
  have hh3 : s2.heap.push ob = s3.heap := by rw [← hs3]
  rw [hh3] at st3 ob3
  generalize s2.heap.objs.size = D at I3 f3 qq hD ⊢
  refine wpAny_newFunctionEnv S.cell (by intro y hy; simp at hy) (fun h₁ hns hsb => ?_) S.kind
  have hns' : h₁.Ns s3.heap.objs.size (fun _ => none) := hns
  have hk4 : ∀ b o, s3.heap.get? b = some o → h₁.get? b = some o := fun b o e => hsb.extBut b o (Nat.ne_of_lt (Heap.lt_size e)) (Heap.get?_push_of_some _ e)
  -- the block
  let R : Result → Shared → Prop := compPost (model X.prog X.w) X.A X.xe use Q' (.ref D) s3.heap.objs.size
  let X' : Cx := cxC X N' sc s3 (upd H2 D accO) s3.heap.objs.size fp (notedBy (model X.prog X.w) X.A (compEnvC sc (clOf sc X.env) s3.heap.objs.size X.env) fun e s' => R (.error e) s')
  have I4 : Inv X' [] (capσ src σ) (upd H2 D accO) { s3 with heap := h₁, toks := s3.toks + ([] : List (Str × Value)).length } := comp_enter I3 S hcap f3 ob3 hns' hk4
  have st4 : tn 0 h₁ := T.keep _ _ _ st3 fun b _ o e => hk4 b o e
  obtain ⟨hg, hif, hm⟩ := hb s3 (upd H2 D accO) s3.heap.objs.size fp (notedBy (model X.prog X.w) X.A (compEnvC sc (clOf sc X.env) s3.heap.objs.size X.env) fun e s' => R (.error e) s') D
  have f4 : ∀ b ∈ fp, FpOk X' [] (upd H2 D accO) b := fun b hb => by
    obtain ⟨g0, g1, g2, g3, g4, g5⟩ := f3 b hb
    refine ⟨g0, ?_, ?_, .inl hb, fun x c e => ?_, fun p hp => absurd (show p ∈ ([] : List (Addr × Obj)) from hp) (by simp)⟩
    · obtain ⟨o, e⟩ := ob3 b hb
      exact Nat.ne_of_lt (Heap.lt_size e)
    · intro z
      rcases List.mem_cons.mp (I3.stkSub b z) with y | y
      · exact g1 y
      · exact g2 y
    · exact g4 x c (cl_mem (PySem.mem_of_lookup e)).2
  have fpC : FpOk X pins (upd H2 D accO) s3.heap.objs.size := I3.fpOk (Nat.le_refl _) (I3.hok.fresh (Nat.le_refl _))
  have loop : ∀ s4 : Shared, s4 = { s3 with heap := h₁, toks := s3.toks + ([] : List (Str × Value)).length } → codeAny (model X.prog X.w) X.A (.compLoop e 0 (.ref it) (.ref D) X'.env) R s4 := by
    rintro s4 rfl
    refine comp_loop (X := X') (Z := fun H' => Q (.ref D) H') rfl (K.turn it D X'.env) (K.quiet _ _ _) (K.under _ _ _) (K.frame _ _ _) hc T hg hif hm f4 I4 st4 (fun H' s' I' _ z => ?_) qq
    refine hQ s3.heap.objs.size D H' s' (comp_leave I3 f3 I') z I'.free (comp_ns I') (fun σ1 H1 s1 h' I1 n1 hs1 => comp_gone I3 I1 n1 hs1) ⟨fpC.2.1, fun x c e => fpC.2.2.2.2.1 x c e⟩
  exact K.start R _ (.ref it) (.ref D) X'.env (loop _ rfl) (T.self X.A 0 _ _ _ st4 (loop _ rfl))

/-- as an expression -/
theorem pe_comp (K : CompKind X.prog X.w X.A e tg iter ifs emit) (hc : X.calm = true) (S : CompScope sc X.env.scope) (hcap : capsOk sc src N' X.N = true) (hi : PI X tg iter wi)
    (hb : ∀ s H C fp xe D, PG (cxC X N' sc s H C fp xe) tg g ∧ PIfs (cxC X N' sc s H C fp xe) ifs tifs ∧ PEm (cxC X N' sc s H C fp xe) (emit D (cxC X N' sc s H C fp xe).env) (tm D)) (N : AccNew X newAcc ob accO)
    (hs : ∀ x, foldedSetIterable iter X.env x = pure x) (he : eval e X.env = comprehension e sc X.env pos newAcc false (eval iter X.env)) : PE X e (tCompE src accO wi g tifs tm) := by
  intro pins s σ H Q I h
  rw [he]
  refine comp_run (use := none) (Q := Q) K hc S hcap hi hb N hs I h fun C D H' s' I' q hn ⟨m, hm⟩ gone _ => ?_
  exact ⟨m, hm, fun h' hs' => ⟨.ref D, H', gone σ H' s' h' I' hn hs', rfl, q⟩⟩
/-- as name = [..], where the store comes ahead of the variables' end -/
theorem ps_comp {i : Nat} {x : Str} {pos' pos2 : Pos} (K : CompKind X.prog X.w X.A e tg iter ifs emit) (hc : X.calm = true) (S : CompScope sc X.env.scope) (hcap : capsOk sc src N' X.N = true) (hi : PI X tg iter wi)
    (hb : ∀ s H C fp xe D, PG (cxC X N' sc s H C fp xe) tg g ∧ PIfs (cxC X N' sc s H C fp xe) ifs tifs ∧ PEm (cxC X N' sc s H C fp xe) (emit D (cxC X N' sc s H C fp xe).env) (tm D)) (N : AccNew X newAcc ob accO)
    (hs : ∀ x, foldedSetIterable iter X.env x = pure x) (he : ∀ u, evalThenUse e X.env u = (do let _ ← comprehension e sc X.env pos newAcc false (eval iter X.env) (some u)))
    (hN : X.N.Nodup) (hix : X.N[i]? = some x) (hx : Loc X.env.scope x) (hsw : swapsWith e (some (.Name x pos')) pos2.line X.env = pure true)
    (hf : X.fn x = true ∨ X.env.scope.names.lookup x = some .local := by first | exact .inl rfl | exact .inr rfl | assumption) :
    PS X (.Assign [.Name x pos'] e pos2) (tAsg (tCompE src accO wi g tifs tm) (gName i)) := by
  intro pins s σ H D0 I h
  rw [exec_Assign_Name_used x pos' e pos2 hsw, he]
  refine wpAny_bind (wpAny_standAt (wpAny_bind (wpAny_bind ?_)))
  refine comp_run (use := some (assign (.Name x pos') X.env)) (Q := fun v H' => D0.nx (σ.set i (some v)) H') (Q' := fun _ s' => wpAny _ _ _ _ _ s') K hc S hcap hi hb N hs I h fun C D H' s' I' q hn ⟨m, hm⟩ gone ⟨hCL, hCc⟩ => ?_
  refine wpAny_assign_Name (store_ok2 (v := .ref D) I' hN hix hx rfl (fun s2 I2 hch => ?_) hf)
  obtain ⟨a, hsb, ha⟩ := hch
  have hne : C ≠ a := by
    rcases ha with z | z
    · rw [z]; exact hCL
    · exact (hCc x a z).symm
  refine ⟨m, hm.sameBut hsb hne, fun h' hs' => ?_⟩
  exact wpAny_pure (wpAny_pure ⟨_, H', gone _ H' s2 h' I2 hn hs', q⟩)
end

section
variable {X : Cx} {elt kx vx : Expr} {te tk tv : TE}
/-- the element is put behind the list at D -/
def mApp (te : TE) (D : Addr) : TM := fun σ H K => te σ H fun y H1 => ∃ ys, H1 D = some (.lst ys) ∧ ys.length < sizeLine ∧ K (upd H1 D (.lst (ys ++ [y])))
theorem pm_app (h : PE X elt te) (D : Addr) : PEm X (do let _ ← call (.builtin "list.append") [.ref D, ← eval elt X.env]) (mApp te D) := by
  intro pins s σ H Q I q
  refine wpAny_bind (thn (h pins s σ H _ I q) fun u s1 ⟨y, H1, I1, ru, ys, e, z, k⟩ => ?_)
  refine wpAny_bind (thn (mt_append pins s1 σ H1 (.ref D) [y] (.ref D) [u] (fun _ H' => Q H') I1 rfl (.cons ru .nil) ⟨D, ys, y, rfl, rfl, e, z, k⟩) fun r s2 ⟨v, H2, I2, _, k2⟩ => ?_)
  exact wpAny_pure ⟨H2, I2, k2⟩
theorem acc_list : AccNew X (newList []) { cls := .type "list", data := .seq #[] } (.lst []) where
  new := fun s Q E h => wpAny_newObj_type h
  live := rfl
  ok := fun pins σ H s I => ⟨Nat.zero_le _, [], 0, .nil, Heap.get?_push_size _ rfl⟩
end

/-! ### the rules one uses -/
section
variable {X : Cx} {elt kx vx tg iter : Expr} {ifs : List Expr} {sc : Scope} {pos : Pos} {wi : TI} {N' : List Str} {src : List (Option Nat)} {g : TG} {tifs : TT} {te tk tv : TE}
/-- [elt for tg in iter if ..] -/
theorem pe_lc (src : List (Option Nat)) (N' : List Str) (hc : X.calm = true) (S : CompScope sc X.env.scope) (hcap : capsOk sc src N' X.N = true) (hi : PI X tg iter wi)
    (hb : ∀ s H C fp xe, PG (cxC X N' sc s H C fp xe) tg g ∧ PIfs (cxC X N' sc s H C fp xe) ifs tifs ∧ PE (cxC X N' sc s H C fp xe) elt te)
    (hs : ∀ x, foldedSetIterable iter X.env x = pure x := by intro _; rfl) : PE X (.ListComp elt [⟨tg, iter, ifs, 0⟩] sc pos) (tCompE src (.lst []) wi g tifs (mApp te)) :=
  pe_comp ck_list hc S hcap hi (fun s H C fp xe D => ⟨(hb s H C fp xe).1, (hb s H C fp xe).2.1, pm_app (hb s H C fp xe).2.2 D⟩) acc_list hs rfl
/-- x = [elt for tg in iter if ..] on one row, x a plain local -/
theorem ps_lc {i : Nat} {x : Str} {pos' pos2 : Pos} (src : List (Option Nat)) (N' : List Str) (hc : X.calm = true) (S : CompScope sc X.env.scope) (hcap : capsOk sc src N' X.N = true) (hi : PI X tg iter wi)
    (hb : ∀ s H C fp xe, PG (cxC X N' sc s H C fp xe) tg g ∧ PIfs (cxC X N' sc s H C fp xe) ifs tifs ∧ PE (cxC X N' sc s H C fp xe) elt te)
    (hN : X.N.Nodup) (hix : X.N[i]? = some x) (hx : Loc X.env.scope x) (hsw : swapsWith (.ListComp elt [⟨tg, iter, ifs, 0⟩] sc pos) (some (.Name x pos')) pos2.line X.env = pure true := by rfl)
    (hs : ∀ x, foldedSetIterable iter X.env x = pure x := by intro _; rfl) (hf : X.fn x = true ∨ X.env.scope.names.lookup x = some .local := by first | exact .inl rfl | exact .inr rfl | assumption) :
    PS X (.Assign [.Name x pos'] (.ListComp elt [⟨tg, iter, ifs, 0⟩] sc pos) pos2) (tAsg (tCompE src (.lst []) wi g tifs (mApp te)) (gName i)) :=
  ps_comp ck_list hc S hcap hi (fun s H C fp xe D => ⟨(hb s H C fp xe).1, (hb s H C fp xe).2.1, pm_app (hb s H C fp xe).2.2 D⟩) acc_list hs (fun _ => rfl) hN hix hx hsw hf
end

/-! ### the forms one uses: Pv D i H, by the turn -/
section
variable {K : PySem.W.Frag} {a : Addr} {xs : List V} {g : TG} {tifs : TT} {tm : TM} {σ0 : St} {Z : Hp → Prop} {H : Hp}
theorem comp_by (n : Nat) {J : It} (Pv : Nat → Hp → Prop) (h0 : Pv 0 H) (hgo : ∀ i H, i < n → Pv i H → J.go i H) (hst : ∀ H, Pv n H → J.stop n H)
    (turn : ∀ i H, i < n → Pv i H → ∀ x H', J.yld i H x H' → g x σ0 H' fun σ2 H2 => tifs σ2 H2 fun b H3 =>
      if b = true then tm σ2 H3 fun H4 => Keeps2 σ0 σ2 ∧ ∃ m', m' < n - i ∧ (m' = n - (i + 1) ∧ i + 1 ≤ n ∧ Pv (i + 1) H4) else Keeps2 σ0 σ2 ∧ ∃ m', m' < n - i ∧ (m' = n - (i + 1) ∧ i + 1 ≤ n ∧ Pv (i + 1) H3))
    (hZ : ∀ H, Pv n H → Z H) : tComp J σ0 g tifs tm Z H := by
  refine ⟨fun i m H => m = n - i ∧ i ≤ n ∧ Pv i H, ⟨n, by simp, Nat.zero_le _, h0⟩, ?_⟩
  rintro i m H ⟨rfl, hi, p⟩
  by_cases hlt : i < n
  · exact .inr ⟨hgo i H hlt p, turn i H hlt p⟩
  · have e : i = n := by omega
    subst e
    exact .inl ⟨hst H p, hZ H p⟩
/-- over a list that stays -/
theorem comp_list (Pv : Nat → Hp → Prop) (h0 : Pv 0 H) (hl : ∀ i H, i ≤ xs.length → Pv i H → SqL K H a xs)
    (turn : ∀ i x H, xs[i]? = some x → Pv i H → g x σ0 H fun σ2 H2 => tifs σ2 H2 fun b H3 =>
      if b = true then tm σ2 H3 fun H4 => Keeps2 σ0 σ2 ∧ ∃ m', m' < xs.length - i ∧ (m' = xs.length - (i + 1) ∧ i + 1 ≤ xs.length ∧ Pv (i + 1) H4) else Keeps2 σ0 σ2 ∧ ∃ m', m' < xs.length - i ∧ (m' = xs.length - (i + 1) ∧ i + 1 ≤ xs.length ∧ Pv (i + 1) H3))
    (hZ : ∀ H, Pv xs.length H → Z H) : tComp (Itl K a) σ0 g tifs tm Z H := by
  refine comp_by xs.length Pv h0 (fun i H hi p => ⟨xs, xs[i], hl i H (Nat.le_of_lt hi) p, by simp [hi]⟩) (fun H p => ⟨xs, hl _ H (Nat.le_refl _) p, Nat.le_refl _⟩) (fun i H hi p x H' y => ?_) hZ
  obtain ⟨e, y⟩ := y
  subst e
  exact turn i x _ (y xs (hl i _ (Nat.le_of_lt hi) p)) p
theorem comp_range {lo : Int} {n : Nat} (Pv : Nat → Hp → Prop) (h0 : Pv 0 H)
    (turn : ∀ i H, i < n → Pv i H → g (.int (lo + i)) σ0 H fun σ2 H2 => tifs σ2 H2 fun b H3 =>
      if b = true then tm σ2 H3 fun H4 => Keeps2 σ0 σ2 ∧ ∃ m', m' < n - i ∧ (m' = n - (i + 1) ∧ i + 1 ≤ n ∧ Pv (i + 1) H4) else Keeps2 σ0 σ2 ∧ ∃ m', m' < n - i ∧ (m' = n - (i + 1) ∧ i + 1 ≤ n ∧ Pv (i + 1) H3))
    (hZ : ∀ H, Pv n H → Z H) : tComp (Itr lo n) σ0 g tifs tm Z H := by
  refine comp_by n Pv h0 (fun i H hi p => hi) (fun H p => Nat.le_refl _) (fun i H hi p x H' y => ?_) hZ
  obtain ⟨e, y⟩ := y
  subst e y
  exact turn i _ hi p
/-- a turn's end -/
theorem comp_end {n i : Nat} {P : Prop} {Pv : Nat → Hp → Prop} {H : Hp} (k : P) (hi : i < n) (p : Pv (i + 1) H) : P ∧ ∃ m', m' < n - i ∧ (m' = n - (i + 1) ∧ i + 1 ≤ n ∧ Pv (i + 1) H) := ⟨k, _, by omega, rfl, hi, p⟩
end
end L2
set_option Elab.async false
set_option linter.all false
set_option maxRecDepth 100000
namespace L2
open PySem PySem.Spec PyProof.Rows

section
variable {X : Cx} {pins : List (Addr × Obj)} {σ : St} {H : Hp} {s : Shared} {h' : Heap} {ch : List Addr} {a : Addr} {o : HO}
/-- records of ours have turned, and a new object is laid and tracked -/
theorem Inv.many {t' : Nat} (I : Inv X pins σ H s) (hch : ∀ b ∈ ch, FpOk X pins H b) (k : ∀ b ob, b ∉ ch → s.heap.get? b = some ob → h'.get? b = some ob) (hp : s.heap.objs.size ≤ a) (new : ObjOk X.prog X.w (upd H a o) h' a o) :
    Inv X pins σ (upd H a o) { s with heap := h', toks := t' } := by
  have hn : H a = none := I.hok.fresh hp
  have na : ∀ b ob, s.heap.get? b = some ob → b ≠ a := fun b ob e => Nat.ne_of_lt (Nat.lt_of_lt_of_le (Heap.lt_size e) hp)
  have nch : ∀ b u, H b = some u → b ∉ ch := fun b u e z => by rw [(hch b z).1] at e; cases e
  refine I.step (g' := s.gens) (d' := s.drawn) (ch := ch) (fun b hb => ⟨(hch b hb).2.2.2.1, (hch b hb).2.1, (hch b hb).2.2.2.2.1, (hch b hb).2.2.2.2.2⟩) (fun b ob _ _ hc e _ => k b ob hc e) (fun b ob _ _ hc e _ => ⟨ob.slots, k b ob hc e⟩)
    (fun b ob _ e n => by rw [upd_ne (na b ob e)]; exact n) (fun b ob hc e => ⟨ob, k b ob hc e⟩) (fun b xs e => by rw [upd_ne (ne_of_none e hn)]; exact e) (fun b ob u e => by rw [upd_ne (ne_of_none e hn)]; exact e)
    (fun b ps e => ⟨#[], by rw [upd_ne (ne_of_none e hn), e]; simp⟩) (fun m hm => ?_) (fun b u e => ?_) I.bare
  · obtain ⟨ob, es, ep, ho, r⟩ := hm
    exact ⟨ob, es, ep, k _ ob (fun z => (hch _ z).2.1 rfl) ho, r⟩
  · by_cases hb : b = a
    · subst hb; rw [upd_same] at e; cases e; exact new
    · rw [upd_ne hb] at e
      refine (I.hok b u e).stay (fun c v hc q => k c v ?_ q) (fun c q => by rw [upd_ne (ne_of_none q hn)]; exact q) fun c xs q => by rw [upd_ne (ne_of_none q hn)]; exact q
      rcases hc with z | z
      · subst z; exact nch c u e
      · exact nch c _ z
theorem Inv.many0 {t' : Nat} (I : Inv X pins σ H s) (hch : ∀ b ∈ ch, FpOk X pins H b) (k : ∀ b ob, b ∉ ch → s.heap.get? b = some ob → h'.get? b = some ob) :
    Inv X pins σ H { s with heap := h', toks := t' } := by
  have nch : ∀ b u, H b = some u → b ∉ ch := fun b u e z => by rw [(hch b z).1] at e; cases e
  refine I.step (g' := s.gens) (d' := s.drawn) (ch := ch) (fun b hb => ⟨(hch b hb).2.2.2.1, (hch b hb).2.1, (hch b hb).2.2.2.2.1, (hch b hb).2.2.2.2.2⟩) (fun b ob _ _ hc e _ => k b ob hc e) (fun b ob _ _ hc e _ => ⟨ob.slots, k b ob hc e⟩)
    (fun b ob _ e n => n) (fun b ob hc e => ⟨ob, k b ob hc e⟩) (fun b xs e => e) (fun b ob u e => e)
    (fun b ps e => ⟨#[], by rw [e]; simp⟩) (fun m hm => ?_) (fun b u e => ?_) I.bare
  · obtain ⟨ob, es, ep, ho, r⟩ := hm
    exact ⟨ob, es, ep, k _ ob (fun z => (hch _ z).2.1 rfl) ho, r⟩
  · refine (I.hok b u e).stay (fun c v hc q => k c v ?_ q) (fun c q => q) fun c xs q => q
    rcases hc with z | z
    · subst z; exact nch c u e
    · exact nch c _ z
end

/-! ### zip of two lists, walked by a tuple of names -/
end L2
set_option Elab.async false
set_option linter.all false
set_option maxRecDepth 100000
namespace PySem
theorem l3_list_keys : typeLookup (.type "list") "keys" = pure none := by rw [typeLookup_type, builtinLookup_eq_fast]; kernel_rfl
section
variable {prog : Program} {w : World} {A : Around} {E : Value → Shared → Prop} {s : Shared}
theorem l3_getAttrBy_keys {a : Addr} {xs : Array Value} {k : Nat} {u : Tok} {Q : Value → Shared → Prop} (hx : s.heap.get? a = some { cls := .type "list", data := .seq xs k }) (hA : A.handled = none)
    (h : ∀ h' tk e, Heap.NewAttrErr s.heap h' e (.ref a) "keys" → E (.ref e) { s with heap := h', toks := tk }) :
    wpAny (model prog w) A (getAttrBy (.ref a) (.str "keys" u) false) Q E s := by
  obtain ⟨hp, g, d, tk, os⟩ := s
  have hT : ∀ tk', (⟨hp, g, d, tk', os⟩ : Shared).TypeIs (.ref a) "list" := fun _ => ⟨_, hx, rfl⟩
  have f1 := sub_AttributeError
  have f3 := F.slot_list_getattribute.lookup
  have f4 := F.slot_list_getattribute.bind (.ref a)
  have f5 := am_list_getattr_none
  unfold getAttrBy
  repeat (any_goals (first | assumption | exact hT _ | ((with_reducible show wpAny _ _ (call (Value.builtin "list.__getattribute__") _ _) _ _ _); refine call_meets F.slot_list_getattribute (hT _) am_entry_list_getattribute (F.args_list_getattribute_2 _ _) (meets_getattribute_miss_list a xs k #[] "keys" _ l3_list_keys (by decide +kernel)) ⟨hx, hA, fun h' tk' e hx' => ?_⟩) | wp_step))
  obtain ⟨t', u', he⟩ := hx'.there
  show wpAny _ _ (getattributeRaised _ _ _ _ _ _ _) _ _ _
  unfold getattributeRaised
  repeat (any_goals (first | assumption | wp_step))
  exact h _ _ _ hx'
theorem l3_getAttr_keys {a : Addr} {xs : Array Value} {k : Nat} {Q : Option Value → Shared → Prop} (hx : s.heap.get? a = some { cls := .type "list", data := .seq xs k }) (hA : A.handled = none)
    (h : ∀ h' tk, (∀ b o, s.heap.get? b = some o → h'.get? b = some o) → Q none { s with heap := h', toks := tk }) : wpAny (model prog w) A (getAttr? (.ref a) "keys") Q E s := by
  unfold getAttr? getAttrBy?
  refine wpAny_bind (wpAny_mkText (wpAny_bind (wpAny_attempt (l3_getAttrBy_keys hx hA fun h' tk e ne => ?_))))
  obtain ⟨t', u', he⟩ := ne.there
  refine wpAny_bind (wpAny_isInstance (T := "AttributeError") (b := true) ⟨_, he, rfl⟩ sub_AttributeError ?_)
  exact wpAny_pure (h h' _ ne.keeps)
theorem l3_pairItems {t : Addr} {vs : Array Value} {Q : List Value → Shared → Prop} (ht : s.heap.IsTuple t vs) (h : Q vs.toList s) : wpAny (model prog w) A (Builtin.Dict.pairItems (.ref t)) Q E s := by
  obtain ⟨o, ho, hc, n, hd⟩ := ht
  unfold Builtin.Dict.pairItems
  refine wpAny_bind (wpAny_typeOf (T := "tuple") ⟨o, ho, hc⟩ ?_)
  rw [if_pos (by decide)]
  refine wpAny_bind ?_
  obtain ⟨hp, g, d, tk, os⟩ := s
  unfold seqItems?
  repeat (any_goals (first | assumption | wp_step))
  all_goals (first | (rw [hd]; repeat (any_goals (first | assumption | wp_step))) | skip)
end
end PySem
set_option Elab.async false
set_option linter.all false
set_option maxRecDepth 100000
namespace L2
open PySem PySem.Spec PyProof.Rows
section
variable {X : Cx}
/-! ### dict(xs), xs a list of pairs -/
theorem l3_entry_update_loop : entryFor table "dict.update.loop" = some Builtin.«dict.update.loop» := entryFor_of_tree (by kernel_rfl)
end
end L2
set_option Elab.async false
set_option linter.all false
set_option maxRecDepth 100000
namespace L2
open PySem PySem.Spec PyProof.Rows SeqAt

/-! ### equality, to any depth -/
inductive EB (K : PySem.W.Frag) (H : Hp) : Nat → V → V → Bool → Prop where
  | flat {n : Nat} {x y : V} : flatV x = true → flatV y = true → EB K H n x y (eqV x y)
  | same {n : Nat} {a : Addr} : EB K H n (.ref a) (.ref a) true
  | lst {n : Nat} {a b : Addr} {xs ys : List V} {e : Nat → Bool} : a ≠ b → SqL K H a xs → SqL K H b ys → xs.length = ys.length → (∀ j x y, xs[j]? = some x → ys[j]? = some y → EB K H n x y (e j)) →
      EB K H (n + 1) (.ref a) (.ref b) ((List.range xs.length).all e)
  | len {n : Nat} {a b : Addr} {xs ys : List V} : a ≠ b → SqL K H a xs → SqL K H b ys → xs.length ≠ ys.length → EB K H n (.ref a) (.ref b) false
  | tup {n : Nat} {a b : Addr} {xs ys : List V} {e : Nat → Bool} : a ≠ b → SqT K H a xs → SqT K H b ys → (∀ j x y, xs[j]? = some x → ys[j]? = some y → EB K H n x y (e j)) →
      EB K H (n + 1) (.ref a) (.ref b) ((List.range (min xs.length ys.length)).all e && xs.length == ys.length)
section
variable {X : Cx} {pins : List (Addr × Obj)} {σ : St} {H : Hp} {s : Shared}
theorem items_eq {K : PySem.W.Frag} {n : Nat} {A : Around} {xs ys : List V} {us vs : List Value} {e : Nat → Bool} (rv : Vals xs us) (rw' : Vals ys vs)
    (h : ∀ j x y, xs[j]? = some x → ys[j]? = some y → ∀ (A : Around) (u v : Value), RelV x u → RelV y v → A.units + n < cLine → EqAt A s u v (e j)) (hu : A.units + (n + 1) < cLine) :
    ∀ j (h1 : j < us.toArray.size) (h2 : j < vs.toArray.size), EqAt A.in1 s us.toArray[j] vs.toArray[j] (e j) := fun j h1 h2 => by
  have l1 := rv.length
  have l2 := rw'.length
  have h1' : j < us.length := by simpa using h1
  have h2' : j < vs.length := by simpa using h2
  have hx : xs[j]? = some (xs[j]'(by omega)) := List.getElem?_eq_getElem _
  have hy : ys[j]? = some (ys[j]'(by omega)) := List.getElem?_eq_getElem _
  obtain ⟨u, hu1, ru⟩ := rv.get hx
  obtain ⟨v, hv1, rv1⟩ := rw'.get hy
  have eu : us[j] = u := by have := List.getElem?_eq_getElem h1'; rw [hu1] at this; exact (Option.some.inj this).symm
  have ev : vs[j] = v := by have := List.getElem?_eq_getElem h2'; rw [hv1] at this; exact (Option.some.inj this).symm
  have q := h j _ _ hx hy A.in1 u v ru rv1 (by show A.units + 1 + n < cLine; omega)
  simpa [eu, ev] using q
theorem EB.at (I : Inv X pins σ H s) {n : Nat} {x y : V} {b : Bool} (q : EB X.K H n x y b) : ∀ (A : Around) (u v : Value), RelV x u → RelV y v → A.units + n < cLine → EqAt A s u v b := by
  induction q with
  | flat h1 h2 => exact fun A u v ru rv _ => eqAt_V ru rv h1 h2
  | same => intro A u v ru rv _; cases ru; cases rv; exact EqAt.same _
  | @lst n a b xs ys e hne ha hb hl _ ih =>
    intro A u v ru rv hu
    cases ru; cases rv
    obtain ⟨us, r1, p1, _⟩ := I.list ha
    obtain ⟨vs, r2, p2, _⟩ := I.list hb
    have l1 := r1.length
    have l2 := r2.length
    have q := RcAt.lists (A := A) p1.isList p2.isList (by simp; omega) (by omega) (items_eq (K := X.K) r1 r2 ih hu)
    rw [show us.toArray.size = xs.length by simp [l1]] at q
    exact EqAt.of_refs hne q
  | @len n a b xs ys hne ha hb hl =>
    intro A u v ru rv hu
    cases ru; cases rv
    obtain ⟨us, r1, p1, _⟩ := I.list ha
    obtain ⟨vs, r2, p2, _⟩ := I.list hb
    have l1 := r1.length
    have l2 := r2.length
    exact EqAt.of_refs hne (RcAt.lists_lengths p1.isList p2.isList (by simp; omega) (by omega))
  | @tup n a b xs ys e hne ha hb _ ih =>
    intro A u v ru rv hu
    cases ru; cases rv
    obtain ⟨us, r1, p1, _⟩ := I.tuple ha
    obtain ⟨vs, r2, p2, _⟩ := I.tuple hb
    have l1 := r1.length
    have l2 := r2.length
    have q := RcAt.tuples (A := A) (show s.heap.IsTuple a us.toArray from p1) (show s.heap.IsTuple b vs.toArray from p2) (by omega) (items_eq (K := X.K) r1 r2 ih hu)
    rw [show us.toArray.size = xs.length by simp [l1], show vs.toArray.size = ys.length by simp [l2]] at q
    exact EqAt.of_refs hne q
end
/-- == of two lists, or of two tuples (at the top no look at whether they are one) -/
def RB (K : PySem.W.Frag) (H : Hp) (n : Nat) (x y : V) (b : Bool) : Prop := ∃ a c xs ys, x = .ref a ∧ y = .ref c ∧
  ((∃ e : Nat → Bool, SqL K H a xs ∧ SqL K H c ys ∧ xs.length = ys.length ∧ (∀ j x y, xs[j]? = some x → ys[j]? = some y → EB K H n x y (e j)) ∧ b = (List.range xs.length).all e) ∨
   (SqL K H a xs ∧ SqL K H c ys ∧ xs.length ≠ ys.length ∧ b = false) ∨
   (∃ e : Nat → Bool, SqT K H a xs ∧ SqT K H c ys ∧ (∀ j x y, xs[j]? = some x → ys[j]? = some y → EB K H n x y (e j)) ∧ b = ((List.range (min xs.length ys.length)).all e && xs.length == ys.length)))
section
variable {X : Cx}
theorem op_eqD {m : Nat} (hu : X.A.units + (m + 1) < cLine) : OpR X (compareOp .Eq) (fun x y H Q => ∃ b, RB X.K H m x y b ∧ Q (.bl b) H) := by
  intro pins s σ H x y v u Q I rx ry h
  obtain ⟨b, ⟨a, c, xs, ys, rfl, rfl, q⟩, k⟩ := h
  cases rx; cases ry
  rcases q with ⟨e, ha, hb, hl, he, rfl⟩ | ⟨ha, hb, hl, rfl⟩ | ⟨e, ha, hb, he, rfl⟩
  · obtain ⟨us, r1, p1, _⟩ := I.list ha
    obtain ⟨vs, r2, p2, _⟩ := I.list hb
    have l1 := r1.length
    have l2 := r2.length
    refine eq_listAt p1.isList p2.isList (by simp; omega) (by omega) (items_eq (K := X.K) r1 r2 (fun j x y h1 h2 => (he j x y h1 h2).at I) hu) ?_
    rw [show us.toArray.size = xs.length by simp [l1]]
    exact ⟨.bl _, H, I, rfl, k⟩
  · obtain ⟨us, r1, p1, _⟩ := I.list ha
    obtain ⟨vs, r2, p2, _⟩ := I.list hb
    have l1 := r1.length
    have l2 := r2.length
    exact eq_list_lengthsAt p1.isList p2.isList (by simp; omega) (by omega) ⟨.bl _, H, I, rfl, k⟩
  · obtain ⟨us, r1, p1, _⟩ := I.tuple ha
    obtain ⟨vs, r2, p2, _⟩ := I.tuple hb
    have l1 := r1.length
    have l2 := r2.length
    refine eq_tupleAt (show s.heap.IsTuple a us.toArray from p1) (show s.heap.IsTuple c vs.toArray from p2) (by omega) (items_eq (K := X.K) r1 r2 (fun j x y h1 h2 => (he j x y h1 h2).at I) hu) ?_
    rw [show us.toArray.size = xs.length by simp [l1], show vs.toArray.size = ys.length by simp [l2]]
    exact ⟨.bl _, H, I, rfl, k⟩
theorem op_neD {m : Nat} (hu : X.A.units + (m + 1) < cLine) : OpR X (compareOp .NotEq) (fun x y H Q => ∃ b, RB X.K H m x y b ∧ Q (.bl (!b)) H) := by
  intro pins s σ H x y v u Q I rx ry h
  obtain ⟨b, ⟨a, c, xs, ys, rfl, rfl, q⟩, k⟩ := h
  cases rx; cases ry
  rcases q with ⟨e, ha, hb, hl, he, rfl⟩ | ⟨ha, hb, hl, rfl⟩ | ⟨e, ha, hb, he, rfl⟩
  · obtain ⟨us, r1, p1, _⟩ := I.list ha
    obtain ⟨vs, r2, p2, _⟩ := I.list hb
    have l1 := r1.length
    have l2 := r2.length
    refine RcNeAt.lists p1.isList p2.isList (by simp; omega) (by omega) (items_eq (K := X.K) r1 r2 (fun j x y h1 h2 => (he j x y h1 h2).at I) hu) X.prog X.w X.xe _ ?_
    rw [show us.toArray.size = xs.length by simp [l1]]
    exact ⟨.bl _, H, I, rfl, k⟩
  · obtain ⟨us, r1, p1, _⟩ := I.list ha
    obtain ⟨vs, r2, p2, _⟩ := I.list hb
    have l1 := r1.length
    have l2 := r2.length
    exact RcNeAt.lists_lengths p1.isList p2.isList (by simp; omega) (by omega) X.prog X.w X.xe _ ⟨.bl _, H, I, rfl, k⟩
  · obtain ⟨us, r1, p1, _⟩ := I.tuple ha
    obtain ⟨vs, r2, p2, _⟩ := I.tuple hb
    have l1 := r1.length
    have l2 := r2.length
    refine RcNeAt.tuples (show s.heap.IsTuple a us.toArray from p1) (show s.heap.IsTuple c vs.toArray from p2) (by omega) (items_eq (K := X.K) r1 r2 (fun j x y h1 h2 => (he j x y h1 h2).at I) hu) X.prog X.w X.xe _ ?_
    rw [show us.toArray.size = xs.length by simp [l1], show vs.toArray.size = ys.length by simp [l2]]
    exact ⟨.bl _, H, I, rfl, k⟩
end
/-- the true case -/
def ET (K : PySem.W.Frag) (H : Hp) (n : Nat) (x y : V) : Prop := EB K H n x y true
theorem all_true {n : Nat} : (List.range n).all (fun _ => true) = true := by rw [List.all_eq_true]; intro _ _; rfl
theorem ET.lst {K : PySem.W.Frag} {H : Hp} {n : Nat} {a b : Addr} {xs ys : List V} (ha : SqL K H a xs) (hb : SqL K H b ys) (hl : xs.length = ys.length) (h : ∀ (j : Nat) (x y : V), xs[j]? = some x → ys[j]? = some y → ET K H n x y) : ET K H (n + 1) (.ref a) (.ref b) := by
  by_cases e : a = b
  · subst e; exact .same
  · have q := EB.lst (e := fun _ => true) e ha hb hl h
    rw [all_true] at q
    exact q
theorem ET.tup {K : PySem.W.Frag} {H : Hp} {n : Nat} {a b : Addr} {xs ys : List V} (ha : SqT K H a xs) (hb : SqT K H b ys) (hl : xs.length = ys.length) (h : ∀ (j : Nat) (x y : V), xs[j]? = some x → ys[j]? = some y → ET K H n x y) : ET K H (n + 1) (.ref a) (.ref b) := by
  by_cases e : a = b
  · subst e; exact .same
  · have q := EB.tup (e := fun _ => true) e ha hb h
    rw [all_true, hl, beq_self_eq_true] at q
    exact q
theorem eqV_refl {x : V} (h : flatV x = true) : eqV x x = true := by cases x <;> simp_all [flatV, eqV]
theorem ET.refl {K : PySem.W.Frag} {H : Hp} {n : Nat} {x : V} (h : flatV x = true ∨ ∃ a, x = .ref a) : ET K H n x x := by
  rcases h with h | ⟨a, rfl⟩
  · have q := EB.flat (K := K) (H := H) (n := n) h h
    rw [eqV_refl h] at q
    exact q
  · exact .same
theorem RB.lst {K : PySem.W.Frag} {H : Hp} {n : Nat} {a b : Addr} {xs ys : List V} (ha : SqL K H a xs) (hb : SqL K H b ys) (hl : xs.length = ys.length) (h : ∀ (j : Nat) (x y : V), xs[j]? = some x → ys[j]? = some y → ET K H n x y) : RB K H n (.ref a) (.ref b) true :=
  ⟨a, b, xs, ys, rfl, rfl, .inl ⟨fun _ => true, ha, hb, hl, h, all_true.symm⟩⟩
theorem RB.tup {K : PySem.W.Frag} {H : Hp} {n : Nat} {a b : Addr} {xs ys : List V} (ha : SqT K H a xs) (hb : SqT K H b ys) (hl : xs.length = ys.length) (h : ∀ (j : Nat) (x y : V), xs[j]? = some x → ys[j]? = some y → ET K H n x y) : RB K H n (.ref a) (.ref b) true :=
  ⟨a, b, xs, ys, rfl, rfl, .inr (.inr ⟨fun _ => true, ha, hb, h, by rw [all_true, hl, beq_self_eq_true]; rfl⟩)⟩
/-- xs == [] -/
theorem RB.nil {K : PySem.W.Frag} {H : Hp} {n : Nat} {a b : Addr} {xs : List V} (ha : SqL K H a xs) (hb : SqL K H b []) : RB K H n (.ref a) (.ref b) xs.isEmpty := by
  cases xs with
  | nil => exact RB.lst ha hb rfl (fun j x y h => by simp at h)
  | cons x r => exact ⟨a, b, _, [], rfl, rfl, .inr (.inl ⟨ha, hb, by simp, rfl⟩)⟩

section
variable {X : Cx} {pos : Pos}
/-! ### (a, b, ..) = a list of that length -/
/-! ### greater numbers -/
def CDivB (i j : Int) : Prop := 0 < j ∧ j < 2 ^ 1000
theorem op_fdivB : OpR X (binaryOp .FloorDiv) (rI CDivB fun i j => .int (i / j)) := opI fun i j _ _ _ _ _ hc q => by
  have h1 : (0 : Int) < j := hc.1
  have h2 : j < 2 ^ 1000 := hc.2
  have h3 : j.natAbs < 2 ^ 1000 := by omega
  exact floordiv_int (by omega) (by rw [Int.fdiv_eq_ediv_of_nonneg i (by omega)]; exact q) (.inl (PyProof.noPylong_of_log2 (Nat.lt_of_lt_of_le ((Nat.log2_lt (by omega)).mpr h3) (by decide))))
/-! ### isinstance(x, T), T a built-in type -/
theorem call_isi : CallR X (.builtin "isinstance") (fun xs H Q => ∃ x n t b, xs = [x, .ty n] ∧ TyOf X.K H x t ∧ PySem.W.kitOne X.K t (.type n) = some b ∧ Q (.bl b) H) := by
  intro pins s σ H xs us Q I r h
  obtain ⟨x, n, t, b, rfl, ty, e, q⟩ := h
  obtain ⟨u, v, rfl, ru, rv⟩ := Vals.two r
  obtain rfl : v = Value.type n := rv
  exact isinst_ok I ru ty e fun tk => ⟨.bl b, H, I.tok tk, rfl, q⟩
end
end L2
set_option Elab.async false
set_option linter.all false
set_option maxRecDepth 100000
namespace TW
open PySem L2

/-! ### sums and conditions, as data and in the heap -/
inductive K2 where
  | plus | less | same | under | both
def K2.str : K2 → Str
  | .plus => "plus" | .less => "less" | .same => "same" | .under => "under" | .both => "both"
inductive E where
  | num (n : Int) | box (tag x : Str) | yes | nt (a : E) | two (k : K2) (a b : E)
def Tp (H : Hp) (v : V) (xs : List V) : Prop := ∃ p, v = .ref p ∧ H p = some (.tup xs)
def EAt (H : Hp) : V → E → Prop
  | v, .num n => Tp H v [.str "number", .int n]
  | v, .box t x => Tp H v [.str t, .str x]
  | v, .yes => Tp H v [.str "yes"]
  | v, .nt a => ∃ x, Tp H v [.str "not", x] ∧ EAt H x a
  | v, .two k a b => ∃ x y, Tp H v [.str k.str, x, y] ∧ EAt H x a ∧ EAt H y b
/-- tuples stay -/
def TK (H H' : Hp) : Prop := ∀ b xs, H b = some (.tup xs) → H' b = some (.tup xs)
theorem TK.trans {A B C : Hp} (a : TK A B) (b : TK B C) : TK A C := fun c o h => b c o (a c o h)
theorem Tp.keep {H H' : Hp} {v : V} {xs : List V} (k : TK H H') (h : Tp H v xs) : Tp H' v xs := let ⟨p, e, q⟩ := h; ⟨p, e, k p xs q⟩
theorem EAt.keep {H H' : Hp} (k : TK H H') : ∀ {e : E} {v : V}, EAt H v e → EAt H' v e
  | .num _, _, h => Tp.keep k h
  | .box _ _, _, h => Tp.keep k h
  | .yes, _, h => Tp.keep k h
  | .nt _, _, ⟨x, h, a⟩ => ⟨x, h.keep k, EAt.keep k a⟩
  | .two _ _ _, _, ⟨x, y, h, a, b⟩ => ⟨x, y, h.keep k, EAt.keep k a, EAt.keep k b⟩
def E.dep : E → Nat
  | .num _ => 0 | .box _ _ => 0 | .yes => 0 | .nt a => a.dep + 1 | .two _ a b => max a.dep b.dep + 1
/-- a sum, a condition -/
def E.isS : E → Prop
  | .num _ => True
  | .box _ _ => True
  | .two .plus a b => a.isS ∧ b.isS
  | .two .less a b => a.isS ∧ b.isS
  | _ => False
def E.isC : E → Prop
  | .yes => True
  | .nt a => a.isC
  | .two .same a b => a.isS ∧ b.isS
  | .two .under a b => a.isS ∧ b.isS
  | .two .both a b => a.isC ∧ b.isC
  | _ => False
/-- each box is one of these -/
def E.okIn (P : Str → Str → Prop) : E → Prop
  | .num n => n.natAbs < 2 ^ 100 | .box t x => P t x | .yes => True | .nt a => a.okIn P | .two _ a b => a.okIn P ∧ b.okIn P
def E.worth (w : Str → Str → Int) : E → Int
  | .num n => n
  | .box t x => w t x
  | .two .plus a b => a.worth w + b.worth w
  | .two .less a b => a.worth w - b.worth w
  | _ => 0
def E.holds (w : Str → Str → Int) : E → Bool
  | .yes => true
  | .nt a => !(a.holds w)
  | .two .same a b => decide (a.worth w = b.worth w)
  | .two .under a b => decide (a.worth w < b.worth w)
  | .two .both a b => a.holds w && b.holds w
  | _ => false
/-! ### nodes -/
/-! ### the deck, and what stays -/
theorem same_new {H : Hp} {p : Addr} (h : H p = none) (o : HO) : Same H (upd H p o) := fun b u q => by rw [upd_ne (ne_of_none q h)]; exact q
theorem Same.tk {H H' : Hp} (s : Same H H') : TK H H' := fun b xs h => s b _ h
theorem tk_new {H : Hp} {p : Addr} (h : H p = none) (o : HO) : TK H (upd H p o) := Same.tk (same_new h o)
theorem small {n : Nat} (h : n ≤ 1000) : n ≤ sizeLine := Nat.le_of_lt (small1000 h)

/-! ### programs -/
def BoxAt (H : Hp) (v : V) (b : Str × Int) : Prop := Tp H v [.str b.1, .int b.2]
end TW
set_option Elab.async false
set_option linter.all false
set_option maxRecDepth 100000
set_option exponentiation.threshold 4000
namespace TW
open PySem L2
/-! ### defs of the text, with their promises -/
def Src (K : PySem.W.Frag) (mg : Str → Option Value) (x : Str) (st : Stmt) : Prop := ∃ f fd, Fun K x x st f fd ∧ mg x = some (.ref f)
def Has (P : Program) (w : World) (K : PySem.W.Frag) (mg : Str → Option Value) (base : Heap) (x : Str) (ps : List Str) (k : Nat) (sp : Sp) : Prop :=
  ∃ f fd, FnOk P w K mg base CX0 k f fd ps sp ∧ PySem.W.keepIn K (.ref f) = true ∧ Binds K fd ps [] ∧ mg x = some (.ref f)
theorem Has.mono {P : Program} {w : World} {K : PySem.W.Frag} {mg : Str → Option Value} {base : Heap} {x : Str} {ps : List Str} {j k : Nat} {sp : Sp} (h : Has P w K mg base x ps j sp) (hk : j ≤ k) : Has P w K mg base x ps k sp :=
  let ⟨f, fd, a, b, c, d⟩ := h; ⟨f, fd, a.mono hk, b, c, d⟩
/-! ### small facts -/
theorem up_ne {A : Around} {k : Nat} (hr : Room k A) (m : Nat) (hm : m ≤ 64) : A.units + m < cLine := by have := hr.units; omega
end TW
set_option Elab.async false
set_option linter.all false
set_option maxRecDepth 100000
namespace L2
open PySem PySem.Spec PyProof.Rows
/-! ### arguments: that none is starred, once for each kind of expression -/
structure NoStar (e : Expr) : Prop where
  h : ∀ (es : List Expr) (env : Env), starEach (e :: es) env = (false, eval e env) :: starEach es env
theorem ns_of {e : Expr} (h : ∀ x p, e ≠ .Starred x p) : NoStar e := ⟨fun es env => by
  cases e <;> first | rfl | exact absurd rfl (h _ _)⟩
theorem ns_const {c k p} : NoStar (.Constant c k p) := ns_of fun _ _ z => nomatch z
theorem ns_name {x p} : NoStar (.Name x p) := ns_of fun _ _ z => nomatch z
theorem ns_call {f a k p} : NoStar (.Call f a k p) := ns_of fun _ _ z => nomatch z
theorem ns_bin {a o b p} : NoStar (.BinOp a o b p) := ns_of fun _ _ z => nomatch z
theorem ns_sub {a b p} : NoStar (.Subscript a b p) := ns_of fun _ _ z => nomatch z
theorem ns_tup {a b p} : NoStar (.Tuple a b p) := ns_of fun _ _ z => nomatch z
theorem ns_lst {a p} : NoStar (.List a p) := ns_of fun _ _ z => nomatch z
theorem ns_cmp {a b c p} : NoStar (.Compare a b c p) := ns_of fun _ _ z => nomatch z
theorem ns_lc {a b c p} : NoStar (.ListComp a b c p) := ns_of fun _ _ z => nomatch z
def NoStars (es : List Expr) : Prop := ∀ (pos : Pos) (env : Env), (backTo pos (starEach es env)).any (·.1) = false
theorem nss_nil : NoStars [] := fun _ _ => rfl
theorem nss_cons {e : Expr} {es : List Expr} (h : NoStar e) (hs : NoStars es) : NoStars (e :: es) := fun pos env => by
  rw [h.h es env]
  exact hs pos env
structure PAs (X : Cx) (es : List Expr) (t : TA) : Prop where
  pa : PA X es t
  ns : ∀ e r, es = e :: r → NoStar e ∧ NoStars r
  nss : NoStars es
section
variable {X : Cx} {e : Expr} {es : List Expr} {te : TE} {t : TA} {pos : Pos}
theorem an : PAs X [] tNil := ⟨pa_nil, (fun _ _ z => nomatch z), nss_nil⟩
theorem ac (ha : PE X e te) (hr : PAs X es t)
    (hs : NoStar e := by first | exact ns_const | exact ns_name | exact ns_call | exact ns_bin | exact ns_sub | exact ns_tup | exact ns_lst | exact ns_cmp | exact ns_lc | exact ns_dc | exact ns_un | exact ns_bool | exact ns_attr) : PAs X (e :: es) (tCons te t) :=
  ⟨pa_cons ha hr.pa (hs.h es X.env), fun e' r z => by injection z with z1 z2; subst z1 z2; exact ⟨hs, hr.nss⟩, nss_cons hs hr.nss⟩
theorem xtup {x1} (h : PAs X es t) : PE X (.Tuple es x1 pos) (tTup t) := pe_tup h.pa
theorem xlst (h : PAs X es t) : PE X (.List es pos) (tLst t) := pe_lst h.pa
theorem xcallB {x : Str} {p : Pos} {id : String} {r : List V → Hp → VK → Prop} (hc : CallR X (.builtin id) r) (hg : Gl X x) (hm : X.mg x = none) (hv : bootBuiltins x = some (.builtin id)) (ha : PAs X (e :: es) t) (hn : x ≠ "__name__" := by decide) (hdb : (x == ("__debug__" : Str)) = false := by decide) :
    PE X (.Call (.Name x p) (e :: es) [] pos) (tCB r t) := pe_callB hc hg hm hv ha.pa hn hdb ((ha.ns e es rfl).1.h es X.env) ((ha.ns e es rfl).2 pos X.env)
theorem xcallT {x : Str} {p : Pos} {T : String} {r : List V → Hp → VK → Prop} (hc : CallR X (.type T) r) (hg : Gl X x) (hm : X.mg x = none) (hv : bootBuiltins x = some (.type T)) (ha : PAs X (e :: es) t) (hn : x ≠ "__name__" := by decide) (hdb : (x == ("__debug__" : Str)) = false := by decide) :
    PE X (.Call (.Name x p) (e :: es) [] pos) (tCB r t) := pe_callTy hc hg hm hv ha.pa hn hdb ((ha.ns e es rfl).1.h es X.env) ((ha.ns e es rfl).2 pos X.env)
theorem xown {x : Str} {p : Pos} {ps : List Str} {k : Nat} {sp : Sp} (D : TW.Has X.prog X.w X.K X.mg X.base x ps k sp) (hr : Room k X.A) (hg : Gl X x) (ha : PAs X (e :: es) t) (hdb : (x == ("__debug__" : Str)) = false := by decide) :
    PE X (.Call (.Name x p) (e :: es) [] pos) (tCall sp [] E0 t) :=
  let ⟨_, _, G, kp, b, m⟩ := D
  pe_call G hr hg m kp b .nil pass0 ha.pa hdb ((ha.ns e es rfl).1.h es X.env) ((ha.ns e es rfl).2 pos X.env)
theorem xrange1 {tg a : Expr} {ta : TA} {p : Pos} (hg : Gl X "range") (hm : X.mg "range" = none) (ha : PAs X [a] ta) : PI X tg (.Call (.Name "range" p) [a] [] pos) (iRng1 ta) :=
  pi_range1 hg hm ha.pa ((ha.ns a [] rfl).1.h [] X.env)
/-- o.m(e), a builtin's method -/
theorem xbm1 {o : Expr} {name : Str} {apos : Pos} {T id : String} {r : V → List V → Hp → VK → Prop} {to : TE} (pa : PlainAttrs T) (slot : Slot T name id) (hty : typeOf (.builtin id) = pure (.type "method_descriptor")) (hm : MtR X id r) (ho : PE X o to) (ha : PAs X [e] t)
    (hbase : attributeBase o name X.env (eval o X.env) = eval o X.env := by rfl) (hline : (apos.endLine == pos.line) = true := by rfl) : PE X (.Call (.Attribute o name apos) [e] [] pos) (tBM X.K T r to t) :=
  pe_bm pa slot hty hm ho ha.pa hbase (by rw [(ha.ns e [] rfl).1.h [] X.env]; rfl) hline ((ha.ns e [] rfl).1.h [] X.env) ((ha.ns e [] rfl).2 pos X.env)
end
end L2
set_option Elab.async false
set_option linter.all false
set_option maxRecDepth 100000
/-! THE SEALED JUDGEMENTS: as the layer's, but nothing looks into them while a term of rules is read (an elaborator that opens PE runs the model). -/
namespace L3
open PySem PySem.Spec PyProof.Rows L2
structure SE (X : Cx) (e : Expr) (t : TE) : Prop where
  h : PE X e t
structure ST (X : Cx) (e : Expr) (t : TT) : Prop where
  h : PT X e t
structure SW (X : Cx) (e : Expr) (t : TT) : Prop where
  h : PW X e t
structure SA (X : Cx) (es : List Expr) (t : TA) : Prop where
  h : PAs X es t
structure SS (X : Cx) (s : Stmt) (t : TS) : Prop where
  h : PS X s t
structure SL (X : Cx) (ss : List Stmt) (t : TS) : Prop where
  h : PSs X ss t
structure SG (X : Cx) (e : Expr) (t : TG) : Prop where
  h : PG X e t
structure SGs (X : Cx) (es : List Expr) (t : TGs) : Prop where
  h : PGs X es t
structure SI (X : Cx) (tg iter : Expr) (t : TI) : Prop where
  h : PI X tg iter t
structure SIf (X : Cx) (cs : List Expr) (t : TT) : Prop where
  h : PIfs X cs t
structure SO (X : Cx) (f : Value → Value → Sem Value) (r : R2) : Prop where
  h : OpR X f r
structure SX (X : Cx) (r : R2) : Prop where
  h : IxR X r
structure SC (X : Cx) (f : Value) (r : List V → Hp → VK → Prop) : Prop where
  h : CallR X f r
structure SM (X : Cx) (id : String) (r : V → List V → Hp → VK → Prop) : Prop where
  h : MtR X id r
section
variable {X : Cx} {a b c e o : Expr} {es : List Expr} {ta tb tc te : TE} {t : TA} {tA uB : TT} {pos : Pos} {r : R2}
/-! names, constants -/
theorem v (i : Nat) {x : Str} (hN : X.N[i]? = some x := by rfl) (hv : Vis X.env.scope x := by first | exact Or.inl rfl | exact Or.inr (Or.inl rfl) | exact Or.inr (Or.inr rfl)) (hd : (x == ("__debug__" : Str)) = false := by decide)
    (hcd : (x == ("__classdict__" : Str)) = false := by decide) : SE X (.Name x pos) (tVar i) := ⟨pe_var hN hv hd hcd⟩
theorem int {i j} : SE X (.Constant (.int i) j pos) (tC (.int i)) := ⟨pe_int⟩
theorem bl {k j} : SE X (.Constant (.bool k) j pos) (tC (.bl k)) := ⟨pe_bl⟩
theorem non {j} : SE X (.Constant .none j pos) (tC .non) := ⟨pe_non⟩
theorem str {x j} : SE X (.Constant (.str x) j pos) (tC (.str x)) := ⟨pe_str⟩
theorem glob {x : Str} {w : V} {u : Value} (hg : Gl X x) (hm : X.mg x = some u) (r : RelV w u) (hd : (x == ("__debug__" : Str)) = false := by decide) : SE X (.Name x pos) (tC w) := ⟨pe_glob hg hm r hd⟩
theorem bltn {x : Str} {w : V} {u : Value} (hg : Gl X x) (hm : X.mg x = none) (hv : bootBuiltins x = some u) (r : RelV w u) (hn : x ≠ "__name__" := by decide) (hd : (x == ("__debug__" : Str)) = false := by decide) : SE X (.Name x pos) (tC w) := ⟨pe_bltn hg hm hv r hn hd⟩
/-! operations -/
theorem op {k : Operator} (ho : SO X (binaryOp k) r) (ha : SE X a ta) (hb : SE X b tb) : SE X (.BinOp a k b pos) (tOp r ta tb) := ⟨pe_op ho.h ha.h hb.h⟩
theorem cmp {k : CmpOp} (ho : SO X (compareOp k) r) (ha : SE X a ta) (hb : SE X b tb) (hm : behindInMarks k b = false := by exact nomark _) : ST X (.Compare a [k] [b] pos) (tTest (tOp r ta tb)) := ⟨pt_cmpR ho.h ha.h hb.h hm⟩
theorem cmpE {k : CmpOp} (ho : SO X (compareOp k) r) (ha : SE X a ta) (hb : SE X b tb) (hm : behindInMarks k b = false := by exact nomark _) : SE X (.Compare a [k] [b] pos) (tOp r ta tb) := ⟨pe_cmpR ho.h ha.h hb.h hm⟩
theorem o_add : SO X (binaryOp .Add) (rI0 fun i j => .int (i + j)) := ⟨op_add⟩
theorem o_sub : SO X (binaryOp .Sub) (rI0 fun i j => .int (i - j)) := ⟨op_sub⟩
theorem o_mul : SO X (binaryOp .Mult) (rI CMul fun i j => .int (i * j)) := ⟨op_mul⟩
theorem o_mod : SO X (binaryOp .Mod) (rI (fun _ j => 0 < j) fun i j => .int (i % j)) := ⟨op_mod⟩
theorem o_div : SO X (binaryOp .FloorDiv) (rI CDivB fun i j => .int (i / j)) := ⟨op_fdivB⟩
theorem o_pow : SO X (binaryOp .Pow) (rI CPow fun i j => .int (i ^ j.toNat)) := ⟨op_pow⟩
theorem o_cat : SO X (binaryOp .Add) rCat := ⟨op_cat⟩
theorem o_eq : SO X (compareOp .Eq) rEq := ⟨op_eq⟩
theorem o_ne : SO X (compareOp .NotEq) rNe := ⟨op_ne⟩
theorem o_lt : SO X (compareOp .Lt) (rI0 fun i j => .bl (decide (i < j))) := ⟨op_lt⟩
theorem o_gt : SO X (compareOp .Gt) (rI0 fun i j => .bl (decide (j < i))) := ⟨op_gt⟩
theorem o_ge : SO X (compareOp .GtE) (rI0 fun i j => .bl (decide (j ≤ i))) := ⟨op_ge⟩
theorem o_le : SO X (compareOp .LtE) (rI0 fun i j => .bl (decide (i ≤ j))) := ⟨op_le⟩
theorem o_eqD {KK : PySem.W.Frag} {m : Nat} (hu : X.A.units + (m + 1) < cLine) (hK : X.K = KK := by first | exact cxC_K | rfl) : SO X (compareOp .Eq) (fun x y H Q => ∃ b, RB KK H m x y b ∧ Q (.bl b) H) := by
  subst hK
  exact ⟨op_eqD hu⟩
theorem o_neD {KK : PySem.W.Frag} {m : Nat} (hu : X.A.units + (m + 1) < cLine) (hK : X.K = KK := by first | exact cxC_K | rfl) : SO X (compareOp .NotEq) (fun x y H Q => ∃ b, RB KK H m x y b ∧ Q (.bl (!b)) H) := by
  subst hK
  exact ⟨op_neD hu⟩
theorem o_in {KK : PySem.W.Frag} (hK : X.K = KK := by first | exact cxC_K | rfl) : SO X (compareOp .In) (rIn KK false) := by
  subst hK
  exact ⟨op_in_seq⟩
theorem o_notIn {KK : PySem.W.Frag} (hK : X.K = KK := by first | exact cxC_K | rfl) : SO X (compareOp .NotIn) (rIn KK true) := by
  subst hK
  exact ⟨op_notIn_seq⟩
theorem o_isN : SO X (compareOp .Is) (fun x y H Q => y = .non ∧ Q (.bl (decide (x = .non))) H) := ⟨op_isN⟩
/-! and, or, not -/
theorem or2 {rest : List Expr} (ha : ST X a tA) (hb : SW X (.BoolOp .Or (b :: rest) pos) uB) : SW X (.BoolOp .Or (a :: b :: rest) pos) (tOr tA uB) := ⟨pw_or ha.h hb.h⟩
theorem or1 (ha : ST X a tA) : SW X (.BoolOp .Or [a] pos) tA := ⟨pw_or1 ha.h⟩
theorem and2 {rest : List Expr} (ha : ST X a tA) (hb : SW X (.BoolOp .And (b :: rest) pos) uB) : SW X (.BoolOp .And (a :: b :: rest) pos) (tAnd tA uB) := ⟨pw_and ha.h hb.h⟩
theorem and1 (ha : ST X a tA) : SW X (.BoolOp .And [a] pos) tA := ⟨pw_and1 ha.h⟩
theorem tw (h : SW X e tA) : ST X e tA := ⟨h.h.pt⟩
theorem nt (ha : ST X a tA) : ST X (.UnaryOp .Not a pos) (tNot tA) := ⟨pt_not ha.h⟩
theorem tval (h : SE X e te) (he : ∀ whole, isTrue e X.env whole = (do let v ← whole; standAt e.pos; holding [v] (truthy v)) := by intro _; rfl) : ST X e (tB te) := ⟨pt_val h.h he⟩
/-! items, slices, displays -/
theorem ix (hr : SX X r) (ha : SE X a ta) (hb : SE X b tb) (hs : PlainIx b := by exact fun _ _ => rfl) : SE X (.Subscript a b pos) (tOp r ta tb) := ⟨pe_ix hr.h ha.h hb.h hs⟩
theorem ixL {KK : PySem.W.Frag} (hK : X.K = KK := by first | exact cxC_K | rfl) : SX X (rIxL KK) := by
  subst hK
  exact ⟨ix_list⟩
theorem ixT {KK : PySem.W.Frag} (hK : X.K = KK := by first | exact cxC_K | rfl) : SX X (rIxT KK) := by
  subst hK
  exact ⟨ix_tup⟩
theorem dget (hu : X.A.units + 1 < cLine) (ho : SE X a ta) (hi : SE X b tb) (hs : NoSl b := by exact fun _ _ => rfl) : SE X (.Subscript a b pos) (tDGet ta tb) := ⟨pe_dget hu ho.h hi.h hs⟩
theorem slL2 {KK : PySem.W.Frag} {p2 : Pos} (ha : SE X a ta) (hb : SE X b tb) (hK : X.K = KK := by first | exact cxC_K | rfl) : SE X (.Subscript a (.Slice none (some b) none p2) pos) (tSl (rSlL KK) ta tNoPart (tPart tb)) := by
  subst hK
  exact ⟨pe_slice sl_list ha.h po_none (po_some hb.h)⟩
theorem n : SA X [] tNil := ⟨an⟩
theorem k (ha : SE X e te) (hr : SA X es t) (hs : NoStar e := by first | exact ns_const | exact ns_name | exact ns_call | exact ns_bin | exact ns_sub | exact ns_tup | exact ns_lst | exact ns_cmp | exact ns_lc | exact ns_dc | exact ns_un | exact ns_bool | exact ns_attr) :
    SA X (e :: es) (tCons te t) := ⟨ac ha.h hr.h hs⟩
theorem tup {x1} (h : SA X es t) : SE X (.Tuple es x1 pos) (tTup t) := ⟨xtup h.h⟩
theorem lst (h : SA X es t) : SE X (.List es pos) (tLst t) := ⟨xlst h.h⟩
/-! calls -/
theorem callB {x : Str} {p : Pos} {id : String} {rr : List V → Hp → VK → Prop} (hc : SC X (.builtin id) rr) (hg : Gl X x) (hm : X.mg x = none) (hv : bootBuiltins x = some (.builtin id)) (ha : SA X (e :: es) t) (hn : x ≠ "__name__" := by decide) (hdb : (x == ("__debug__" : Str)) = false := by decide) :
    SE X (.Call (.Name x p) (e :: es) [] pos) (tCB rr t) := ⟨xcallB hc.h hg hm hv ha.h hn hdb⟩
theorem callT {x : Str} {p : Pos} {T : String} {rr : List V → Hp → VK → Prop} (hc : SC X (.type T) rr) (hg : Gl X x) (hm : X.mg x = none) (hv : bootBuiltins x = some (.type T)) (ha : SA X (e :: es) t) (hn : x ≠ "__name__" := by decide) (hdb : (x == ("__debug__" : Str)) = false := by decide) :
    SE X (.Call (.Name x p) (e :: es) [] pos) (tCB rr t) := ⟨xcallT hc.h hg hm hv ha.h hn hdb⟩
theorem own {x : Str} {p : Pos} {ps : List Str} {kk : Nat} {sp : Sp} (D : TW.Has X.prog X.w X.K X.mg X.base x ps kk sp) (hr : Room kk X.A) (hg : Gl X x) (ha : SA X (e :: es) t) (hdb : (x == ("__debug__" : Str)) = false := by decide) :
    SE X (.Call (.Name x p) (e :: es) [] pos) (tCall sp [] E0 t) := ⟨xown D hr hg ha.h hdb⟩
theorem bm1 {KK : PySem.W.Frag} {name : Str} {apos : Pos} {T id : String} {rr : V → List V → Hp → VK → Prop} (pa : PlainAttrs T) (slot : Slot T name id) (hty : typeOf (.builtin id) = pure (.type "method_descriptor")) (hm : SM X id rr) (ho : SE X o ta) (ha : SA X [e] t)
    (hbase : attributeBase o name X.env (eval o X.env) = eval o X.env := by rfl) (hline : (apos.endLine == pos.line) = true := by rfl) (hK : X.K = KK := by first | exact cxC_K | rfl) : SE X (.Call (.Attribute o name apos) [e] [] pos) (tBM KK T rr ta t) := by
  subst hK
  exact ⟨xbm1 pa slot hty hm.h ho.h ha.h hbase hline⟩
theorem append {KK : PySem.W.Frag} {apos : Pos} (ho : SE X o ta) (ha : SA X [e] t) (hbase : attributeBase o "append" X.env (eval o X.env) = eval o X.env := by rfl) (hline : (apos.endLine == pos.line) = true := by rfl) (hK : X.K = KK := by first | exact cxC_K | rfl) : SE X (.Call (.Attribute o "append" apos) [e] [] pos) (tBM KK "list" rAppend ta t) := by
  subst hK
  exact bm1 PySem.F.plainAttrs_list PySem.F.slot_list_append PySem.F.type_list_append ⟨mt_append⟩ ho ha hbase hline
theorem c_len {KK : PySem.W.Frag} (hK : X.K = KK := by first | exact cxC_K | rfl) : SC X (.builtin "len") (fun xs H Q => ∃ p ys, xs = [.ref p] ∧ (SqL KK H p ys ∨ SqT KK H p ys) ∧ Q (.int ys.length) H) := by
  subst hK
  exact ⟨call_len_seq⟩
theorem c_list {KK : PySem.W.Frag} (hK : X.K = KK := by first | exact cxC_K | rfl) : SC X (.type "list") (fun xs H Q => ∃ p ys, xs = [.ref p] ∧ (SqL KK H p ys ∨ SqT KK H p ys) ∧ ∀ l, H l = none → Q (.ref l) (upd H l (.lst ys))) := by
  subst hK
  exact ⟨call_list_of⟩
theorem c_int : SC X (.type "int") (fun xs H Q => (∃ i, xs = [.int i] ∧ Q (.int i) H) ∨ ∃ k, xs = [.bl k] ∧ Q (.int (if k then 1 else 0)) H) := ⟨call_int1⟩
/-! targets -/
theorem gn (i : Nat) {x : Str} (hN : X.N.Nodup) (hi : X.N[i]? = some x := by rfl) (hx : Loc X.env.scope x := by first | exact Or.inl rfl | exact Or.inr rfl) (hf : X.fn x = true ∨ X.env.scope.names.lookup x = some .local := by first | exact .inl rfl | exact .inr rfl) : SG X (.Name x pos) (gName i) := ⟨pg_name hN hi hx hf⟩
theorem gsn : SGs X [] gNil := ⟨pgs_nil⟩
theorem gsk {t : TG} {u : TGs} (h1 : SG X e t) (h2 : SGs X es u) (hs : (assignEach (e :: es) X.env).map (·.2) = assign e X.env :: (assignEach es X.env).map (·.2) := by rfl) : SGs X (e :: es) (gCons t u) := ⟨pgs_cons h1.h h2.h hs⟩
theorem gtup {KK : PySem.W.Frag} {kk : Nat} {t : TGs} (m : Nat) (h : SGs X es t) (hc : X.calm = true := by rfl) (hn : (assignEach es X.env).length = m := by rfl) (hst : (assignEach es X.env).findIdx? (·.1) = none := by rfl) (hK : X.K = KK := by first | exact cxC_K | rfl) : SG X (.Tuple es kk pos) (gTup KK m t) := by
  subst hK
  exact ⟨pg_tup hc h.h hn hst⟩
theorem gset {cc : Const} {j : Nat} {p : Pos} (ho : SE X a ta) (hi : SE X (.Constant cc j p) tb) : SG X (.Subscript a (.Constant cc j p) pos) (gSub ta tb rSetL) := ⟨pg_sub ho.h hi.h set_list (fun _ => rfl)⟩
/-! what is walked -/
theorem iL {KK : PySem.W.Frag} {tg : Expr} (h : SE X a ta) (hK : X.K = KK := by first | exact cxC_K | rfl) : SI X tg a (iList KK ta) := by
  subst hK
  exact ⟨pi_list h.h⟩
theorem iT {KK : PySem.W.Frag} {tg : Expr} (h : SE X a ta) (hK : X.K = KK := by first | exact cxC_K | rfl) : SI X tg a (iTup KK ta) := by
  subst hK
  exact ⟨pi_tup h.h⟩
theorem iR {tg : Expr} {p : Pos} (hg : Gl X "range") (hm : X.mg "range" = none) (ha : SA X [a] t) : SI X tg (.Call (.Name "range" p) [a] [] pos) (iRng1 t) := ⟨xrange1 hg hm ha.h⟩
theorem if0 : SIf X [] tIf0 := ⟨pif0⟩
/-! comprehensions -/
theorem lc {tg iter elt : Expr} {ifs : List Expr} {sc : Scope} {wi : TI} {g : TG} {tifs : TT} (src : List (Option Nat)) (N' : List Str) (S : CompScope sc X.env.scope) (hcap : capsOk sc src N' X.N = true) (hi : SI X tg iter wi)
    (hb : ∀ s H C fp xe, SG (cxC X N' sc s H C fp xe) tg g ∧ SIf (cxC X N' sc s H C fp xe) ifs tifs ∧ SE (cxC X N' sc s H C fp xe) elt te) (hc : X.calm = true := by rfl)
    (hs : ∀ x, foldedSetIterable iter X.env x = pure x := by intro _; rfl) : SE X (.ListComp elt [⟨tg, iter, ifs, 0⟩] sc pos) (tCompE src (.lst []) wi g tifs (mApp te)) :=
  ⟨pe_lc src N' hc S hcap hi.h (fun s H C fp xe => ⟨(hb s H C fp xe).1.h, (hb s H C fp xe).2.1.h, (hb s H C fp xe).2.2.h⟩) hs⟩
theorem slc {tg iter elt : Expr} {ifs : List Expr} {sc : Scope} {wi : TI} {g : TG} {tifs : TT} {i : Nat} {x : Str} {pos' pos2 : Pos} (src : List (Option Nat)) (N' : List Str) (S : CompScope sc X.env.scope) (hcap : capsOk sc src N' X.N = true) (hi : SI X tg iter wi)
    (hb : ∀ s H C fp xe, SG (cxC X N' sc s H C fp xe) tg g ∧ SIf (cxC X N' sc s H C fp xe) ifs tifs ∧ SE (cxC X N' sc s H C fp xe) elt te) (hN : X.N.Nodup) (hix : X.N[i]? = some x := by rfl) (hx : Loc X.env.scope x := by exact Or.inl rfl)
    (hsw : swapsWith (.ListComp elt [⟨tg, iter, ifs, 0⟩] sc pos) (some (.Name x pos')) pos2.line X.env = pure true := by rfl) (hc : X.calm = true := by rfl)
    (hs : ∀ x, foldedSetIterable iter X.env x = pure x := by intro _; rfl) (hf : X.fn x = true ∨ X.env.scope.names.lookup x = some .local := by first | exact .inl rfl | exact .inr rfl) :
    SS X (.Assign [.Name x pos'] (.ListComp elt [⟨tg, iter, ifs, 0⟩] sc pos) pos2) (tAsg (tCompE src (.lst []) wi g tifs (mApp te)) (gName i)) :=
  ⟨ps_lc src N' hc S hcap hi.h (fun s H C fp xe => ⟨(hb s H C fp xe).1.h, (hb s H C fp xe).2.1.h, (hb s H C fp xe).2.2.h⟩) hN hix hx hsw hs hf⟩
/-! statements -/
variable {st : Stmt} {rest : List Stmt} {u1 u2 : TS}
theorem nil : SL X [] tNext := ⟨pss_nil⟩
theorem cons (h1 : SS X st u1) (h2 : SL X rest u2) : SL X (st :: rest) (tSeq u1 u2) := ⟨pss_cons h1.h h2.h⟩
theorem one (h1 : SS X st u1) : SL X [st] u1 := ⟨pss_one h1.h⟩
theorem never : SL X rest tNever := ⟨pss_never⟩
theorem ret (he : SE X e te) : SS X (.Return (some e) pos) (tRet te) := ⟨ps_ret he.h⟩
theorem ex (he : SE X e te) (hs : swapsWith e none pos.line X.env = pure false := by rfl) : SS X (.Expr e pos) (tDrop te) := ⟨ps_expr he.h hs⟩
theorem ifs {tc : TT} {x y : List Stmt} (hc : ST X c tc) (ha : SL X x u1) (hb : SL X y u2) : SS X (.If c x y pos) (tIfS tc u1 u2) := ⟨ps_if hc.h ha.h hb.h⟩
theorem set (i : Nat) {x : Str} {pos' : Pos} (hN : X.N.Nodup) (he : SE X e te) (hi : X.N[i]? = some x := by rfl) (hx : Loc X.env.scope x := by first | exact Or.inl rfl | exact Or.inr rfl) (hs : swapsWith e (some (.Name x pos')) pos.line X.env = pure false := by rfl) (hf : X.fn x = true ∨ X.env.scope.names.lookup x = some .local := by first | exact .inl rfl | exact .inr rfl) :
    SS X (.Assign [.Name x pos'] e pos) (tAsg te (gName i)) := ⟨ps_set hN hi hx he.h hs hf⟩
theorem asg {tg : Expr} {g : TG} (he : SE X e te) (hg : SG X tg g) (hs : swapsWithSole [tg] e pos.line X.env = pure false := by rfl) (hw : swappedStores [tg] e X.env = pure none := by rfl)
    (h1 : (assignEach [tg] X.env).map (·.2) = [assign tg X.env] := by rfl) : SS X (.Assign [tg] e pos) (tAsg te g) := ⟨ps_asg he.h hg.h hs hw h1⟩
theorem for_ {tg iter : Expr} {body : List Stmt} {wi : TI} {g : TG} (hi : SI X tg iter wi) (hg : SG X tg g) (hb : SL X body u1) (hp : PassesOwn (model X.prog X.w) X.A X.env X.xe := by exact PassesOwn.never) (hc : X.calm = true := by rfl)
    (hs : ∀ x, foldedSetIterable iter X.env x = pure x := by intro _; rfl) : SS X (.For tg iter body [] pos) (tFor wi g u1) := ⟨ps_for hp hc hi.h hg.h hb.h hs⟩
end
end L3
set_option Elab.async false
set_option linter.all false
set_option maxRecDepth 100000
namespace L3
open PySem PySem.Spec PyProof.Rows L2
section
variable {X : Cx} {a b c e o : Expr} {es : List Expr} {ta tb tc te : TE} {t : TA} {tA uB : TT} {pos : Pos} {r : R2}
theorem neg (ha : SE X a ta) : SE X (.UnaryOp .USub a pos) (tUn (rU fun i => .int (-i)) ta) := ⟨pe_un un_neg ha.h⟩
theorem ntE (ha : SE X a ta) : SE X (.UnaryOp .Not a pos) (tNotV ta) := ⟨pe_not ha.h⟩
theorem andE2 {rest : List Expr} (ha : SE X a ta) (hb : SE X (.BoolOp .And (b :: rest) pos) tb) : SE X (.BoolOp .And (a :: b :: rest) pos) (tAndV ta tb) := ⟨pe_and ha.h hb.h⟩
theorem orE2 {rest : List Expr} (ha : SE X a ta) (hb : SE X (.BoolOp .Or (b :: rest) pos) tb) : SE X (.BoolOp .Or (a :: b :: rest) pos) (tOrV ta tb) := ⟨pe_or ha.h hb.h⟩
theorem oneE {op} (ha : SE X a ta) : SE X (.BoolOp op [a] pos) ta := ⟨pe_one ha.h⟩
theorem ifE (hc : ST X c tA) (ha : SE X a ta) (hb : SE X b tb) : SE X (.IfExp c a b pos) (tIf tA ta tb) := ⟨pe_ifExp hc.h ha.h hb.h⟩
theorem o_notN : SO X (compareOp .IsNot) (fun x y H Q => y = .non ∧ Q (.bl (!decide (x = .non))) H) := ⟨op_notN⟩
end
end L3
set_option Elab.async false
set_option linter.all false
set_option maxRecDepth 100000
namespace L2
open PySem PySem.Spec PyProof.Rows
/-! ### len(set(xs)), xs a list of unlike texts -/
end L2
set_option Elab.async false
set_option linter.all false
set_option maxRecDepth 100000
namespace L2
open PySem PySem.Spec PyProof.Rows
end L2
namespace L3
open PySem PySem.Spec PyProof.Rows L2
end L3
set_option Elab.async false
set_option linter.all false
set_option maxRecDepth 100000
namespace PySem
open Sem (wp)
/-! ### a zip whose tuple is handed out -/
end PySem
set_option Elab.async false
set_option linter.all false
set_option maxRecDepth 100000
namespace PySem
end PySem
set_option Elab.async false
set_option linter.all false
set_option maxRecDepth 100000
namespace L2
open PySem PySem.Spec PyProof.Rows
/-! ### dict(zip(a, b)), two lists of one length, the first of keys -/
end L2
set_option Elab.async false
set_option linter.all false
set_option maxRecDepth 100000
namespace L2
open PySem PySem.Spec PyProof.Rows
end L2
namespace L3
open PySem PySem.Spec PyProof.Rows L2
end L3
set_option Elab.async false
set_option linter.all false
set_option maxRecDepth 100000
namespace L2
open PySem PySem.Spec PyProof.Rows
end L2
namespace L3
open PySem PySem.Spec PyProof.Rows L2
section
variable {X : Cx} {a b c e o : Expr} {es : List Expr} {ta tb tc te : TE} {t : TA} {pos : Pos}
theorem extend {apos : Pos} {KK : PySem.W.Frag} (ho : SE X o ta) (ha : SA X [e] t) (hbase : attributeBase o "extend" X.env (eval o X.env) = eval o X.env := by rfl) (hline : (apos.endLine == pos.line) = true := by rfl) (hK : X.K = KK := by first | exact cxC_K | rfl) :
    SE X (.Call (.Attribute o "extend" apos) [e] [] pos) (tBM KK "list" rExtend ta t) := by
  subst hK
  exact bm1 PySem.F.plainAttrs_list PySem.F.slot_list_extend PySem.F.type_list_extend ⟨mt_extend⟩ ho ha hbase hline
theorem dget2 {f : Expr} {tf : TE} {apos : Pos} (hu : X.A.units + 1 < cLine) (ho : SE X o ta) (he : SE X e te) (hf : SE X f tf) (m : M2 X o "get" apos e f pos := by exact ⟨rfl, rfl, rfl, rfl⟩) : SE X (.Call (.Attribute o "get" apos) [e, f] [] pos) (tDGet2 ta te tf) := ⟨pe_dget2 hu ho.h he.h hf.h m⟩
end
end L3
set_option Elab.async false
set_option linter.all false
set_option maxRecDepth 100000
/-! ### keys that are tuples with tuples within -/
namespace L2
open PySem PySem.Spec PyProof.Rows
end L2
set_option Elab.async false
set_option linter.all false
set_option maxRecDepth 100000
/-! ### a dict whose keys are tuples with tuples within -/
namespace L2
open PySem PySem.Spec PyProof.Rows
end L2
namespace L3
open PySem PySem.Spec PyProof.Rows L2
section
variable {X : Cx} {a b c e o : Expr} {es : List Expr} {ta tb tc te : TE} {t : TA} {pos pos' : Pos} {P : Program} {w : World}
theorem c_tuple {KK : PySem.W.Frag} (hK : X.K = KK := by first | exact cxC_K | rfl) : SC X (.type "tuple") (fun xs H Q => ∃ p ys, xs = [.ref p] ∧ SqL KK H p ys ∧ ∀ l, H l = none → Q (.ref l) (upd H l (.tup ys))) := by
  subst hK
  refine ⟨fun pins s σ H xs us Q I r h => ?_⟩
  obtain ⟨p, ys, e, hq, q⟩ := h
  exact call_tuple_of pins s σ H xs us Q I r ⟨p, ys, e, .inl ⟨hq, q⟩⟩
theorem c_min (hc : X.calm = true := by rfl) : SC X (.builtin "min") (fun xs H Q => ∃ i j, xs = [.int i, .int j] ∧ Q (.int (if j < i then j else i)) H) := ⟨call_min2 hc⟩
end
end L3
set_option Elab.async false
set_option linter.all false
set_option maxRecDepth 100000
namespace L2
open PySem PySem.Spec PyProof.Rows
/-- list(range(n)) -/
def tListRng (ta : TA) : TE := fun σ H Q => ta σ H fun vs H1 => ∃ n : Nat, vs = [.int n] ∧ n ≤ 100000 ∧ ∀ l, H1 l = none → Q (.ref l) (upd H1 l (.lst ((List.range n).map fun i : Nat => V.int i)))
section
variable {X : Cx} {a b : Expr} {ta : TA} {tx ty : TE} {p1 p2 pos pos2 : Pos}
theorem pe_listrng (hc : X.calm = true) (hg1 : Gl X "list") (hm1 : X.mg "list" = none) (hg2 : Gl X "range") (hm2 : X.mg "range" = none) (ha : PAs X [a] ta) (hv1 : bootBuiltins "list" = some (.type "list") := by first | rfl | decide +kernel) :
    PE X (.Call (.Name "list" p1) [.Call (.Name "range" p2) [a] [] pos2] [] pos) (tListRng ta) := by
  intro pins s σ H Q I h
  refine wpAny_Call_Name_kw (ld_blt I hg1 hm1 hv1 ?_ (by decide) (by decide))
  refine PyProof.Rows.callWith_type1 ?_ rfl rfl
  show wpAny _ _ (spliced ((false, eval (.Call (.Name "range" p2) [a] [] pos2) X.env) :: [])) _ _ s
  refine Calls.spliced_cons (wpAny_Call_Name_kw (ld_blt I hg2 hm2 boot_range ?_ (by decide) (by decide)))
  refine PyProof.Rows.callWith_type1 (thn (ha.pa pos2 pins s σ H _ I h) fun us s1 ⟨vs, H1, I1, r1, q1⟩ => ?_) ((ha.ns a [] rfl).1.h [] X.env) ((ha.ns a [] rfl).2 pos2 X.env)
  obtain ⟨n, e, hn, q⟩ := q1
  subst e
  obtain ⟨u, rfl, ru⟩ := vals1 r1
  obtain ⟨t, rfl⟩ := ru
  refine call_range_1 ?_
  refine Calls.spliced_nil ?_
  have I2 : Inv X pins σ H1 { s1 with heap := s1.heap.push { cls := .type "range", data := .fields #[.int 0 s1.toks, .int n t, .int 1 (s1.toks + 1)] }, toks := s1.toks + 1 + 1 } := I1.kept (t' := s1.toks + 1 + 1) fun b o e => Heap.get?_push_of_some _ e
  have sz : Builtin.Range.rangeSize 0 n 1 = (n : Int) := by
    unfold Builtin.Range.rangeSize
    rw [if_pos (by decide)]
    by_cases z : (0 : Int) < n
    · rw [if_pos z, Int.ediv_one]
      omega
    · rw [if_neg z]
      omega
  have sm : Builtin.Range.small 0 n 1 = true := by
    exact small_one (by omega) (by omega) (by omega) (by omega)
  refine call_list_range (n := n) (I2.ok.hd hc) (Heap.get?_push_size _ rfl) sm sz (Nat.le_trans hn (by decide)) fun h' tk acc c' hk hS hacc => ?_
  refine ⟨V.ref (s1.heap.push { cls := .type "range", data := .fields #[.int 0 s1.toks, .int n t, .int 1 (s1.toks + 1)] }).objs.size, _, I2.laid (a := (s1.heap.push { cls := .type "range", data := .fields #[.int 0 s1.toks, .int n t, .int 1 (s1.toks + 1)] }).objs.size) (o := .lst ((List.range n).map fun i : Nat => V.int i)) (t' := tk) hk (Nat.le_refl _) ⟨by rw [List.length_map, List.length_range]; exact Nat.le_trans hn (by decide), acc.toList, c', ?_, by simpa using hS⟩, rfl, q _ (I2.hok.fresh (Nat.le_refl _))⟩
  have go : ∀ (l : List Value) (m : Nat), (∀ j v, l[j]? = some v → ∃ t, v = Value.int ((m + j : Nat) : Int) t) → Vals ((List.range' m l.length).map fun i : Nat => V.int i) l := by
    intro l
    induction l with
    | nil => intro m _; exact .nil
    | cons v r ih =>
      intro m hl
      obtain ⟨t, e⟩ := hl 0 v rfl
      refine .cons ⟨t, e⟩ (ih (m + 1) fun j v hj => ?_)
      obtain ⟨t, e⟩ := hl (j + 1) v hj
      exact ⟨t, by rw [e, show m + 1 + j = m + (j + 1) by omega]⟩
  have z := go acc.toList 0 fun j v hj => by
    obtain ⟨t, e⟩ := hacc.2 j v (by rw [← Array.getElem?_toList]; exact hj)
    exact ⟨t, by rw [e, show (0 : Int) + (j : Int) * 1 = ((0 + j : Nat) : Int) by omega]⟩
  rw [Array.length_toList, hacc.1, ← List.range_eq_range'] at z
  exact z
end
end L2
namespace L3
open PySem PySem.Spec PyProof.Rows L2
section
variable {X : Cx} {a b c e o : Expr} {es : List Expr} {ta tb tc te : TE} {t : TA} {pos : Pos}
theorem listrng {p1 p2 pos2 : Pos} (hg1 : Gl X "list") (hm1 : X.mg "list" = none) (hg2 : Gl X "range") (hm2 : X.mg "range" = none) (ha : SA X [a] t) (hc : X.calm = true := by rfl) : SE X (.Call (.Name "list" p1) [.Call (.Name "range" p2) [a] [] pos2] [] pos) (tListRng t) := ⟨pe_listrng hc hg1 hm1 hg2 hm2 ha.h⟩
theorem slL1 {KK : PySem.W.Frag} {p2 : Pos} (ha : SE X a ta) (hb : SE X b tb) (hK : X.K = KK := by first | exact cxC_K | rfl) : SE X (.Subscript a (.Slice (some b) none none p2) pos) (tSl (rSlL KK) ta (tPart tb) tNoPart) := by
  subst hK
  exact ⟨pe_slice sl_list ha.h (po_some hb.h) po_none⟩
end
end L3
set_option Elab.async false
set_option linter.all false
/-! ### runs of a step function -/
namespace TW
end TW
set_option Elab.async false
set_option linter.all false
set_option maxRecDepth 100000
namespace L2
open PySem PySem.Spec PyProof.Rows
end L2
namespace L3
open PySem PySem.Spec PyProof.Rows L2
end L3
set_option Elab.async false
set_option linter.all false
set_option maxRecDepth 100000
namespace L2
open PySem PySem.Spec PyProof.Rows SeqAt
end L2
namespace L3
open PySem PySem.Spec PyProof.Rows L2
end L3
set_option Elab.async false
set_option linter.all false
set_option maxRecDepth 100000
/-! ### exceptions: how one lies behind a call -/
namespace L2
open PySem PySem.Spec PyProof.Rows
end L2
set_option Elab.async false
set_option linter.all false
set_option maxRecDepth 100000
/-! ### own refusals: their classes, texts with parts, raise -/
namespace L2
open PySem PySem.Spec PyProof.Rows
/-! texts with parts -/
end L2
set_option Elab.async false
set_option linter.all false
set_option maxRecDepth 100000
namespace L2
open PySem PySem.Spec PyProof.Rows PySem.W PySem.Builtin PySem.Builtin.ObjectAttr PySem.Builtin.Getset_descriptor
end L2
set_option Elab.async false
set_option linter.all false
set_option maxRecDepth 100000
/-! ### an exception is caught -/
namespace L2
open PySem PySem.Spec PyProof.Rows
section
variable {M : Model} {A : Around} {E : Value → Shared → Prop} {s : Shared} {nm q : Str} {C N : Addr} {bs bm : List Value} {hdct : Bool} {sn : List Str} {sub : List Value} {ab : Bool} {col : Option Bool} {dd : Option Addr} {k0 k1 k2 k3 k5 : Option Value} {newId : String}
  {nm' q' : Str} {T N' : Addr} {bs' bm' : List Value} {hdct' : Bool} {sn' : List Str} {sub' : List Value} {ab' : Bool} {col' : Option Bool} {dd' : Option Addr} {j0 j1 j2 j3 j5 : Option Value} {newId' : String}
end
end L2
set_option Elab.async false
set_option linter.all false
set_option maxRecDepth 100000
/-! ### try .. except T as e: c = e -/
namespace L2
open PySem PySem.Spec PyProof.Rows
end L2
set_option Elab.async false
set_option linter.all false
set_option maxRecDepth 100000
/-! ### defs that may refuse -/
namespace L2
open PySem PySem.Spec PyProof.Rows
theorem vals_refs : ∀ {ds : List Addr} {its : List Value}, Vals (ds.map V.ref) its → its = ds.map Value.ref
  | [], _, .nil => rfl
  | d :: ds, _, .cons r t => by rw [vals_refs t, show _ = Value.ref d from r]; rfl
end L2
namespace TW
open PySem L2
end TW
namespace L3
open PySem PySem.Spec PyProof.Rows L2
end L3
set_option Elab.async false
set_option linter.all false
set_option maxRecDepth 100000
/-! ### count and index in a list of truths -/
namespace L2
open PySem PySem.Spec PyProof.Rows
end L2
namespace L3
open PySem PySem.Spec PyProof.Rows L2
end L3
set_option Elab.async false
set_option linter.all false
set_option maxRecDepth 100000
namespace L2
open PySem PySem.Spec PyProof.Rows
/-! ### len(set(xs)), xs a list of texts, some of them perhaps alike -/
section
variable {X : Cx} {a : Expr} {ta : TA} {p1 p2 pos pos2 : Pos}
/-! ### xs.insert(i, y) -/
def rInsert : V → List V → Hp → VK → Prop := fun x vs H Q => ∃ l xs y i, x = .ref l ∧ vs = [.int i, y] ∧ H l = some (.lst xs) ∧ 0 ≤ i ∧ i ≤ (xs.length : Int) ∧ xs.length < 1000 ∧ Q .non (upd H l (.lst (xs.take i.toNat ++ y :: xs.drop i.toNat)))
theorem mt_insert : MtM X "list.insert" rInsert := by
  intro pins s σ H x vs v us Q I rx rv h
  obtain ⟨l, xs, y, i, rfl, rfl, hH, h0, hk, hz, q⟩ := h
  cases rx
  obtain ⟨u1, u, rfl, ⟨tk, rfl⟩, ru⟩ := Vals.two rv
  obtain ⟨z, its, n, r, hl, e⟩ := I.lstM hH
  have hlen := r.length
  have fits : ¬(!Builtin.List.listFitsIndex i) = true := by
    have : Builtin.List.listFitsIndex i = true := by
      unfold Builtin.List.listFitsIndex
      simp
      omega
    simp [this]
  have few : its.toArray.size ≤ sizeLine := by rw [List.size_toArray]; exact Nat.le_trans (show _ ≤ 1000 by omega) (by decide)
  refine call_meets F.slot_list_insert ⟨_, e, rfl⟩ F.entry_list_insert (F.args_list_insert_3 _ _ _) (PySem.AutoSeq1.list_insert_list_int_val_1 l its.toArray n i tk u fits few) ⟨e, ?_⟩
  refine ⟨.non, _, I.lset (its' := its.take i.toNat ++ u :: its.drop i.toNat) hH e ?_ ((r.take i.toNat).append (.cons ru (r.drop i.toNat))) ?_, rfl, q⟩
  · have e1 : (if i < 0 then (i + (its.toArray.size : Int)).toNat else min i.toNat its.toArray.size) = i.toNat := by
      rw [if_neg (by omega), List.size_toArray]
      omega
    dsimp only
    rw [e1]
    apply Array.ext'
    simp
    exact List.take_of_length_le (by rw [List.length_drop]; exact Nat.le_refl _)
  · rw [List.length_append, List.length_cons, List.length_take, List.length_drop]
    exact Nat.le_trans (show _ ≤ 1000 by omega) (by decide)
end
end L2
namespace L3
open PySem PySem.Spec PyProof.Rows L2
section
variable {X : Cx} {a b c e o : Expr} {es : List Expr} {ta tb tc te : TE} {t : TA} {pos : Pos}
theorem insert {apos : Pos} {KK : PySem.W.Frag} {e1 e2 : Expr} (ho : SE X o ta) (ha : SA X [e1, e2] t) (hn : NoStar e2 := by first | exact ns_const | exact ns_name | exact ns_call | exact ns_sub) (hbase : attributeBase o "insert" X.env (eval o X.env) = eval o X.env := by rfl) (hline : (apos.endLine == pos.line) = true := by rfl) (hK : X.K = KK := by first | exact cxC_K | rfl) :
    SE X (.Call (.Attribute o "insert" apos) [e1, e2] [] pos) (tBM KK "list" rInsert ta t) := by
  subst hK
  exact ⟨pe_bm PySem.F.plainAttrs_list PySem.F.slot_list_insert PySem.F.type_list_insert mt_insert ho.h ha.h.pa hbase (by rw [(ha.h.ns e1 [e2] rfl).1.h [e2] X.env, hn.h [] X.env]; rfl) hline ((ha.h.ns e1 [e2] rfl).1.h [e2] X.env) ((ha.h.ns e1 [e2] rfl).2 pos X.env)⟩
end
end L3
set_option Elab.async false
set_option linter.all false
set_option maxRecDepth 100000
namespace L2
open PySem PySem.Spec PyProof.Rows
/-! ### a comprehension of two clauses -/
end L2
namespace L3
open PySem PySem.Spec PyProof.Rows L2
end L3
set_option Elab.async false
set_option linter.all false
set_option maxRecDepth 100000
namespace L2
open PySem PySem.Spec PyProof.Rows
/-! ### xs[::-1] -/
end L2
namespace L3
open PySem PySem.Spec PyProof.Rows L2
end L3
set_option Elab.async false
set_option linter.all false
/-! ### runs of one step function by those of another one -/
namespace TW
end TW
set_option Elab.async false
set_option linter.all false
set_option maxRecDepth 100000
namespace L3
open PySem PySem.Spec PyProof.Rows L2
section
variable {X : Cx} {a b o i value : Expr} {ta tb td ty tv : TE} {pos : Pos}
theorem slT2 {KK : PySem.W.Frag} {p2 : Pos} (ha : SE X a ta) (hb : SE X b tb) (hK : X.K = KK := by first | exact cxC_K | rfl) : SE X (.Subscript a (.Slice none (some b) none p2) pos) (tSl (rSlT KK) ta tNoPart (tPart tb)) := by
  subst hK
  exact ⟨pe_slice sl_tup ha.h po_none (po_some hb.h)⟩
theorem o_catT {KK : PySem.W.Frag} (hK : X.K = KK := by first | exact cxC_K | rfl) : SO X (binaryOp .Add) (rCatT KK) := by
  subst hK
  exact ⟨op_catT⟩
theorem dput {pos' : Pos} (hu : X.A.units + 1 < cLine) (ho : SE X o td) (hi : SE X i ty) (hv : SE X value tv) (hs : swapsWith value (some (.Subscript o i pos')) pos.line X.env = pure false := by rfl) : SS X (.Assign [.Subscript o i pos'] value pos) (sDPut td ty tv) := ⟨ps_dput hu ho.h hi.h hv.h hs⟩
end
end L3
set_option Elab.async false
set_option linter.all false
set_option maxRecDepth 100000
namespace L2
open PySem PySem.Spec PyProof.Rows
/-! ### xs[::n], n one or minus one -/
/-! ### a text and a text -/
/-! ### xs.index(n), a list of whole numbers -/
end L2
namespace L3
open PySem PySem.Spec PyProof.Rows L2
section
variable {X : Cx} {a b c e o : Expr} {es : List Expr} {ta tb tc te : TE} {t : TA} {pos : Pos}
theorem dnewT : SE X (.Dict [] [] pos) tDNewT := ⟨pe_dnewT⟩
end
end L3
set_option Elab.async false
set_option linter.all false
set_option maxRecDepth 100000
/-! ### d.update(e), both dicts of tuples -/
namespace L2
open PySem PySem.Spec PyProof.Rows
section
variable {prog : Program} {w : World} {K : Type} [DecidableEq K] {knd : HeapKind prog w K} {A : Around} {E : Value → Shared → Prop} {s : Shared}
theorem setHashed_heap {d a : Addr} {xs : List (K × Addr × Value)} {k : K} {v : Value} {Q : Unit → Shared → Prop} (hu : knd.room A) (hkey : knd.is s.heap k a) (hm : s.heap.DictOfH knd d xs) (hsz : xs.length ≤ sizeLine)
    (hQ : ∀ h', h'.DictOfH knd d (storedH xs k a v) → Heap.SameBut d s.heap h' → Q () { s with heap := h' }) : wpAny (model prog w) A (dictSetHashed d (.ref a) (knd.hash k) v) Q E s := by
  obtain ⟨o, es, ep, ho, hc, hd, he, his, hn⟩ := hm
  have hes : es.size ≤ sizeLine := by rw [size_of_entries he]; exact hsz
  unfold dictSetHashed
  try with_reducible refine wpAny_holding ?_
  refine wpAny_bind (wpAny_dictFind_heap hu hkey ho hd he his hn (fun hno => ?_) (fun j p hj => ?_))
  · have e0 := storedH_new (atKey_none_of_get hno) a v
    have hnot := not_mem_keys_of_get hno
    refine wpAny_bind (wpAny_rule (wpAny_updateDictKeys (hz := hes) ho hd (hQ _ ⟨_, _, ep + 1, Heap.get?_update_self _ ho (Obj.isFreed_of_dict (Obj.data_mapDictKeys hd _)), hc.mapDictKeys _, Obj.data_mapDictKeys hd _, ?_, ?_, ?_⟩ (Heap.SameBut.update ..))))
    · rw [e0]
      simp [he, entryOfKey]
    · rw [e0]
      intro x hx
      have h2 : knd.is s.heap x.1 x.2.1 := by
        rcases List.mem_append.mp hx with hx | hx
        · exact his x hx
        · have ex : x = (k, a, v) := by simpa using hx
          subst ex
          exact hkey
      exact knd.keeps h2 ho hd (Heap.SameBut.update ..)
    · rw [e0, List.map_append, List.nodup_append]
      refine ⟨hn, by simp, fun x hx y hy => ?_⟩
      have ey : y = k := by simpa using hy
      subst ey
      exact fun e => hnot (e ▸ hx)
  · have e0 := storedH_old (atKey_of_get hn hj) a v
    refine wpAny_bind (wpAny_rule (wpAny_bind (wpAny_updateDict ho hd (wpAny_point (hQ _ ⟨_, _, ep, Heap.get?_update_self _ ho (Obj.isFreed_of_dict (Obj.data_mapDict hd _)), hc.mapDict _, Obj.data_mapDict hd _, ?_, ?_, ?_⟩ (Heap.SameBut.update ..))))))
    · rw [e0]
      have := modify_map_putAt (entryOfKey knd) (fun e : DictEntry => { e with val := v }) k v (fun _ _ => rfl) hn hj
      rw [← he] at this
      obtain ⟨l⟩ := es
      simpa using this
    · rw [e0]
      intro x hx
      obtain ⟨y, hy, rfl⟩ := List.mem_map.mp hx
      unfold putAt
      split <;> exact knd.keeps (his y hy) ho hd (Heap.SameBut.update ..)
    · rw [e0, keys_map_putAt]
      exact hn
def mergedH (xs more : List (K × Addr × Value)) : List (K × Addr × Value) := more.foldl (fun acc x => storedH acc x.1 x.2.1 x.2.2) xs
theorem storedH_len (xs : List (K × Addr × Value)) (k : K) (a : Addr) (v : Value) : (storedH xs k a v).length ≤ xs.length + 1 := by
  unfold storedH
  split <;> simp
theorem mergedH_len : ∀ (more xs : List (K × Addr × Value)), (mergedH xs more).length ≤ xs.length + more.length
  | [], xs => Nat.le_refl _
  | x :: r, xs => by
    have h1 := mergedH_len r (storedH xs x.1 x.2.1 x.2.2)
    have h2 := storedH_len xs x.1 x.2.1 x.2.2
    show (mergedH (storedH xs x.1 x.2.1 x.2.2) r).length ≤ _
    rw [List.length_cons]
    omega
theorem mergedH_take {xs more : List (K × Addr × Value)} {i : Nat} {x : K × Addr × Value} (h : more[i]? = some x) : mergedH xs (more.take (i + 1)) = storedH (mergedH xs (more.take i)) x.1 x.2.1 x.2.2 := by
  unfold mergedH
  rw [List.take_add_one, h, List.foldl_append]
  rfl
theorem mergeH {nm : String} {d o : Addr} {xs more : List (K × Addr × Value)} {Q : Unit → Shared → Prop} (hu : knd.room A) (hdo : d ≠ o) (hoS : (o == sysModules) = false) (hd : s.heap.DictOfH knd d xs) (ho : s.heap.DictOfH knd o more) (hne : xs ≠ [] ∨ more = []) (hsz : xs.length + more.length ≤ sizeLine)
    (hQ : ∀ h', h'.DictOfH knd d (mergedH xs more) → Heap.SameBut d s.heap h' → Q () { s with heap := h' }) : wpAny (model prog w) A (Builtin.Dict.mergeDict nm d o) Q E s := by
  obtain ⟨od, esd, epd, hod, hcd, hdd, hed, hisd, hnd⟩ := id hd
  obtain ⟨oo, eso, epo, hoo, hco, hdo', heo, hiso, hno⟩ := id ho
  have hlen : eso.size = more.length := size_of_entries heo
  unfold Builtin.Dict.mergeDict
  rw [if_neg (by simpa using hdo)]
  unfold Builtin.Dict.showsAll
  rw [if_neg (by rw [hoS]; exact Bool.false_ne_true)]
  refine wpAny_bind (wpAny_pure ?_)
  refine wpAny_bind (wpAny_dictEntries hoo hdo' ?_)
  have loop : wpAny (model prog w) A (do
      let epoch ← dictEpoch o
      let l ← dictEntries o
      forIn [:l.size] PUnit.unit fun i (_ : PUnit) => (do
          let l' ← dictEntries o
          match l'[i]? with
            | some e => do
              holding [e.key, e.val] (dictSetHashed d e.key e.hash e.val)
              let ep' ← dictEpoch o
              if (ep' != epoch) = true then do
                  (unsupported (toString nm ++ toString ":source-changed-during-callback") : Sem PUnit)
                  pure (ForInStep.yield PUnit.unit)
                else pure (ForInStep.yield PUnit.unit)
            | _ => do
              (unsupported "internal:dict-merge" : Sem PUnit)
              pure (ForInStep.yield PUnit.unit) : Sem (ForInStep PUnit))
      pure ()) Q E s := by
    refine wpAny_bind (wpAny_dictEpoch hoo hdo' ?_)
    refine wpAny_bind (wpAny_dictEntries hoo hdo' ?_)
    refine wpAny_bind ?_
    rw [Std.Legacy.Range.forIn_eq_forIn_range']
    simp only [Std.Legacy.Range.size, Nat.sub_zero, Nat.add_sub_cancel, Nat.div_one]
    refine wpAny_forIn_list _ (fun rest _ s' => ∃ h' i, s' = { s with heap := h' } ∧ rest = List.range' i (eso.size - i) ∧ i ≤ eso.size ∧ h'.DictOfH knd d (mergedH xs (more.take i)) ∧ h'.get? o = some oo ∧ Heap.SameBut d s.heap h') _ ?_ ?_ _ _
      ⟨s.heap, 0, rfl, by simp, Nat.zero_le _, hd, hoo, Heap.SameBut.refl _ _⟩
    · rintro x rest b s' ⟨h', i, rfl, hr, hi, hd', hoo', hs'⟩
      have hlt : i < eso.size := by
        rcases Nat.lt_or_ge i eso.size with h | h
        · exact h
        · rw [Nat.sub_eq_zero_of_le h] at hr
          simp at hr
      obtain ⟨rfl, hrest⟩ : x = i ∧ rest = List.range' (i + 1) (eso.size - (i + 1)) := by
        have e : eso.size - i = (eso.size - (i + 1)) + 1 := by omega
        rw [e, List.range'_succ] at hr
        injection hr with h1 h2
        exact ⟨h1, h2⟩
      refine wpAny_bind (wpAny_dictEntries hoo' hdo' ?_)
      have hml : x < more.length := by omega
      have hkv : more[x]? = some more[x] := List.getElem?_eq_getElem hml
      have hex : eso[x]? = some (entryOfKey knd more[x]) := by rw [entry_at heo x, hkv]; rfl
      rw [hex]
      have hmx : (mergedH xs (more.take x)).length ≤ sizeLine := by
        have e1 := mergedH_len (more.take x) xs
        have e2 : (more.take x).length ≤ more.length := by rw [List.length_take]; omega
        omega
      have his2 : knd.is h' more[x].1 more[x].2.1 := knd.keeps (hiso _ (List.getElem_mem hml)) hod hdd hs'
      show wpAny _ _ (holding [_, _] (dictSetHashed d (.ref more[x].2.1) (knd.hash more[x].1) more[x].2.2) >>= _) _ _ _
      refine wpAny_bind (wpAny_holding (setHashed_heap hu his2 hd' hmx fun h'' hd'' hs'' => ?_))
      have hoo'' : h''.get? o = some oo := (hs''.2 o (Ne.symm hdo)).trans hoo'
      refine wpAny_bind (wpAny_dictEpoch hoo'' hdo' ?_)
      rw [if_neg (by simp)]
      exact wpAny_pure ⟨h'', x + 1, rfl, hrest, hlt, by rw [mergedH_take hkv]; exact hd'', hoo'', hs'.trans hs''⟩
    · rintro b s' ⟨h', i, rfl, hr, hi, hd', hoo', hs'⟩
      have hin : i = eso.size := by
        rcases Nat.lt_or_ge i eso.size with h | h
        · have e : eso.size - i = (eso.size - (i + 1)) + 1 := by omega
          rw [e, List.range'_succ] at hr
          exact nomatch hr
        · exact Nat.le_antisymm hi h
      refine wpAny_pure (hQ h' ?_ hs')
      rw [hin, hlen, List.take_length] at hd'
      exact hd'
  dsimp only
  split
  · rename_i hfew
    refine wpAny_bind (wpAny_dictEntries hod hdd ?_)
    split
    · rename_i hemp
      exfalso
      rcases hne with z | z
      · have h0 : esd = #[] := Array.isEmpty_iff.mp hemp
        rw [h0] at hed
        exact z (List.length_eq_zero_iff.mp (by have := congrArg List.length hed; simpa using this.symm))
      · have h0 : eso = #[] := by
          rw [z] at hlen
          exact Array.eq_empty_of_size_eq_zero hlen
        rw [h0] at hfew
        simp at hfew
    · exact loop
  · exact loop
end
section
variable {X : Cx} {pins : List (Addr × Obj)} {σ : St} {H : Hp} {s : Shared} {E : Value → Shared → Prop}
def putAllT (d : List (List Key × V)) (kvs : List (List Key × V)) : List (List Key × V) := kvs.foldl (fun d p => putK d p.1 p.2) d
theorem putAllT_len : ∀ (kvs d : List (List Key × V)), (putAllT d kvs).length ≤ d.length + kvs.length
  | [], d => by simp [putAllT]
  | p :: r, d => by
    have h := putAllT_len r (putK d p.1 p.2)
    have h2 := length_putK d p.1 p.2
    show (putAllT (putK d p.1 p.2) r).length ≤ _
    rw [List.length_cons]
    omega
theorem KT.merge {H : Hp} : ∀ {kv2 : List (List Key × V)} {more : List (List Key × Addr × Value)}, KT H kv2 more → ∀ {kvs : List (List Key × V)} {xs : List (List Key × Addr × Value)}, KT H kvs xs → KT H (putAllT kvs kv2) (mergedH xs more) := by
  intro kv2 more r
  induction r with
  | nil => exact fun h => h
  | @cons p q ps qs h t ih =>
    intro kvs xs k
    obtain ⟨h1, h2, h3⟩ := h
    have k2 := k.put p.1 h2 h3
    rw [h1] at k2
    have e : putAllT kvs (p :: ps) = putAllT (putK kvs q.1 p.2) ps := by rw [← h1]; rfl
    rw [e]
    exact ih k2
theorem d_update {d o : Addr} {kvs kv2 : List (List Key × V)} {Q : Value → Shared → Prop} (hu : X.A.units + 1 < cLine) (I : Inv X pins σ H s) (ed : H d = some (.dT kvs)) (eo : H o = some (.dT kv2)) (hdo : d ≠ o) (hne : kvs ≠ [] ∨ kv2 = []) (hsz : kvs.length + kv2.length ≤ sizeLine)
    (h : ∀ s', Inv X pins σ (upd H d (.dT (putAllT kvs kv2))) s' → Q .none s') : wpAny (model X.prog X.w) X.A (call (.builtin "dict.update") [.ref d, .ref o]) Q E s := by
  obtain ⟨z1, hd1, xs, rel1, dd1⟩ := dt_of I.hok ed
  obtain ⟨z2, hd2, more, rel2, dd2⟩ := dt_of I.hok eo
  have l1 := Paired.length rel1
  have l2 := Paired.length rel2
  have M : MeetsIn X.prog X.w (Builtin.«dict.update» ⟨[.ref d, .ref o], []⟩) (fun B R s => (tupleKind (mixKind X.prog X.w)).room B.in1 ∧ s.heap.DictOfH (tupleKind (mixKind X.prog X.w)) d xs ∧ s.heap.DictOfH (tupleKind (mixKind X.prog X.w)) o more ∧
      ∀ h', h'.DictOfH (tupleKind (mixKind X.prog X.w)) d (mergedH xs more) → Heap.SameBut d s.heap h' → R (.ok (.ret .none)) { s with heap := h' }) :=
    .of_wp fun A R s ⟨hr, hd, ho, hh⟩ => by
      unfold Builtin.«dict.update»
      refine wpAny_bind ?_
      unfold Builtin.Dict.selfAndRest
      refine wpAny_bind (wpAny_notOrdered_dict hd.typeIs ?_)
      show wpAny _ _ (pure (d, [Value.ref o])) _ _ s
      refine wpAny_pure ?_
      show wpAny _ _ (Builtin.Dict.updateFrom "dict.update" d (.ref o) [] .none) _ _ s
      unfold Builtin.Dict.updateFrom
      refine wpAny_bind (wpAny_typeOf ho.typeIs ?_)
      rw [if_neg (by decide)]
      refine wpAny_bind ?_
      unfold Builtin.Dict.merge
      refine wpAny_bind ?_
      unfold Builtin.Dict.readDirectly
      refine wpAny_bind (wpAny_isInstance ho.typeIs isSubtype_dict_dict ?_)
      simp only [Bool.not_true, Bool.false_eq_true, if_false]
      refine wpAny_bind (wpAny_specialOf ho.typeIs F.slot_dict_iter.lookup (wpAny_pure ?_))
      simp only [beq_self_eq_true, if_true]
      refine wpAny_bind (wpAny_pure ?_)
      refine mergeH hr hdo hd2 hd ho ?_ (by omega) fun h' hd' hs' => ?_
      · rcases hne with z | z
        · refine .inl fun e => z (List.length_eq_zero_iff.mp ?_)
          rw [l1, e]
          rfl
        · refine .inr (List.length_eq_zero_iff.mp ?_)
          rw [← l2, z]
          rfl
      show wpAny _ _ (Builtin.Dict.addKeywords d [] >>= _) _ _ _
      exact wpAny_bind (wpAny_pure (wpAny_pure ⟨.none, rfl, hh h' hd' hs'⟩))
  refine call_meetsIn PySem.F.slot_dict_update dd1.typeIs PySem.F.entry_dict_update (PySem.F.args_dict_update_2 _ _) M ⟨tupleKind_room_in1 hu, dd1, dd2, fun h' dd' hs => h _ ?_⟩
  obtain ⟨q, es, ep, hq, h2, h3, h4, _, h5⟩ := dd'
  have hl := putAllT_len kv2 kvs
  refine d_write (t' := s.toks) I (by rw [ed]; exact True.intro) hs ⟨q, hq⟩ ⟨by omega, hd1, _, (KT.merge rel2 rel1).keeps fun c ys ec => ?_, q, es, ep, hq, h2, h3, h4, h5⟩
  rw [upd_ne (ne_of ec ed (fun z => nomatch z))]
  exact ec
def tDUpd (td ty : TE) : TE := fun σ H Q => td σ H fun x H1 => ∃ a, x = .ref a ∧ IsD H1 a ∧ ty σ H1 fun y H2 => ∃ o kvs kv2, y = .ref o ∧ H2 a = some (.dT kvs) ∧ H2 o = some (.dT kv2) ∧ a ≠ o ∧ (kvs ≠ [] ∨ kv2 = []) ∧ kvs.length + kv2.length ≤ sizeLine ∧ Q .non (upd H2 a (.dT (putAllT kvs kv2)))
theorem pe_dupd {o e : Expr} {apos cpos : Pos} {td ty : TE} (hu : X.A.units + 1 < cLine) (ho : PE X o td) (he : PE X e ty) (m : M1 X o "update" apos e cpos) : PE X (.Call (.Attribute o "update" apos) [e] [] cpos) (tDUpd td ty) := by
  intro pins s σ H Q I h
  refine wpAny_Call_method m.base m.few m.line PySem.F.plainAttrs_dict PySem.F.slot_dict_update PySem.F.type_dict_update (thn (ho pins s σ H _ I h) fun u s1 ⟨x, H1, I1, rx, a, ex, d, q1⟩ => ?_)
  subst ex
  obtain rfl : u = Value.ref a := rx
  obtain ⟨t1, t2, _⟩ := isD_at I1 d
  refine ⟨t1, t2, ?_⟩
  rw [m.trees]
  refine Calls.callWith_builtin rfl (Calls.evalArgs_plain (Calls.spliced_cons (thn (he pins s1 σ H1 _ I1 q1) fun iv s2 ⟨y, H2, I2, ry, o2, kvs, kv2, ey, h1, h2, hne, hor, hsz, q2⟩ => Calls.spliced_nil ?_)))
  subst ey
  obtain rfl : iv = Value.ref o2 := ry
  exact d_update hu I2 h1 h2 hne hor hsz fun s3 I3 => ⟨.non, _, I3, rfl, q2⟩
end
end L2
namespace L3
open PySem PySem.Spec PyProof.Rows L2
theorem update {X : Cx} {o e : Expr} {ta te : TE} {pos apos : Pos} (hu : X.A.units + 1 < cLine) (ho : SE X o ta) (he : SE X e te) (m : M1 X o "update" apos e pos := by exact ⟨rfl, rfl, rfl, rfl⟩) : SE X (.Call (.Attribute o "update" apos) [e] [] pos) (tDUpd ta te) := ⟨pe_dupd hu ho.h he.h m⟩
end L3
set_option Elab.async false
set_option linter.all false
set_option maxRecDepth 100000
namespace PySem
open Sem (wp)
/-! ### a zip whose own tuple is free, out, or gone -/
end PySem
set_option Elab.async false
set_option linter.all false
set_option maxRecDepth 100000
namespace PySem
open Sem (wp)
open AutoSeq1 (wpAny_loadPart')
end PySem
namespace L2
open PySem PySem.Spec PyProof.Rows
end L2
namespace L3
open PySem PySem.Spec PyProof.Rows L2
end L3
set_option Elab.async false
set_option linter.all false
set_option maxRecDepth 100000
namespace L2
open PySem PySem.Spec PyProof.Rows
end L2
namespace L3
open PySem PySem.Spec PyProof.Rows L2
end L3
set_option Elab.async false
set_option linter.all false
/-! ### what is said for ever: the i-th number of a run -/
namespace TW
end TW
set_option Elab.async false
set_option linter.all false
set_option maxRecDepth 100000
namespace L2
open PySem PySem.Spec PyProof.Rows SeqAt
/-! ### lists of whole numbers, alike or not; tuples of lists and None -/
theorem all_ints {xs ys : List Int} (h : xs.length = ys.length) : (List.range xs.length).all (fun j => eqV (.int (xs.getD j 0)) (.int (ys.getD j 0))) = decide (xs = ys) := by
  have key : (∀ j, j < xs.length → xs.getD j 0 = ys.getD j 0) ↔ xs = ys := by
    constructor
    · intro k
      refine List.ext_getElem h fun j h1 h2 => ?_
      have := k j h1
      rw [List.getD_eq_getElem?_getD, List.getD_eq_getElem?_getD, List.getElem?_eq_getElem h1, List.getElem?_eq_getElem h2] at this
      exact this
    · intro e j _
      rw [e]
  by_cases e : xs = ys
  · rw [decide_eq_true e, List.all_eq_true]
    intro j hj
    show decide (xs.getD j 0 = ys.getD j 0) = true
    exact decide_eq_true (key.mpr e j (List.mem_range.mp hj))
  · rw [decide_eq_false e]
    rw [Bool.eq_false_iff]
    intro z
    rw [List.all_eq_true] at z
    exact e (key.mp fun j hj => of_decide_eq_true (show decide (xs.getD j 0 = ys.getD j 0) = true from z j (List.mem_range.mpr hj)))
theorem ints_flat {K : PySem.W.Frag} {H : Hp} {n : Nat} {xs ys : List Int} : ∀ (j : Nat) (x y : V), (xs.map V.int)[j]? = some x → (ys.map V.int)[j]? = some y → EB K H n x y (eqV (.int (xs.getD j 0)) (.int (ys.getD j 0))) := fun j x y hx hy => by
  rw [List.getElem?_map] at hx hy
  obtain ⟨a, ha, rfl⟩ := Option.map_eq_some_iff.mp hx
  obtain ⟨b, hb, rfl⟩ := Option.map_eq_some_iff.mp hy
  rw [List.getD_eq_getElem?_getD, List.getD_eq_getElem?_getD, ha, hb]
  exact EB.flat rfl rfl
theorem RB.ints {K : PySem.W.Frag} {H : Hp} {n : Nat} {a b : Addr} {xs ys : List Int} (ha : H a = some (.lst (xs.map V.int))) (hb : H b = some (.lst (ys.map V.int))) : RB K H n (.ref a) (.ref b) (decide (xs = ys)) := by
  by_cases hl : xs.length = ys.length
  · refine ⟨a, b, _, _, rfl, rfl, .inl ⟨_, SqL.of ha, SqL.of hb, by rw [List.length_map, List.length_map]; exact hl, ints_flat, ?_⟩⟩
    rw [List.length_map, all_ints hl]
  · exact ⟨a, b, _, _, rfl, rfl, .inr (.inl ⟨SqL.of ha, SqL.of hb, by rw [List.length_map, List.length_map]; exact hl, decide_eq_false fun z => hl (by rw [z])⟩)⟩
end L2
namespace L3
open PySem PySem.Spec PyProof.Rows L2
end L3
namespace TW
/-! ### what is alike, by the law's own look -/
end TW
set_option Elab.async false
set_option linter.all false
/-! ### runs walked side by side -/
namespace TW
/-! ### each number said one more -/
end TW
set_option Elab.async false
set_option linter.all false
set_option maxRecDepth 100000
namespace L2
open PySem PySem.Spec PyProof.Rows
section
variable {X : Cx}
theorem bools_of : ∀ {bs : List Bool} {us : List Value}, Vals (bs.map V.bl) us → us = bs.map Value.bool
  | [], _, .nil => rfl
  | b :: bs, _, .cons r q => by
    cases r
    rw [bools_of q]
    rfl
theorem call_allL (hc : X.calm = true) : CallR X (.builtin "all") (fun xs H Q => ∃ (l : Addr) (bs : List Bool), xs = [.ref l] ∧ SqL X.K H l (bs.map V.bl) ∧ Q (.bl (bs.all id)) H) := by
  intro pins s σ H xs us Q I r h
  obtain ⟨l, bs, rfl, hq, q⟩ := h
  obtain ⟨u, rfl, ru⟩ := vals1 r
  obtain rfl : u = Value.ref l := ru
  obtain ⟨its, rv, pl, _⟩ := I.list hq
  have e1 := bools_of rv
  subst e1
  have hl := pl.isList
  have hlt : l < s.heap.objs.size := by obtain ⟨_, e, _⟩ := hl; exact Heap.lt_size e
  refine call_all_walk (wpAny_pyIter_list hl ?_)
  refine ⟨_, _, _, _, _, _, fun i => bs.getD i true, rfl, Walks.list (A := X.A.in1) (show X.A.in1.handled = none from I.ok.hd hc) s.heap.objs.size l (Nat.ne_of_lt hlt) (bs.map Value.bool).toArray, ⟨⟨_, Heap.get?_push_size _ rfl, rfl, rfl⟩, hl.push _⟩, ?_, fun h' tk hk => ?_⟩
  · intro i v s' Q' E' hP hQ'
    have hv : bs[i]?.map Value.bool = some v := by simpa using hP
    obtain ⟨b, hb, rfl⟩ := Option.map_eq_some_iff.mp hv
    have hQ2 : Q' (bs.getD i true) s' := hQ'
    rw [List.getD_eq_getElem?_getD, hb] at hQ2
    exact wpAny_truthy_bool hQ2
  · have kk : ∀ b o, s.heap.get? b = some o → h'.get? b = some o := old_kept hk
    refine ⟨.bl (bs.all id), H, I.kept kk, ?_, q⟩
    have e : (List.range (bs.map Value.bool).toArray.size).all (fun i => bs.getD i true) = bs.all id := by
      rw [show (bs.map Value.bool).toArray.size = bs.length by simp]
      have key : (∀ i, i < bs.length → bs.getD i true = true) ↔ ∀ b ∈ bs, b = true := by
        constructor
        · intro k b hb
          obtain ⟨i, hi, e⟩ := List.getElem_of_mem hb
          have := k i hi
          rw [List.getD_eq_getElem?_getD, List.getElem?_eq_getElem hi] at this
          rw [← e]
          exact this
        · intro k i hi
          rw [List.getD_eq_getElem?_getD, List.getElem?_eq_getElem hi]
          exact k _ (List.getElem_mem hi)
      rw [Bool.eq_iff_iff, List.all_eq_true, List.all_eq_true]
      exact ⟨fun k b hb => key.mp (fun i hi => k i (List.mem_range.mpr hi)) b hb, fun k i hi => key.mpr (fun b hb => k b hb) i (List.mem_range.mp hi)⟩
    rw [e]
    rfl
end
end L2
namespace L3
open PySem PySem.Spec PyProof.Rows L2
theorem c_all {X : Cx} {KK : PySem.W.Frag} (hc : X.calm = true := by rfl) (hK : X.K = KK := by first | exact cxC_K | rfl) : SC X (.builtin "all") (fun xs H Q => ∃ (l : Addr) (bs : List Bool), xs = [.ref l] ∧ SqL KK H l (bs.map V.bl) ∧ Q (.bl (bs.all id)) H) := by
  subst hK
  exact ⟨call_allL hc⟩
end L3
set_option Elab.async false
set_option linter.all false
set_option maxRecDepth 100000
namespace L2
open PySem PySem.Spec PyProof.Rows SeqAt
/-! ### two promises of one def; lists of anything told, alike or not -/
end L2
set_option Elab.async false
set_option linter.all false
set_option maxRecDepth 100000
/-! ### a def that is called within an except suite; try .. except T as e: any rows -/
namespace L2
open PySem PySem.Spec PyProof.Rows
end L2
namespace TW
open PySem L2
end TW
namespace L3
open PySem L2
section
variable {X : Cx} {e : Expr} {es : List Expr} {t : TA} {pos : Pos}
theorem chainE {a b c : Expr} {ta tb tc : TE} {op op' : CmpOp} {r r' : R2} (ho : SO X (compareOp op) r) (ho' : SO X (compareOp op') r') (ha : SE X a ta) (hb : SE X b tb) (hc : SE X c tc) (hm : lastMarks [op, op'] [b, c] = false := by with_unfolding_all rfl) : SE X (.Compare a [op, op'] [b, c] pos) (tChain r r' ta tb tc) := ⟨pe_chain ho.h ho'.h ha.h hb.h hc.h hm⟩
end
end L3
set_option Elab.async false
set_option linter.all false
set_option maxRecDepth 100000
namespace L2
open PySem PySem.Spec PyProof.Rows SeqAt
/-- x in (neg: not in) a list of references, by deep equality -/
def rInR (K : PySem.W.Frag) (m : Nat) (neg : Bool) : R2 := fun x y H Q => ∃ (p : Addr) (as : List Addr) (f : Addr → Bool), y = .ref p ∧ SqL K H p (as.map V.ref) ∧ (∀ a ∈ as, EB K H m (.ref a) x (f a)) ∧ Q (.bl (if neg then !as.any f else as.any f)) H
def refF (f : Addr → Bool) : Value → Bool
  | .ref a => f a
  | _ => false
theorem any_refF (f : Addr → Bool) : ∀ as : List Addr, (as.map Value.ref).any (refF f) = as.any f
  | [] => rfl
  | a :: r => by
    rw [List.map_cons, List.any_cons, List.any_cons, any_refF f r]
    rfl
section
variable {X : Cx}
theorem refs_each {pins : List (Addr × Obj)} {σ : St} {H : Hp} {s : Shared} {x : V} {v : Value} {m : Nat} {as : List Addr} {f : Addr → Bool} {its : List Value} (hu : X.A.units + (m + 1) < cLine) (I : Inv X pins σ H s) (rx : RelV x v) (r : Vals (as.map V.ref) its) (h : ∀ a ∈ as, EB X.K H m (.ref a) x (f a)) : ∀ y, y ∈ its.toArray → EqAt X.A.in1 s y v (refF f y) := fun z hz => by
  have e := vals_refs r
  subst e
  have hz' : z ∈ as.map Value.ref := by simpa using hz
  obtain ⟨a, ha, rfl⟩ := List.mem_map.mp hz'
  exact (h a ha).at I _ _ _ rfl rx (by show X.A.units + 1 + m < cLine; omega)
theorem op_notInR {m : Nat} (hu : X.A.units + (m + 1) < cLine) : OpR X (compareOp .NotIn) (rInR X.K m true) := by
  intro pins s σ H x y v u Q I rx ry h
  obtain ⟨p, as, f, rfl, hq, eb, q⟩ := h
  cases ry
  obtain ⟨its, r, pl, _⟩ := I.list hq
  refine notIn_listAt (refF f) pl.isList (refs_each hu I rx r eb) ⟨.bl (!as.any f), H, I, ?_, q⟩
  show Value.bool _ = Value.bool _
  have e := vals_refs r
  subst e
  congr 2
  rw [List.any_toArray]
  exact any_refF f as
end
end L2
namespace L3
open PySem PySem.Spec PyProof.Rows L2
theorem o_notInR {X : Cx} {KK : PySem.W.Frag} {m : Nat} (hu : X.A.units + (m + 1) < cLine) (hK : X.K = KK := by first | exact cxC_K | rfl) : SO X (compareOp .NotIn) (rInR KK m true) := by
  subst hK
  exact ⟨op_notInR hu⟩
end L3
set_option Elab.async false
set_option linter.all false
set_option maxRecDepth 100000
/-! zip of three lists of one length, walked by a tuple of names -/
namespace PySem
open Sem (wp)
end PySem
set_option Elab.async false
set_option linter.all false
set_option maxRecDepth 100000
namespace PySem
end PySem
namespace L2
open PySem PySem.Spec PyProof.Rows
end L2
namespace L3
open PySem PySem.Spec PyProof.Rows L2
end L3
set_option Elab.async false
set_option linter.all false
set_option maxRecDepth 100000
namespace L2
open PySem PySem.Spec PyProof.Rows
/-! enumerate of a list, walked by a tuple of names -/
def Ite (K : PySem.W.Frag) (a : Addr) : It :=
  ⟨fun i H => ∃ xs x, SqL K H a xs ∧ xs[i]? = some x,
   fun i H v H' => ∃ p x, H p = none ∧ v = .ref p ∧ H' = upd H p (.tup [.int (i : Nat), x]) ∧ ∀ xs, SqL K H a xs → xs[i]? = some x,
   fun i H => ∃ xs, SqL K H a xs ∧ xs.length ≤ i⟩
theorem turn_enum {P : Program} {w : World} {K : PySem.W.Frag} {elts : List Expr} {x1 : Nat} {tp : Pos} {a n : Addr} :
    Turn P w K (.Tuple elts x1 tp) (Ite K a) [n + 1, n] (n + 1) (fun i h => (∃ old, IsEnum h (n + 1) n (i : Nat) old) ∧ h.IsListIter n a i) where
  mem := by simp
  obj := fun i h st d hd => by
    obtain ⟨⟨old, he⟩, ⟨o1, e1, c1, d1⟩⟩ := st
    simp only [List.mem_cons, List.not_mem_nil, or_false] at hd
    rcases hd with rfl | rfl
    · exact ⟨_, he, fun v q => nomatch q⟩
    · exact ⟨_, e1, fun v q => by rw [d1] at q; cases q⟩
  keep := fun i h h' st k => by
    obtain ⟨⟨old, he⟩, h1⟩ := st
    exact ⟨⟨old, k _ (by simp) _ he⟩, h1.at fun o e => k _ (by simp) o e⟩
  item := by
    intro X hP hw hK hc i pins s σ H E I hf st hg
    subst hP hw hK
    obtain ⟨xs, x, hq1, hx⟩ := hg
    obtain ⟨its1, rv1, p1, _⟩ := I.list hq1
    obtain ⟨ux, gx, rx⟩ := rv1.get hx
    obtain ⟨⟨old, he⟩, h1⟩ := st
    have ne : (n + 1 : Addr) ≠ n := Nat.succ_ne_self n
    refine wpAny_pyNext_enum_item he h1 p1.isList (x := ux) (by simpa using gx) ne fun g a1 a2 a3 a4 hk => ?_
    refine ⟨_, rfl, wpAny_letOwnedTupleGo_enum (s := { s with heap := g, toks := s.toks + 1 }) a1 fun g2 he2 e2 => ?_⟩
    have n0 : H s.heap.objs.size = none := I.hok.fresh (Nat.le_refl _)
    have lte : n + 1 < s.heap.objs.size := Heap.lt_size he
    have e2' : Heap.SameBut (n + 1) g g2 := e2
    have kk : ∀ d o, d ∉ ([n + 1, n] : List Addr) → s.heap.get? d = some o → g2.get? d = some o := fun d o hd e => by
      simp only [List.mem_cons, List.not_mem_nil, or_false, not_or] at hd
      exact e2'.extBut _ _ hd.1 (hk d o hd.1 hd.2 e)
    have t2 : IsPair g2 s.heap.objs.size (.int i s.toks) ux := e2'.extBut _ _ (Nat.ne_of_gt lte) a3
    have I1 : Inv X pins σ (upd H s.heap.objs.size (.tup [.int (i : Nat), x])) { s with heap := g2, toks := s.toks + 1 } := I.many (ch := [n + 1, n]) hf kk (Nat.le_refl _)
      ⟨by show 2 ≤ sizeLine; decide, [.int i s.toks, ux], .cons ⟨_, rfl⟩ (.cons rx .nil), _, t2, rfl, _, rfl⟩
    refine ⟨.ref s.heap.objs.size, _, I1, rfl, ⟨_, x, n0, rfl, rfl, fun xs' q1 => ?_⟩, ⟨⟨_, by simpa using he2⟩, a2.at fun o e => e2'.extBut _ _ ne.symm e⟩, fun d hd => ?_⟩
    · rw [I.list_inj q1 hq1]; exact hx
    · have lt : d < s.heap.objs.size := by
        simp only [List.mem_cons, List.not_mem_nil, or_false] at hd
        rcases hd with rfl | rfl
        · exact lte
        · exact Nat.lt_of_succ_lt lte
      rw [upd_ne (Nat.ne_of_lt lt)]
      exact (hf d hd).1
  done := by
    intro X hP hw hK hc i pins s σ H E I hf st hg
    subst hP hw hK
    obtain ⟨xs, hq1, hend⟩ := hg
    obtain ⟨its1, rv1, p1, _⟩ := I.list hq1
    have l1 := rv1.length
    obtain ⟨⟨old, he⟩, h1⟩ := st
    refine wpAny_pyNext_enum_end (I.ok.hd hc) he h1 p1.isList (by simp; omega) fun g hk => ⟨rfl, ?_⟩
    exact I.many0 (t' := s.toks) (ch := [n]) (fun d hd => hf d (by rw [List.mem_singleton.mp hd]; simp)) fun d o hd e => hk d o (fun z => hd (by rw [z]; simp)) e
  self := fun _ _ _ _ _ st h => by
    obtain ⟨⟨old, he⟩, _⟩ := st
    exact wpAny_pyIter_enum he h
def iEnu (K : PySem.W.Frag) (ta : TA) : TI := fun σ H R => ta σ H fun vs H1 => ∃ a, vs = [.ref a] ∧ (∃ xs, SqL K H1 a xs) ∧ R (Ite K a) H1
theorem pi_enum {X : Cx} {a : Expr} {ta : TA} {p pos tp : Pos} {elts : List Expr} {x1 : Nat} (hg : Gl X "enumerate") (hm : X.mg "enumerate" = none) (ha : PAs X [a] ta) (hv : bootBuiltins "enumerate" = some (.type "enumerate") := by first | rfl | decide +kernel) :
    PI X (.Tuple elts x1 tp) (.Call (.Name "enumerate" p) [a] [] pos) (iEnu X.K ta) := by
  intro pins s σ H R I h
  refine wpAny_Call_Name_kw (ld_blt I hg hm hv ?_ (by decide) (by decide))
  refine PyProof.Rows.callWith_type1 (thn (ha.pa pos pins s σ H _ I h) fun us s1 ⟨vs, H1, I1, r1, q1⟩ => ?_) ((ha.ns a [] rfl).1.h [] X.env) ((ha.ns a [] rfl).2 pos X.env)
  obtain ⟨l1, e, ⟨xs, hq1⟩, q⟩ := q1
  subst e
  cases r1 with
  | cons r1 r2 =>
  cases r2
  cases r1
  obtain ⟨its1, rv1, p1, _⟩ := I1.list hq1
  refine call_enumerate_list p1.isList fun g he hi _ hk => ?_
  refine wpAny_pyIter_enum he ?_
  have I2 : Inv X pins σ H1 { s1 with heap := g } := I1.kept (t' := s1.toks) hk
  refine ⟨_, _, _, _, H1, rfl, I2, turn_enum, ⟨⟨_, he⟩, hi⟩, fun c hc => ?_, q⟩
  simp only [List.mem_cons, List.not_mem_nil, or_false] at hc
  have up : ∀ k, FpOk X pins H1 (s1.heap.objs.size + k) := fun k => I1.fpOk (Nat.le_add_right _ _) (I1.hok.fresh (Nat.le_add_right _ _))
  rcases hc with rfl | rfl
  · exact up 1
  · exact up 0
section
variable {K : PySem.W.Frag} {a : Addr} {xs : List V} {g : TG}
theorem for_enum {tb : TS} {D : Ends} {σ : St} {H : Hp} (Pv : Nat → St → Hp → Prop) (h0 : Pv 0 σ H) (hl : ∀ i σ H, i ≤ xs.length → Pv i σ H → SqL K H a xs)
    (hs : ∀ i x p σ H, xs[i]? = some x → Pv i σ H → H p = none → g (.ref p) σ (upd H p (.tup [.int (i : Nat), x])) fun σ2 H2 => tb { D with nx := Pv (i + 1), ct := Pv (i + 1), bk := D.nx } σ2 H2) (hd : ∀ σ H, Pv xs.length σ H → D.nx σ H) :
    ∃ W : Nat → Nat → St → Hp → Prop, (∃ m, W 0 m σ H) ∧ ∀ i m σ H, W i m σ H →
      ((Ite K a).stop i H ∧ D.nx σ H) ∨ ((Ite K a).go i H ∧ ∃ N : St → Hp → Prop, (∀ σ' H', N σ' H' → ∃ m', m' < m ∧ W (i + 1) m' σ' H') ∧ ∀ x H', (Ite K a).yld i H x H' → g x σ H' fun σ2 H2 => tb { D with nx := N, ct := N, bk := D.nx } σ2 H2) := by
  refine ⟨fun i m σ H => m = xs.length - i ∧ i ≤ xs.length ∧ Pv i σ H, ⟨xs.length, by simp, Nat.zero_le _, h0⟩, ?_⟩
  rintro i m σ H ⟨rfl, hi, p⟩
  have q1 := hl i σ H hi p
  by_cases hlt : i < xs.length
  · refine .inr ⟨⟨xs, xs[i], q1, by simp [hlt]⟩, Pv (i + 1), fun σ' H' p' => ⟨xs.length - (i + 1), by omega, rfl, hlt, p'⟩, fun x H' y => ?_⟩
    obtain ⟨pp, x1, hn, rfl, rfl, k⟩ := y
    exact hs i x1 pp σ H (k xs q1) p hn
  · have e : i = xs.length := by omega
    subst e
    exact .inl ⟨⟨xs, q1, Nat.le_refl _⟩, hd σ H p⟩
end
end L2
namespace L3
open PySem PySem.Spec PyProof.Rows L2
theorem iE {X : Cx} {a : Expr} {t : TA} {KK : PySem.W.Frag} {p pos tp : Pos} {elts : List Expr} {x1 : Nat} (hg : Gl X "enumerate") (hm : X.mg "enumerate" = none) (ha : SA X [a] t) (hK : X.K = KK := by first | exact cxC_K | rfl) :
    SI X (.Tuple elts x1 tp) (.Call (.Name "enumerate" p) [a] [] pos) (iEnu KK t) := by
  subst hK
  exact ⟨pi_enum hg hm ha.h⟩
/-! attributes, instances, methods -/
end L3
set_option Elab.async false
set_option linter.all false
set_option maxRecDepth 100000
namespace TW
open PySem L2
end TW
namespace L2
open PySem PySem.Spec PyProof.Rows
end L2
namespace L3
open PySem PySem.Spec PyProof.Rows L2
end L3
set_option Elab.async false
set_option linter.all false
set_option maxRecDepth 100000
namespace L3
open PySem PySem.Spec PyProof.Rows L2
end L3
set_option Elab.async false
set_option linter.all false
set_option maxRecDepth 100000
/-! ### d.setdefault(k, v), a dict of tuples -/
namespace L2
open PySem PySem.Spec PyProof.Rows
end L2
namespace L3
open PySem PySem.Spec PyProof.Rows L2
end L3
namespace L2
open PySem PySem.Spec PyProof.Rows
end L2
namespace L3
open PySem PySem.Spec PyProof.Rows L2
end L3
set_option Elab.async false
set_option linter.all false
set_option maxRecDepth 100000
namespace L3
open PySem PySem.Spec PyProof.Rows L2
end L3
set_option Elab.async false
set_option linter.all false
set_option maxRecDepth 100000
namespace L2
open PySem PySem.Spec PyProof.Rows
end L2
namespace L3
open PySem PySem.Spec PyProof.Rows L2
end L3
set_option Elab.async false
set_option linter.all false
set_option maxRecDepth 100000
/-! zip of two, each a list or a tuple, walked by a tuple of names -/
namespace PySem
open Sem (wp)
open PyProof.Rows (IsTup IsTupIter)
def ItOf (tp : Bool) (h : Heap) (it a : Addr) (i : Nat) : Prop := if tp then IsTupIter h it a i else h.IsListIter it a i
def SqOf (tp : Bool) (h : Heap) (a : Addr) (xs : Array Value) : Prop := if tp then IsTup h a xs else h.IsList a xs
def itName (tp : Bool) : String := if tp then "tuple_iterator" else "list_iterator"
abbrev itObj (tp : Bool) (a : Addr) : Obj := { cls := .type (itName tp), data := .fields #[.ref a, .int 0 0] }
section
variable {tp : Bool} {h h' : Heap} {it a : Addr} {i : Nat} {xs : Array Value}
theorem ItOf.stay (x : ItOf tp h it a i) (e : ∀ o, h.get? it = some o → h'.get? it = some o) : ItOf tp h' it a i := by
  cases tp
  · exact Heap.IsListIter.at (show h.IsListIter it a i from x) e
  · obtain ⟨o, ho, r⟩ := (show IsTupIter h it a i from x)
    exact (⟨o, e _ ho, r⟩ : IsTupIter h' it a i)
theorem ItOf.obj (x : ItOf tp h it a i) : ∃ o, h.get? it = some o ∧ ∀ v, o.data ≠ .cell v := by
  cases tp
  · obtain ⟨o, ho, _, d⟩ := (show h.IsListIter it a i from x)
    exact ⟨o, ho, fun v q => by rw [d] at q; cases q⟩
  · obtain ⟨o, ho, _, d⟩ := (show IsTupIter h it a i from x)
    exact ⟨o, ho, fun v q => by rw [d] at q; cases q⟩
theorem SqOf.stay (x : SqOf tp h a xs) (e : ∀ o, h.get? a = some o → h'.get? a = some o) : SqOf tp h' a xs := by
  cases tp
  · exact Heap.IsList.at (show h.IsList a xs from x) e
  · obtain ⟨o, ho, r⟩ := (show IsTup h a xs from x)
    exact (⟨o, e _ ho, r⟩ : IsTup h' a xs)
theorem SqOf.lt (x : SqOf tp h a xs) : a < h.objs.size := by
  cases tp
  · obtain ⟨o, ho, _⟩ := (show h.IsList a xs from x)
    exact Heap.lt_size ho
  · exact IsTup.lt (show IsTup h a xs from x)
end
section
variable {prog : Program} {w : World} {A : Around} {E : Value → Shared → Prop} {s : Shared} {tp t1 t2 : Bool} {it a : Addr} {i : Nat} {xs ys : Array Value} {x y : Value}
theorem nextT_item {Q : Value → Shared → Prop} (hit : IsTupIter s.heap it a i) (hl : IsTup s.heap a xs) (hx : xs[i]? = some x) (hQ : ∀ g, IsTupIter g it a (i + 1) → Heap.SameBut it s.heap g → Q x { s with heap := g }) :
    wpAny (model prog w) A (Builtin.SmallTypes.nextOf (.ref it)) Q E s := by
  obtain ⟨o, ho, hc, hd⟩ := id hit
  obtain ⟨o2, ho2, _, n2, hd2⟩ := hl
  unfold Builtin.SmallTypes.nextOf
  refine wpAny_bind (wpAny_callSpecial?_slot (name := Str.ofString "__next__") hit.typeIs PyProof.Rows.slot_tupleiter_next (wpAny_call_entry PyProof.Rows.slot_tupleiter_next hit.typeIs PyProof.Rows.entry_tupleiter_next ?_ (PyProof.Rows.args_tupleiter_next _)))
  show wpAny _ _ (field (.ref it) 0 >>= _) _ _ _
  refine wpAny_bind (wpAny_field ho hd (x := .ref a) rfl ?_)
  show wpAny _ _ (if (Value.ref a == Value.none) = true then _ else _) _ _ s
  rw [if_neg (show ¬ ((Value.ref a == Value.none) = true) from Bool.false_ne_true)]
  show wpAny _ _ (field (.ref it) 1 >>= _) _ _ _
  refine wpAny_bind (wpAny_field ho hd (x := .int i 0) rfl ?_)
  show wpAny _ _ (seqItems? (.ref a) >>= _) _ _ _
  refine wpAny_bind (wpAny_seqItems ho2 hd2 ?_)
  simp only [Int.toNat_natCast, hx]
  refine wpAny_bind (wpAny_setField ho hd (by simp) (wpAny_pure ⟨x, rfl, wpAny_pure (hQ _ ?_ (Heap.SameBut.update ..))⟩))
  exact ⟨_, Heap.get?_update_self _ ho (Obj.isFreed_of_fields (Obj.data_mapFields hd _)), (Obj.cls_mapFields ..).trans hc, by rw [Obj.data_mapFields hd]; simp [rawInt]⟩
theorem nextT_end {Q : Value → Shared → Prop} (hh : A.handled = none) (hit : IsTupIter s.heap it a i) (hl : IsTup s.heap a xs) (hx : xs[i]? = none)
    (hE : ∀ g e, Heap.ExtBut it s.heap g → (∃ o, g.get? e = some o ∧ o.cls = .type "StopIteration") → E (.ref e) { s with heap := g }) : wpAny (model prog w) A (Builtin.SmallTypes.nextOf (.ref it)) Q E s := by
  obtain ⟨o, ho, hc, hd⟩ := id hit
  obtain ⟨o2, ho2, _, n2, hd2⟩ := hl
  unfold Builtin.SmallTypes.nextOf
  refine wpAny_bind (wpAny_callSpecial?_slot (name := Str.ofString "__next__") hit.typeIs PyProof.Rows.slot_tupleiter_next (wpAny_call_entry PyProof.Rows.slot_tupleiter_next hit.typeIs PyProof.Rows.entry_tupleiter_next ?_ (PyProof.Rows.args_tupleiter_next _)))
  show wpAny _ _ (field (.ref it) 0 >>= _) _ _ _
  refine wpAny_bind (wpAny_field ho hd (x := .ref a) rfl ?_)
  show wpAny _ _ (if (Value.ref a == Value.none) = true then _ else _) _ _ s
  rw [if_neg (show ¬ ((Value.ref a == Value.none) = true) from Bool.false_ne_true)]
  show wpAny _ _ (field (.ref it) 1 >>= _) _ _ _
  refine wpAny_bind (wpAny_field ho hd (x := .int i 0) rfl ?_)
  show wpAny _ _ (seqItems? (.ref a) >>= _) _ _ _
  refine wpAny_bind (wpAny_seqItems ho2 hd2 ?_)
  simp only [Int.toNat_natCast, hx]
  refine wpAny_bind (wpAny_rule (wpAny_bind (wpAny_setField ho hd (by simp) ?_)))
  show wpAny _ _ (newExc (.type "StopIteration") [] >>= _) _ _ _
  refine wpAny_bind ?_
  simp only [newExc, newTuple]
  refine wpAny_bind (wpAny_newObj_type ?_ (by size_fits))
  refine wpAny_bind (m := firstArgMember _ _) (wpAny_of_eq (a := Value.none) (by first | rfl | (simp only [firstArgMember]; rfl)) ?_)
  refine wpAny_newObj_type ?_ (by size_fits)
  simp only [raiseNew]
  refine wpAny_bind (wpAny_handled ?_)
  first | rw [show A.in1.handled = none from hh] | rw [hh]
  refine wpAny_bind (wpAny_pure (wpAny_throw ?_))
  exact hE _ _ (((Heap.SameBut.update ..).extBut.push _).push _) ⟨_, Heap.get?_push_size _ rfl, rfl⟩
theorem nextA_item {Q : Value → Shared → Prop} (hit : ItOf tp s.heap it a i) (hl : SqOf tp s.heap a xs) (hx : xs[i]? = some x) (hQ : ∀ g, ItOf tp g it a (i + 1) → Heap.SameBut it s.heap g → Q x { s with heap := g }) :
    wpAny (model prog w) A (Builtin.SmallTypes.nextOf (.ref it)) Q E s := by
  cases tp
  · exact wpAny_nextOf_list_item (show s.heap.IsListIter it a i from hit) (show s.heap.IsList a xs from hl) hx hQ
  · exact nextT_item (show IsTupIter s.heap it a i from hit) (show IsTup s.heap a xs from hl) hx hQ
theorem nextA_end {Q : Value → Shared → Prop} (hh : A.handled = none) (hit : ItOf tp s.heap it a i) (hl : SqOf tp s.heap a xs) (hx : xs[i]? = none)
    (hE : ∀ g e, Heap.ExtBut it s.heap g → (∃ o, g.get? e = some o ∧ o.cls = .type "StopIteration") → E (.ref e) { s with heap := g }) : wpAny (model prog w) A (Builtin.SmallTypes.nextOf (.ref it)) Q E s := by
  cases tp
  · exact wpAny_nextOf_list_end hh (show s.heap.IsListIter it a i from hit) (show s.heap.IsList a xs from hl) hx hE
  · exact nextT_end hh (show IsTupIter s.heap it a i from hit) (show IsTup s.heap a xs from hl) hx hE
/-- a zip of two that was made when the heap had n objects, i items drawn -/
structure Z2 (t1 t2 : Bool) (h : Heap) (n l1 l2 : Addr) (i : Nat) : Prop where
  z : IsZip h (n + 4) (n + 2) (n + 3) .none
  ti : IsPair h (n + 2) (.ref n) (.ref (n + 1))
  to : ∃ a b, IsPair h (n + 3) a b
  i1 : ItOf t1 h n l1 i
  i2 : ItOf t2 h (n + 1) l2 i
theorem zip2_item {n l1 l2 : Nat} {Q : Value → Shared → Prop} (n1 : l1 < n) (n2 : l2 < n) (Z : Z2 t1 t2 s.heap n l1 l2 i) (h1 : SqOf t1 s.heap l1 xs) (h2 : SqOf t2 s.heap l2 ys) (hx : xs[i]? = some x) (hy : ys[i]? = some y)
    (hQ : ∀ g, IsZip g (n + 4) (n + 2) (n + 3) (rawInt s.heap.objs.size) → IsPair g (n + 3) x y → ItOf t1 g n l1 (i + 1) → ItOf t2 g (n + 1) l2 (i + 1) → IsPair g s.heap.objs.size x y →
      (∀ c o, c ∉ ([n + 4, n + 3, n, n + 1] : List Addr) → s.heap.get? c = some o → g.get? c = some o) → Q (.ref s.heap.objs.size) { s with heap := g }) :
    wpAny (model prog w) A (Builtin.«zip.__next__» ⟨[.ref (n + 4)], []⟩) (fun fin s' => ∃ v, fin = .done (.ret v) ∧ Q v s') E s := by
  obtain ⟨zr, ti, ⟨a, b, to⟩, j1, j2⟩ := Z
  show wpAny _ _ (field (.ref (n + 4)) 2 >>= _) _ _ _
  refine wpAny_bind (wpAny_field zr rfl (x := .bool false) rfl ?_)
  show wpAny _ _ (field (.ref (n + 4)) 3 >>= _) _ _ _
  refine wpAny_bind (wpAny_field zr rfl (x := .ref (n + 2)) rfl ?_)
  refine wpAny_bind (wpAny_seqItems ti rfl ?_)
  show wpAny _ _ (Builtin.SmallTypes.ownedTupleIsFree (.ref (n + 4)) >>= _) _ _ _
  refine wpAny_bind ?_
  unfold Builtin.SmallTypes.ownedTupleIsFree
  refine wpAny_bind (wpAny_field zr rfl (x := .none) rfl (wpAny_pure ?_))
  simp only [if_true]
  refine wpAny_bind (wpAny_rule ?_)
  refine wpAny_bind (wpAny_field zr rfl (x := .ref (n + 3)) rfl ?_)
  refine wpAny_bind (wpAny_setField_rec zr (by simp) fun g1 zr1 e1 => ?_)
  replace zr1 : IsZip g1 (n + 4) (n + 2) (n + 3) .ellipsis := zr1
  refine wpAny_bind ?_
  simp only [List.zipIdx_cons, List.zipIdx_nil, List.forIn_cons, List.forIn_nil]
  refine wpAny_bind (wpAny_bind (wpAny_onRaise ?_))
  show wpAny _ _ (Builtin.SmallTypes.nextOf (.ref n) >>= _) _ _ _
  refine wpAny_bind (nextA_item (j1.stay fun o e => e1.extBut _ _ (show @Ne Nat _ _ by omega) e) (h1.stay fun o e => e1.extBut _ _ (show @Ne Nat _ _ by omega) e) hx fun g2 k1 e2 => wpAny_pure ?_)
  have t2' : IsPair g2 (n + 3) a b := e2.extBut _ _ (show @Ne Nat _ _ by omega) (e1.extBut _ _ (show @Ne Nat _ _ by omega) to)
  refine wpAny_bind (wpAny_seqItems t2' rfl ?_)
  refine wpAny_bind (wpAny_updateSeq_pair t2' fun g3 t3 e3 => ?_)
  replace t3 : IsPair g3 (n + 3) x b := t3
  refine wpAny_bind (wpAny_letGo (wpAny_pure ?_))
  have c3 : ∀ d o, d ≠ n + 4 → d ≠ n + 3 → d ≠ n → s.heap.get? d = some o → g3.get? d = some o := fun d o d1 d2 d3 e => e3.extBut _ _ d2 (e2.extBut _ _ d3 (e1.extBut _ _ d1 e))
  refine wpAny_bind (wpAny_bind (wpAny_onRaise ?_))
  show wpAny _ _ (Builtin.SmallTypes.nextOf (.ref (n + 1)) >>= _) _ _ _
  refine wpAny_bind (nextA_item (j2.stay fun o e => c3 _ o (show @Ne Nat _ _ by omega) (show @Ne Nat _ _ by omega) (show @Ne Nat _ _ by omega) e) (h2.stay fun o e => c3 _ o (show @Ne Nat _ _ by omega) (show @Ne Nat _ _ by omega) (show @Ne Nat _ _ by omega) e) hy fun g4 k2 e4 => wpAny_pure ?_)
  have t4 : IsPair g4 (n + 3) x b := e4.extBut _ _ (show @Ne Nat _ _ by omega) t3
  refine wpAny_bind (wpAny_seqItems t4 rfl ?_)
  refine wpAny_bind (wpAny_updateSeq_pair t4 fun g5 t5 e5 => ?_)
  replace t5 : IsPair g5 (n + 3) x y := t5
  refine wpAny_bind (wpAny_letGo (wpAny_pure (wpAny_pure ?_)))
  refine wpAny_bind (wpAny_seqItems t5 rfl ?_)
  refine wpAny_bind (wpAny_newTuple ?_)
  have sz : g5.objs.size = s.heap.objs.size := by rw [e5.1, e4.1, e3.1, e2.1, e1.1]
  have zr5 : IsZip g5 (n + 4) (n + 2) (n + 3) .ellipsis := e5.extBut _ _ (show @Ne Nat _ _ by omega) (e4.extBut _ _ (show @Ne Nat _ _ by omega) (e3.extBut _ _ (show @Ne Nat _ _ by omega) (e2.extBut _ _ (show @Ne Nat _ _ by omega) zr1)))
  have c5 : ∀ d o, d ≠ n + 4 → d ≠ n + 3 → d ≠ n → d ≠ n + 1 → s.heap.get? d = some o → g5.get? d = some o := fun d o d1 d2 d3 d4 e => e5.extBut _ _ d2 (e4.extBut _ _ d4 (c3 d o d1 d2 d3 e))
  have m1 : ItOf t1 g5 n l1 (i + 1) := k1.stay fun o e => e5.extBut _ _ (show @Ne Nat _ _ by omega) (e4.extBut _ _ (show @Ne Nat _ _ by omega) (e3.extBut _ _ (show @Ne Nat _ _ by omega) e))
  have m2 : ItOf t2 g5 (n + 1) l2 (i + 1) := k2.stay fun o e => e5.extBut _ _ (show @Ne Nat _ _ by omega) e
  have zlt : n + 4 < g5.objs.size := Heap.lt_size zr5
  show wpAny _ _ (Builtin.SmallTypes.ownedTupleHandOut (.ref (n + 4)) (.ref g5.objs.size) >>= _) _ _ _
  refine wpAny_bind ?_
  unfold Builtin.SmallTypes.ownedTupleHandOut
  have zr6 : IsZip (g5.push { cls := .type "tuple", data := .seq #[x, y] }) (n + 4) (n + 2) (n + 3) .ellipsis := Heap.get?_push_of_some _ zr5
  refine wpAny_bind (wpAny_setField_rec zr6 (by simp) fun g9 zr9 e9 => ?_)
  replace zr9 : IsZip g9 (n + 4) (n + 2) (n + 3) (rawInt g5.objs.size) := zr9
  refine wpAny_setField_rec zr9 (by simp) fun gA zrA eA => ?_
  replace zrA : IsZip gA (n + 4) (n + 2) (n + 3) (rawInt g5.objs.size) := zrA
  have up : ∀ d o, d ≠ n + 4 → g5.get? d = some o → gA.get? d = some o := fun d o d1 e => eA.extBut _ _ d1 (e9.extBut _ _ d1 (Heap.get?_push_of_some _ e))
  have tA : IsPair gA g5.objs.size x y := eA.extBut _ _ (Nat.ne_of_gt zlt) (e9.extBut _ _ (Nat.ne_of_gt zlt) (Heap.get?_push_size _ rfl))
  rw [sz] at zrA tA
  refine wpAny_pure ⟨_, rfl, ?_⟩
  show Q (.ref g5.objs.size) _
  rw [sz]
  refine hQ gA zrA (up _ _ (show @Ne Nat _ _ by omega) t5) (m1.stay fun o e => up _ o (show @Ne Nat _ _ by omega) e) (m2.stay fun o e => up _ o (show @Ne Nat _ _ by omega) e) tA fun d o hd e => ?_
  simp only [List.mem_cons, List.not_mem_nil, or_false, not_or] at hd
  exact up d o hd.1 (c5 d o hd.1 hd.2.1 hd.2.2.1 hd.2.2.2 e)
/-- one of both is at its end -/
theorem zip2_end {n l1 l2 : Nat} {Q : Fin → Shared → Prop} (hh : A.handled = none) (n1 : l1 < n) (n2 : l2 < n) (Z : Z2 t1 t2 s.heap n l1 l2 i) (h1 : SqOf t1 s.heap l1 xs) (h2 : SqOf t2 s.heap l2 ys) (hx : xs[i]? = none ∨ ys[i]? = none)
    (hE : ∀ g e, (∀ c o, c ∉ ([n + 4, n + 3, n, n + 1] : List Addr) → s.heap.get? c = some o → g.get? c = some o) → (∃ o, g.get? e = some o ∧ o.cls = .type "StopIteration") → E (.ref e) { s with heap := g }) :
    wpAny (model prog w) A (Builtin.«zip.__next__» ⟨[.ref (n + 4)], []⟩) Q E s := by
  obtain ⟨zr, ti, ⟨a, b, to⟩, j1, j2⟩ := Z
  show wpAny _ _ (field (.ref (n + 4)) 2 >>= _) _ _ _
  refine wpAny_bind (wpAny_field zr rfl (x := .bool false) rfl ?_)
  show wpAny _ _ (field (.ref (n + 4)) 3 >>= _) _ _ _
  refine wpAny_bind (wpAny_field zr rfl (x := .ref (n + 2)) rfl ?_)
  refine wpAny_bind (wpAny_seqItems ti rfl ?_)
  show wpAny _ _ (Builtin.SmallTypes.ownedTupleIsFree (.ref (n + 4)) >>= _) _ _ _
  refine wpAny_bind ?_
  unfold Builtin.SmallTypes.ownedTupleIsFree
  refine wpAny_bind (wpAny_field zr rfl (x := .none) rfl (wpAny_pure ?_))
  simp only [if_true]
  refine wpAny_bind (wpAny_rule ?_)
  refine wpAny_bind (wpAny_field zr rfl (x := .ref (n + 3)) rfl ?_)
  refine wpAny_bind (wpAny_setField_rec zr (by simp) fun g1 zr1 e1 => ?_)
  replace zr1 : IsZip g1 (n + 4) (n + 2) (n + 3) .ellipsis := zr1
  refine wpAny_bind ?_
  simp only [List.zipIdx_cons, List.zipIdx_nil, List.forIn_cons, List.forIn_nil]
  refine wpAny_bind (wpAny_bind (wpAny_onRaise ?_))
  show wpAny _ _ (Builtin.SmallTypes.nextOf (.ref n) >>= _) _ _ _
  cases q : xs[i]? with
  | none =>
    refine wpAny_bind (nextA_end hh (j1.stay fun o e => e1.extBut _ _ (show @Ne Nat _ _ by omega) e) (h1.stay fun o e => e1.extBut _ _ (show @Ne Nat _ _ by omega) e) q fun g2 e e2 he => ?_)
    obtain ⟨oe, hoe, hce⟩ := he
    have zr2 : IsZip g2 (n + 4) (n + 2) (n + 3) .ellipsis := e2 _ _ (show @Ne Nat _ _ by omega) zr1
    have hez : e ≠ n + 4 := fun q => by subst q; rw [zr2] at hoe; cases hoe; simp at hce
    refine wpAny_setField_rec zr2 (by simp) fun g3 _ e3 => hE g3 e (fun d o hd q => ?_) ⟨oe, e3.extBut _ _ hez hoe, hce⟩
    simp only [List.mem_cons, List.not_mem_nil, or_false, not_or] at hd
    exact e3.extBut _ _ hd.1 (e2 _ _ hd.2.2.1 (e1.extBut _ _ hd.1 q))
  | some x =>
    have hy : ys[i]? = none := hx.resolve_left (by rw [q]; exact fun z => nomatch z)
    refine wpAny_bind (nextA_item (j1.stay fun o e => e1.extBut _ _ (show @Ne Nat _ _ by omega) e) (h1.stay fun o e => e1.extBut _ _ (show @Ne Nat _ _ by omega) e) q fun g2 k1 e2 => wpAny_pure ?_)
    have t2' : IsPair g2 (n + 3) a b := e2.extBut _ _ (show @Ne Nat _ _ by omega) (e1.extBut _ _ (show @Ne Nat _ _ by omega) to)
    refine wpAny_bind (wpAny_seqItems t2' rfl ?_)
    refine wpAny_bind (wpAny_updateSeq_pair t2' fun g3 t3 e3 => ?_)
    refine wpAny_bind (wpAny_letGo (wpAny_pure ?_))
    have c3 : ∀ d o, d ≠ n + 4 → d ≠ n + 3 → d ≠ n → s.heap.get? d = some o → g3.get? d = some o := fun d o d1 d2 d3 e => e3.extBut _ _ d2 (e2.extBut _ _ d3 (e1.extBut _ _ d1 e))
    refine wpAny_bind (wpAny_bind (wpAny_onRaise ?_))
    show wpAny _ _ (Builtin.SmallTypes.nextOf (.ref (n + 1)) >>= _) _ _ _
    refine wpAny_bind (nextA_end hh (j2.stay fun o e => c3 _ o (show @Ne Nat _ _ by omega) (show @Ne Nat _ _ by omega) (show @Ne Nat _ _ by omega) e) (h2.stay fun o e => c3 _ o (show @Ne Nat _ _ by omega) (show @Ne Nat _ _ by omega) (show @Ne Nat _ _ by omega) e) hy fun g4 e e4 he => ?_)
    obtain ⟨oe, hoe, hce⟩ := he
    have zr4 : IsZip g4 (n + 4) (n + 2) (n + 3) .ellipsis := e4 _ _ (show @Ne Nat _ _ by omega) (e3.extBut _ _ (show @Ne Nat _ _ by omega) (e2.extBut _ _ (show @Ne Nat _ _ by omega) zr1))
    have hez : e ≠ n + 4 := fun q => by subst q; rw [zr4] at hoe; cases hoe; simp at hce
    refine wpAny_setField_rec zr4 (by simp) fun g5 _ e5 => hE g5 e (fun d o hd q => ?_) ⟨oe, e5.extBut _ _ hez hoe, hce⟩
    simp only [List.mem_cons, List.not_mem_nil, or_false, not_or] at hd
    exact e5.extBut _ _ hd.1 (e4 _ _ hd.2.2.2 (c3 d o hd.1 hd.2.1 hd.2.2.1 q))
end
abbrev z2H2 (t1 t2 : Bool) (h : Heap) (l1 l2 : Addr) : Heap := (h.push (itObj t1 l1)).push (itObj t2 l2)
abbrev z2H (t1 t2 : Bool) (h : Heap) (l1 l2 : Addr) : Heap := (((z2H2 t1 t2 h l1 l2).push { cls := .type "tuple", data := .seq #[.ref h.objs.size, .ref (h.objs.size + 1)] }).push { cls := .type "tuple", data := .seq #[.none, .none] }).push
  { cls := .type "zip", data := .fields #[.none, .bool false, .bool false, .ref (h.objs.size + 2), .ref (h.objs.size + 3)] }
theorem iterA {prog : Program} {w : World} {A : Around} {E : Value → Shared → Prop} {s : Shared} {tp : Bool} {a : Addr} {xs : Array Value} {Q : Value → Shared → Prop} (hl : SqOf tp s.heap a xs) (hQ : Q (.ref s.heap.objs.size) { s with heap := s.heap.push (itObj tp a) }) : wpAny (model prog w) A (pyIter (.ref a)) Q E s := by
  cases tp
  · exact wpAny_pyIter_list (show s.heap.IsList a xs from hl) hQ
  · exact PyProof.Rows.iter_tuple (show IsTup s.heap a xs from hl) hQ
theorem meets_zip2 (t1 t2 : Bool) (l1 l2 : Addr) (xs ys : Array Value) :
    Meets (Builtin.«zip.__new__» ⟨[.type "zip", .ref l1, .ref l2], []⟩) (fun _ R s => SqOf t1 s.heap l1 xs ∧ SqOf t2 s.heap l2 ys ∧ R (.ok (.ret (.ref (s.heap.objs.size + 4)))) { s with heap := z2H t1 t2 s.heap l1 l2 }) :=
  .of_wp fun prog w A R s h => by
    obtain ⟨hp, g, d, tk, os⟩ := s; obtain ⟨q1, q2, h⟩ := h
    have hsub := sub_zip
    have L1 : SqOf t1 (Shared.heap ⟨hp, g, d, tk, os⟩) l1 xs := q1
    have L2 : SqOf t2 (Shared.heap ⟨hp.push (itObj t1 l1), g, d, tk, os⟩) l2 ys := SqOf.stay q2 fun o e => Heap.get?_push_of_some _ e
    wp_walk using iterA L1, iterA L2
    refine ⟨_, rfl, ?_⟩
    simp only [Heap.size_push] at h ⊢
    exact h
theorem call_zipA {prog : Program} {w : World} {A : Around} {E : Value → Shared → Prop} {s : Shared} {t1 t2 : Bool} {l1 l2 : Addr} {xs ys : Array Value} {Q : Value → Shared → Prop} (q1 : SqOf t1 s.heap l1 xs) (q2 : SqOf t2 s.heap l2 ys)
    (h : ∀ g, Z2 t1 t2 g s.heap.objs.size l1 l2 0 → (∀ c o, s.heap.get? c = some o → g.get? c = some o) → Q (.ref (s.heap.objs.size + 4)) { s with heap := g }) :
    wpAny (model prog w) A (call (.type "zip") [.ref l1, .ref l2]) Q E s := by
  refine callType_new F.called_zip (by decide) (F.typeCall_zip_2 _ _) (F.newCall_zip_2 _ _) (fun obj => F.args_object_init_3 obj _ _) F.entry_zip_new (meets_zip2 t1 t2 l1 l2 xs ys) ⟨q1, q2, ?_⟩
  have sz : ∀ (hh : Heap) (o : Obj), (hh.push o).objs.size = hh.objs.size + 1 := fun hh o => Heap.size_push hh o
  have e1 : (z2H2 t1 t2 s.heap l1 l2).objs.size = s.heap.objs.size + 2 := by rw [sz, sz]
  have g4 : (z2H t1 t2 s.heap l1 l2).get? (s.heap.objs.size + 4) = some { cls := .type "zip", data := .fields #[.none, .bool false, .bool false, .ref (s.heap.objs.size + 2), .ref (s.heap.objs.size + 3)] } := by
    have := Heap.get?_push_size (((z2H2 t1 t2 s.heap l1 l2).push { cls := .type "tuple", data := .seq #[.ref s.heap.objs.size, .ref (s.heap.objs.size + 1)] }).push { cls := .type "tuple", data := .seq #[.none, .none] }) (o := { cls := .type "zip", data := .fields #[.none, .bool false, .bool false, .ref (s.heap.objs.size + 2), .ref (s.heap.objs.size + 3)] }) rfl
    rw [sz, sz, e1] at this
    exact this
  have g3 : IsPair (z2H t1 t2 s.heap l1 l2) (s.heap.objs.size + 3) .none .none := by
    have := Heap.get?_push_size ((z2H2 t1 t2 s.heap l1 l2).push { cls := .type "tuple", data := .seq #[.ref s.heap.objs.size, .ref (s.heap.objs.size + 1)] }) (o := { cls := .type "tuple", data := .seq #[.none, .none] }) rfl
    rw [sz, e1] at this
    exact Heap.get?_push_of_some _ this
  have g2 : IsPair (z2H t1 t2 s.heap l1 l2) (s.heap.objs.size + 2) (.ref s.heap.objs.size) (.ref (s.heap.objs.size + 1)) := by
    have := Heap.get?_push_size (z2H2 t1 t2 s.heap l1 l2) (o := { cls := .type "tuple", data := .seq #[.ref s.heap.objs.size, .ref (s.heap.objs.size + 1)] }) rfl
    rw [e1] at this
    exact Heap.get?_push_of_some _ (Heap.get?_push_of_some _ this)
  have free : ∀ (tp : Bool) (a : Addr), (itObj tp a).isFreed = false := fun tp a => rfl
  have g1 : (z2H t1 t2 s.heap l1 l2).get? (s.heap.objs.size + 1) = some (itObj t2 l2) := by
    have := Heap.get?_push_size (s.heap.push (itObj t1 l1)) (o := itObj t2 l2) (free _ _)
    rw [sz] at this
    exact Heap.get?_push_of_some _ (Heap.get?_push_of_some _ (Heap.get?_push_of_some _ this))
  have g0 : (z2H t1 t2 s.heap l1 l2).get? s.heap.objs.size = some (itObj t1 l1) :=
    Heap.get?_push_of_some _ (Heap.get?_push_of_some _ (Heap.get?_push_of_some _ (Heap.get?_push_of_some _ (Heap.get?_push_size _ (free _ _)))))
  have mk : ∀ (tp : Bool) (b a : Addr) (hh : Heap), hh.get? b = some (itObj tp a) → ItOf tp hh b a 0 := fun tp b a hh e => by
    cases tp
    · exact (⟨_, e, rfl, rfl⟩ : hh.IsListIter b a 0)
    · exact (⟨_, e, rfl, rfl⟩ : IsTupIter hh b a 0)
  show _ ∧ _
  exact ⟨⟨_, g4, rfl⟩, h _ ⟨g4, g2, ⟨_, _, g3⟩, mk _ _ _ _ g0, mk _ _ _ _ g1⟩ fun c o x =>
    Heap.get?_push_of_some _ (Heap.get?_push_of_some _ (Heap.get?_push_of_some _ (Heap.get?_push_of_some _ (Heap.get?_push_of_some _ x))))⟩
end PySem
set_option Elab.async false
set_option linter.all false
set_option maxRecDepth 100000
/-! zip of two, each a list or a tuple: its rules -/
namespace L2
open PySem PySem.Spec PyProof.Rows
def Sq (tp : Bool) (K : PySem.W.Frag) (H : Hp) (a : Addr) (xs : List V) : Prop := if tp then SqT K H a xs else SqL K H a xs
section
variable {X : Cx} {pins : List (Addr × Obj)} {σ : St} {H : Hp} {s : Shared} {tp t1 t2 : Bool} {a b : Addr} {xs ys : List V}
theorem Inv.sq (I : Inv X pins σ H s) (h : Sq tp X.K H a xs) : ∃ its : List Value, Vals xs its ∧ SqOf tp s.heap a its.toArray ∧ xs.length ≤ sizeLine := by
  cases tp
  · obtain ⟨its, r, p, z⟩ := I.list (show SqL X.K H a xs from h)
    exact ⟨its, r, p.isList, z⟩
  · exact I.tuple (show SqT X.K H a xs from h)
theorem Inv.sq_inj (I : Inv X pins σ H s) (h : Sq tp X.K H a xs) (h' : Sq tp X.K H a ys) : xs = ys := by
  cases tp
  · exact I.list_inj (show SqL X.K H a xs from h) h'
  · exact I.tuple_inj (show SqT X.K H a xs from h) h'
def ItzA (t1 t2 : Bool) (K : PySem.W.Frag) (a b : Addr) : It :=
  ⟨fun i H => ∃ xs ys x y, Sq t1 K H a xs ∧ Sq t2 K H b ys ∧ xs[i]? = some x ∧ ys[i]? = some y,
   fun i H v H' => ∃ p x y, H p = none ∧ v = .ref p ∧ H' = upd H p (.tup [x, y]) ∧ ∀ xs ys, Sq t1 K H a xs → Sq t2 K H b ys → xs[i]? = some x ∧ ys[i]? = some y,
   fun i H => ∃ xs ys, Sq t1 K H a xs ∧ Sq t2 K H b ys ∧ (xs.length ≤ i ∨ ys.length ≤ i)⟩
theorem turn_zipA {P : Program} {w : World} {K : PySem.W.Frag} {elts : List Expr} {x1 : Nat} {q : Pos} {n : Nat} {a b : Nat} (n1 : a < n) (n2 : b < n) :
    Turn P w K (.Tuple elts x1 q) (ItzA t1 t2 K a b) [n + 4, n + 2, n + 3, n, n + 1] (n + 4) (fun i h => Z2 t1 t2 h n a b i) where
  mem := by simp
  obj := fun i h Z c hc => by
    obtain ⟨z, ti, ⟨x, y, to⟩, i1, i2⟩ := Z
    simp only [List.mem_cons, List.not_mem_nil, or_false] at hc
    rcases hc with rfl | rfl | rfl | rfl | rfl
    · exact ⟨_, z, fun v q => nomatch q⟩
    · exact ⟨_, ti, fun v q => nomatch q⟩
    · exact ⟨_, to, fun v q => nomatch q⟩
    · exact i1.obj
    · exact i2.obj
  keep := fun i h h' Z k => by
    obtain ⟨z, ti, ⟨x, y, to⟩, i1, i2⟩ := Z
    exact ⟨k _ (by simp) _ z, k _ (by simp) _ ti, ⟨x, y, k _ (by simp) _ to⟩, i1.stay fun o e => k _ (by simp) o e, i2.stay fun o e => k _ (by simp) o e⟩
  item := by
    intro X hP hw hK hc i pins s σ H E I hf Z hg
    subst hP hw hK
    obtain ⟨xs, ys, x, y, q1, q2, hx, hy⟩ := hg
    obtain ⟨its1, r1, p1, _⟩ := I.sq q1
    obtain ⟨its2, r2, p2, _⟩ := I.sq q2
    obtain ⟨u, hu, ru⟩ := r1.get hx
    obtain ⟨v, hv, rv⟩ := r2.get hy
    have hT : s.TypeIs (.ref (n + 4)) "zip" := ⟨_, Z.z, rfl⟩
    unfold pyNext
    refine wpAny_bind (wpAny_attempt (wpAny_callSpecial?_slot (name := Str.ofString "__next__") hT PySem.F.slot_zip_next (wpAny_call_entry PySem.F.slot_zip_next hT PySem.F.entry_zip_next
      (zip2_item n1 n2 Z p1 p2 (x := u) (y := v) (by simpa using hu) (by simpa using hv) fun g a1 a2 a3 a4 a5 hk => wpAny_pure ?_) (PySem.F.args_zip_next_1 _))))
    refine ⟨_, rfl, wpAny_letOwnedTupleGo_zip (s := { s with heap := g }) a1 fun g2 z2 e2 => ?_⟩
    have hN : H s.heap.objs.size = none := I.hok.fresh (Nat.le_refl _)
    have ltz : n + 4 < s.heap.objs.size := Heap.lt_size Z.z
    have kk : ∀ c o, c ∉ ([n + 4, n + 3, n, n + 1] : List Addr) → s.heap.get? c = some o → g2.get? c = some o := fun c o hc' e =>
      e2.extBut _ _ (fun z => hc' (by rw [z]; simp)) (hk c o hc' e)
    have hT2 : IsPair g2 s.heap.objs.size u v := e2.extBut _ _ (Nat.ne_of_gt ltz) a5
    have I1 : Inv X pins σ (upd H s.heap.objs.size (.tup [x, y])) { s with heap := g2, toks := s.toks } := I.many (ch := [n + 4, n + 3, n, n + 1]) (fun c hc' => hf c (by simp only [List.mem_cons, List.not_mem_nil, or_false] at hc' ⊢; rcases hc' with r | r | r | r <;> simp [r])) kk (Nat.le_refl _)
      ⟨by show 2 ≤ sizeLine; decide, [u, v], .cons ru (.cons rv .nil), _, hT2, rfl, _, rfl⟩
    refine ⟨.ref s.heap.objs.size, _, I1, rfl, ⟨_, x, y, hN, rfl, rfl, fun xs' ys' w1 w2 => ?_⟩, ?_, fun c hc' => ?_⟩
    · rw [I.sq_inj w1 q1, I.sq_inj w2 q2]; exact ⟨hx, hy⟩
    · exact ⟨z2, e2.extBut _ _ (show @Ne Nat _ _ by omega) (hk _ _ (by simp only [List.mem_cons, List.not_mem_nil, or_false, not_or]; exact ⟨show @Ne Nat _ _ by omega, show @Ne Nat _ _ by omega, show @Ne Nat _ _ by omega, show @Ne Nat _ _ by omega⟩) Z.ti), ⟨_, _, e2.extBut _ _ (show @Ne Nat _ _ by omega) a2⟩, a3.stay fun o e => e2.extBut _ _ (show @Ne Nat _ _ by omega) e, a4.stay fun o e => e2.extBut _ _ (show @Ne Nat _ _ by omega) e⟩
    · have lt : c < s.heap.objs.size := by
        have : c ≤ n + 4 := by
          simp only [List.mem_cons, List.not_mem_nil, or_false] at hc'
          have := hc'
          have h2 : @Eq Nat c (n + 4) ∨ @Eq Nat c (n + 2) ∨ @Eq Nat c (n + 3) ∨ @Eq Nat c n ∨ @Eq Nat c (n + 1) := hc'
          show @LE.le Nat _ c (n + 4)
          omega
        exact Nat.lt_of_le_of_lt this ltz
      rw [upd_ne (Nat.ne_of_lt lt)]
      exact (hf c hc').1
  done := by
    intro X hP hw hK hc i pins s σ H E I hf Z hg
    subst hP hw hK
    obtain ⟨xs, ys, q1, q2, hend⟩ := hg
    obtain ⟨its1, r1, p1, _⟩ := I.sq q1
    obtain ⟨its2, r2, p2, _⟩ := I.sq q2
    have l1 := r1.length
    have l2 := r2.length
    have hT : s.TypeIs (.ref (n + 4)) "zip" := ⟨_, Z.z, rfl⟩
    unfold pyNext
    refine wpAny_bind (wpAny_attempt (wpAny_callSpecial?_slot (name := Str.ofString "__next__") hT PySem.F.slot_zip_next (wpAny_call_entry PySem.F.slot_zip_next hT PySem.F.entry_zip_next
      (zip2_end (I.ok.hd hc) n1 n2 Z p1 p2 ?_ fun g e hk he => ?_) (PySem.F.args_zip_next_1 _))))
    · rcases hend with q | q
      · exact .inl (by simp; omega)
      · exact .inr (by simp; omega)
    · obtain ⟨o, ho, hcl⟩ := he
      refine wpAny_bind (wpAny_isInstance (T := "StopIteration") (b := true) ⟨o, ho, hcl⟩ isSubtype_stop (wpAny_pure ⟨rfl, ?_⟩))
      exact I.many0 (t' := s.toks) (ch := [n + 4, n + 3, n, n + 1]) (fun c hc' => hf c (by simp only [List.mem_cons, List.not_mem_nil, or_false] at hc' ⊢; rcases hc' with r | r | r | r <;> simp [r])) hk
  self := fun _ _ _ _ _ Z h => wpAny_pyIter_zip Z.z h
def iZipA (t1 t2 : Bool) (K : PySem.W.Frag) (ta : TA) : TI := fun σ H R => ta σ H fun vs H1 => ∃ a b, vs = [.ref a, .ref b] ∧ (∃ xs, Sq t1 K H1 a xs) ∧ (∃ ys, Sq t2 K H1 b ys) ∧ R (ItzA t1 t2 K a b) H1
theorem pi_zipA {e f : Expr} {ta : TA} {p pos q : Pos} {elts : List Expr} {x1 : Nat} (hg : Gl X "zip") (hm : X.mg "zip" = none) (ha : PA X [e, f] ta) (hs : starEach [e, f] X.env = [(false, eval e X.env), (false, eval f X.env)] := by rfl) (hs2 : starEach [f] X.env = [(false, eval f X.env)] := by rfl)
    (hb : bootBuiltins "zip" = some (.type "zip") := by first | rfl | decide +kernel) : PI X (.Tuple elts x1 q) (.Call (.Name "zip" p) [e, f] [] pos) (iZipA t1 t2 X.K ta) := by
  intro pins s σ H R I h
  refine Call_ (ld_blt I hg hm hb (PyProof.Rows.callWith_type1 (thn (ha pos pins s σ H _ I h) fun us s1 ⟨vs, H1, I1, r1, w⟩ => ?_) (by rw [hs, hs2]) (by rw [hs2]; rfl)))
  obtain ⟨l1, l2, e, ⟨xs, q1⟩, ⟨ys, q2⟩, w⟩ := w
  subst e
  obtain ⟨u, v, rfl, ru, rv⟩ := Vals.two r1
  obtain rfl : u = Value.ref l1 := ru
  obtain rfl : v = Value.ref l2 := rv
  obtain ⟨its1, rv1, p1, _⟩ := I1.sq q1
  obtain ⟨its2, rv2, p2, _⟩ := I1.sq q2
  refine call_zipA p1 p2 fun g Z hk => ?_
  refine wpAny_pyIter_zip Z.z ?_
  have I2 : Inv X pins σ H1 { s1 with heap := g } := I1.kept (t' := s1.toks) hk
  refine ⟨_, _, _, _, H1, rfl, I2, turn_zipA p1.lt p2.lt, Z, fun c hc => ?_, w⟩
  simp only [List.mem_cons, List.not_mem_nil, or_false] at hc
  have up : ∀ k, FpOk X pins H1 (s1.heap.objs.size + k) := fun k => I1.fpOk (Nat.le_add_right _ _) (I1.hok.fresh (Nat.le_add_right _ _))
  rcases hc with rfl | rfl | rfl | rfl | rfl
  · exact up 4
  · exact up 2
  · exact up 3
  · exact up 0
  · exact up 1
end
section
variable {K : PySem.W.Frag} {a b : Addr} {xs ys : List V} {g : TG} {t1 t2 : Bool}
theorem comp_zipA {tifs : TT} {tm : TM} {σ0 : St} {Z : Hp → Prop} {H : Hp} (hlen : xs.length = ys.length) (Pv : Nat → Hp → Prop) (h0 : Pv 0 H) (hl : ∀ i H, i ≤ xs.length → Pv i H → Sq t1 K H a xs ∧ Sq t2 K H b ys)
    (turn : ∀ i x y p H, xs[i]? = some x → ys[i]? = some y → Pv i H → H p = none → g (.ref p) σ0 (upd H p (.tup [x, y])) fun σ2 H2 => tifs σ2 H2 fun b H3 =>
      if b = true then tm σ2 H3 fun H4 => Keeps2 σ0 σ2 ∧ ∃ m', m' < xs.length - i ∧ (m' = xs.length - (i + 1) ∧ i + 1 ≤ xs.length ∧ Pv (i + 1) H4) else Keeps2 σ0 σ2 ∧ ∃ m', m' < xs.length - i ∧ (m' = xs.length - (i + 1) ∧ i + 1 ≤ xs.length ∧ Pv (i + 1) H3))
    (hZ : ∀ H, Pv xs.length H → Z H) : tComp (ItzA t1 t2 K a b) σ0 g tifs tm Z H := by
  refine comp_by xs.length Pv h0 (fun i H hi p => ⟨xs, ys, xs[i], ys[i]'(hlen ▸ hi), (hl i H (Nat.le_of_lt hi) p).1, (hl i H (Nat.le_of_lt hi) p).2, by simp [hi], by simp [hlen ▸ hi]⟩) (fun H p => ⟨xs, ys, (hl _ H (Nat.le_refl _) p).1, (hl _ H (Nat.le_refl _) p).2, .inl (Nat.le_refl _)⟩) (fun i H hi p x H' y => ?_) hZ
  obtain ⟨pp, x1, y1, hn, rfl, rfl, k⟩ := y
  obtain ⟨k1, k2⟩ := k xs ys (hl i H (Nat.le_of_lt hi) p).1 (hl i H (Nat.le_of_lt hi) p).2
  exact turn i x1 y1 pp H k1 k2 p hn
end
end L2
namespace L3
open PySem PySem.Spec PyProof.Rows L2
section
variable {X : Cx} {a b c e o : Expr} {es : List Expr} {ta tb tc te : TE} {t : TA} {pos : Pos}
theorem iZA (t1 t2 : Bool) {KK : PySem.W.Frag} {p q : Pos} {elts : List Expr} {x1 : Nat} (hg : Gl X "zip") (hm : X.mg "zip" = none) (ha : SA X [a, b] t) (hb : NoStar b := by first | exact ns_name | exact ns_sub | exact ns_call) (hK : X.K = KK := by first | exact cxC_K | rfl) : SI X (.Tuple elts x1 q) (.Call (.Name "zip" p) [a, b] [] pos) (iZipA t1 t2 KK t) := by
  subst hK
  exact ⟨pi_zipA hg hm ha.h.pa (by rw [(ha.h.ns a [b] rfl).1.h [b] X.env, hb.h [] X.env]; rfl) (by rw [hb.h [] X.env]; rfl)⟩
end
end L3
set_option Elab.async false
set_option linter.all false
set_option maxRecDepth 100000
/-! texts: str(..), join, parts told exactly, a text in a text, >>; a dict of texts that the text's top level keeps -/
namespace L2
open PySem PySem.Spec PyProof.Rows
end L2
namespace L3
open PySem PySem.Spec PyProof.Rows L2
end L3
set_option Elab.async false
set_option linter.all false
set_option maxRecDepth 100000
/-! texts: split, int(text), parts; x in a dict of the top level, its get; pop(), x.f += y -/
namespace PySem.StrLaws
open Builtin Builtin.Str
end PySem.StrLaws
namespace L2
open PySem PySem.Spec PyProof.Rows
end L2
namespace L3
open PySem PySem.Spec PyProof.Rows L2
end L3
set_option Elab.async false
set_option linter.all false
set_option maxRecDepth 100000
/-! t[:k] that may be the whole of t -/
namespace HT
open PySem PySem.Spec PyProof.Rows
section
variable {prog : Program} {w : World} {A : Around} {E : Value → Shared → Prop} {s : Shared}
theorem getItem_tuple_all {t sl : Addr} {items : Array Value} {vl vu : Value} {lo hi : Option Int} {Q : Value → Shared → Prop} (ht : IsTup s.heap t items) (hs : s.heap.IsSliceOf sl vl vu .none) (pl : IsPart vl lo) (pu : IsPart vu hi)
    (hw : sIx items.size 0 lo = 0 ∧ sIx items.size items.size hi = items.size)
    (h : Q (.ref t) s) : wpAny (model prog w) A (getItem (.ref t) (.ref sl)) Q E s := by
  obtain ⟨os, hos, hcs, hds⟩ := id hs
  have hTs : s.TypeIs (.ref sl) "slice" := ⟨os, hos, hcs⟩
  unfold getItem
  try with_reducible refine wpAny_holding ?_
  first | refine wpAny_bind (wpAny_pure ?_) | skip
  refine wpAny_bind (wpAny_sequenceKey ht.typeIs (by decide) ?_)
  refine wpAny_bind (wpAny_callSpecial?_slot (name := Str.ofString "__getitem__") ht.typeIs PyProof.Rows.slot_tuple_getitem
    (wpAny_call_entry PyProof.Rows.slot_tuple_getitem ht.typeIs entry_tuple_getitem ?_ (args_tuple_getitem _ _)))
  show wpAny _ _ (Builtin.Tuple.tupleItemsOf (.ref t) >>= _) _ _ s
  refine wpAny_bind (tupleItemsOf_ ht ?_)
  refine wpAny_bind (wpAny_typeOf hTs ?_)
  rw [if_pos (by decide)]
  refine wpAny_bind (sliceApplied_gen hs pl pu ?_)
  show wpAny _ _ (if (((sIx items.size 0 lo : Nat) : Int) == 0 && (1 : Int) == 1 && (sIx items.size items.size hi - sIx items.size 0 lo) == items.size) = true then _ else _) _ _ s
  rw [if_pos (by rw [hw.1, hw.2]; simp)]
  unfold Builtin.Tuple.tupleIsExact
  refine wpAny_bind (wpAny_bind (wpAny_typeOf ht.typeIs (wpAny_pure ?_)))
  rw [if_pos (by decide)]
  exact wpAny_bind (wpAny_rule (wpAny_pure ⟨_, rfl, wpAny_pure h⟩))
end
end HT
namespace L2
open PySem PySem.Spec PyProof.Rows
section
variable {X : Cx}
/-- t[lo:hi]: the whole is t itself -/
def rSlA (K : PySem.W.Frag) : V → Option Int → Option Int → Hp → VK → Prop := fun x lo hi H Q => rSlT K x lo hi H Q ∨ ∃ a xs, x = .ref a ∧ SqT K H a xs ∧ (HT.sIx xs.length 0 lo = 0 ∧ HT.sIx xs.length xs.length hi = xs.length) ∧ Q (.ref a) H
theorem sl_tupA : SlR X (rSlA X.K) := SlR.or sl_tup (by
  intro pins s σ H x v vl vu lo hi sl Q I rx hs pl pu h
  obtain ⟨a, xs, rfl, hx, hw, q⟩ := h
  cases rx
  obtain ⟨its, r, ht, hz⟩ := I.tuple hx
  have hlen : its.toArray.size = xs.length := by rw [List.size_toArray]; exact r.length.symm
  refine ⟨"tuple", _, PyProof.Rows.slot_tuple_getitem.lookup, ht.typeIs, ?_⟩
  exact HT.getItem_tuple_all ht hs pl pu (by rw [hlen]; exact hw) ⟨.ref a, H, I, rfl, q⟩)
/-! isinstance(x, (T1, T2)), built-in types -/
inductive TyS (H : Hp) : V → Value → Prop where
  | int (i : Int) : TyS H (.int i) (.type "int")
  | str (x : Str) : TyS H (.str x) (.type "str")
  | lst {a : Addr} {xs : List V} (h : H a = some (.lst xs)) : TyS H (.ref a) (.type "list")
  | tup {a : Addr} {xs : List V} (h : H a = some (.tup xs)) : TyS H (.ref a) (.type "tuple")
def rIsT (K : PySem.W.Frag) : List V → Hp → VK → Prop := fun xs H Q => (∃ x n t b, xs = [x, .ty n] ∧ TyOf K H x t ∧ PySem.W.kitOne K t (.type n) = some b ∧ Q (.bl b) H) ∨
  ∃ (x : V) (tp : Addr) (ns : List String) (t : Value) (b : Bool), xs = [x, .ref tp] ∧ H tp = some (.tup (ns.map V.ty)) ∧ TyS H x t ∧ PySem.W.kitAny K t (ns.map Value.type) = some b ∧ Q (.bl b) H
theorem vals_types {ns : List String} : ∀ {us : List Value}, Vals (ns.map V.ty) us → us = ns.map Value.type := by
  induction ns with
  | nil => intro us h; cases h; rfl
  | cons a l ih =>
    intro us h
    cases h with
    | cons r t =>
      rw [ih t, List.map_cons]
      congr 1
theorem call_isT : CallR X (.builtin "isinstance") (rIsT X.K) := by
  intro pins s σ H xs us Q I r h
  rcases h with h | ⟨x, tp, ns, t, b, rfl, ht, ty, e, q⟩
  · exact call_isi pins s σ H xs us Q I r h
  obtain ⟨u, v, rfl, ru, rv⟩ := Vals.two r
  obtain rfl : v = Value.ref tp := rv
  obtain ⟨_, its, rl, o, h1, h2, n, h3⟩ := (show ObjOk X.prog X.w H s.heap tp (.tup (ns.map V.ty)) from I.hok tp _ ht)
  rw [vals_types rl] at h3
  obtain ⟨oc, od, oda, osl⟩ := o
  simp only at h2 h3
  subst h2 h3
  cases ty with
  | int i => obtain ⟨t, q'⟩ := (show ∃ t, u = Value.int i t from ru); cases q'; exact PySem.W.kia_tup PySem.W.kitx_int I.kIn True.intro h1 e (fun z => nomatch z) fun tk => ⟨.bl b, H, I.tok tk, rfl, q⟩
  | str y => obtain ⟨t, q'⟩ := (show ∃ t, u = Value.str y t from ru); cases q'; exact PySem.W.kia_tup PySem.W.kitx_str I.kIn True.intro h1 e (fun z => nomatch z) fun tk => ⟨.bl b, H, I.tok tk, rfl, q⟩
  | @lst a xs ea =>
    cases (show u = Value.ref a from ru)
    obtain ⟨_, _, n, _, g1⟩ := (show ObjOk X.prog X.w H s.heap a (.lst xs) from I.hok a _ ea)
    exact PySem.W.kia_tup PySem.W.kitx_list I.kIn ⟨_, g1, rfl⟩ h1 e (fun z => nomatch z) fun tk => ⟨.bl b, H, I.tok tk, rfl, q⟩
  | @tup a xs ea =>
    cases (show u = Value.ref a from ru)
    obtain ⟨_, _, _, p⟩ := (show ObjOk X.prog X.w H s.heap a (.tup xs) from I.hok a _ ea)
    obtain ⟨o, g1, g2, _⟩ := p
    exact PySem.W.kia_tup PySem.W.kitx_tuple I.kIn ⟨o, g1, g2⟩ h1 e (fun z => nomatch z) fun tk => ⟨.bl b, H, I.tok tk, rfl, q⟩
end
end L2
namespace L3
open PySem PySem.Spec PyProof.Rows L2
section
variable {X : Cx} {a b : Expr} {ta tb : TE} {pos : Pos}
theorem slA2 {KK : PySem.W.Frag} {p2 : Pos} (ha : SE X a ta) (hb : SE X b tb) (hK : X.K = KK := by first | exact cxC_K | rfl) : SE X (.Subscript a (.Slice none (some b) none p2) pos) (tSl (rSlA KK) ta tNoPart (tPart tb)) := by
  subst hK
  exact ⟨pe_slice sl_tupA ha.h po_none (po_some hb.h)⟩
theorem c_isT {KK : PySem.W.Frag} (hK : X.K = KK := by first | exact cxC_K | rfl) : SC X (.builtin "isinstance") (rIsT KK) := by
  subst hK
  exact ⟨call_isT⟩
end
end L3
set_option Elab.async false
set_option linter.all false
set_option maxRecDepth 100000
/-! an exception that leaves a comprehension -/
namespace L2
open PySem PySem.Spec PyProof.Rows
end L2
namespace L3
open PySem PySem.Spec PyProof.Rows L2
end L3
set_option Elab.async false
set_option linter.all false
set_option maxRecDepth 100000
/-! tokens: what is below a number, a list that is held as it lies, statements from where on so many tokens are taken; text.replace(a, b) -/
namespace L2
open PySem PySem.Spec PyProof.Rows
/-! ### y = [x for x in [texts] if x not in z]: the tokens of what is picked -/
/-! ### text.replace(y, l[i]) where l is held -/
end L2
namespace L3
open PySem PySem.Spec PyProof.Rows L2
end L3
set_option Elab.async false
set_option linter.all false
set_option maxRecDepth 100000
/-! dict(xs), xs a list of pairs whose first parts are tuples -/
namespace L2
open PySem PySem.Spec PyProof.Rows
section
variable {X : Cx}
def PairT (H : Hp) (t : V) (kv : List Key × V) : Prop := ∃ a b, t = .ref a ∧ H a = some (.tup [.ref b, kv.2]) ∧ H b = some (.tup (kv.1.map kV))
theorem update_loopT {pins : List (Addr × Obj)} {σ : St} {A : Around} {D l it : Addr} {xs : List V} (hh : A.handled = none) (hu : A.units + 3 < cLine) :
    ∀ (n i : Nat) (j : Int) (t : Tok) (kvs d : List (List Key × V)) (H : Hp) (s : Shared) (R : Result → Shared → Prop), xs.length - i = n → i ≤ xs.length → Inv X pins σ H s → H D = some (.dT d) → d.length + n ≤ sizeLine → SqL X.K H l xs → FpOk X pins H it → s.heap.IsListIter it l i →
      Paired (PairT H) (xs.drop i) kvs → (∀ s', Inv X pins σ (upd H D (.dT (putAllT d kvs))) s' → R (.ok (.ret .none)) s') →
      codeAny (model X.prog X.w) A (.builtin "dict.update.loop" ⟨[.ref D, .ref it, .int j t, .none], []⟩) R s := by
  intro n
  induction n using Nat.strongRecOn with
  | _ n ih =>
    intro i j t kvs d H s R hn hi I hD hz hq hf hit hp hR
    obtain ⟨its, rv, p, _⟩ := I.list hq
    have hl := rv.length
    obtain ⟨f0, f1, f2, f3, f4, f5⟩ := id hf
    refine codeAny_builtin l3_entry_update_loop ?_
    have hA : (A.under (.builtin "dict.update.loop" ⟨[.ref D, .ref it, .int j t, .none], []⟩)).handled = none := by rw [show (A.under (.builtin "dict.update.loop" ⟨[.ref D, .ref it, .int j t, .none], []⟩)).handled = A.handled from rfl]; exact hh
    have hU : (A.under (.builtin "dict.update.loop" ⟨[.ref D, .ref it, .int j t, .none], []⟩)).units + 1 < cLine := by
      show A.units + (Code.builtin "dict.update.loop" ⟨[.ref D, .ref it, .int j t, .none], []⟩).cUnits + 1 < cLine
      rw [show (Code.builtin "dict.update.loop" ⟨[.ref D, .ref it, .int j t, .none], []⟩).cUnits = 1 from plainId_units (by decide +kernel) _]
      omega
    generalize A.under (.builtin "dict.update.loop" ⟨[.ref D, .ref it, .int j t, .none], []⟩) = A' at hA hU ⊢
    unfold Builtin.«dict.update.loop»
    show wpAny _ _ (pyNext (.ref it) >>= _) _ _ _
    cases hx : xs[i]? with
    | none =>
      have hge : xs.length ≤ i := List.getElem?_eq_none_iff.mp hx
      refine wpAny_bind (wpAny_pyNext_list_end hA hit p.isList (by simp; omega) fun h' eb => ?_)
      have I1 : Inv X pins σ H { s with heap := h' } := I.turned (t' := s.toks) (fun b o hb e => eb b o hb e) f0 f1 f3 f4 f5
      have hdr : xs.drop i = [] := List.drop_eq_nil_of_le hge
      rw [hdr] at hp
      cases hp
      have e : upd H D (.dT (putAllT d [])) = H := by
        funext b
        unfold upd
        split
        · rename_i hb; rw [hb, hD]; rfl
        · rfl
      rw [e] at hR
      show wpAny _ _ (Builtin.Dict.addKeywords D [] >>= _) _ _ _
      exact wpAny_bind (wpAny_pure (wpAny_pure (hR _ I1)))
    | some x =>
      have hlt : i < xs.length := (List.getElem?_eq_some_iff.mp hx).1
      obtain ⟨u, hu, ru⟩ := rv.get hx
      have hdr : xs.drop i = x :: xs.drop (i + 1) := by
        have e : xs[i] = x := (List.getElem?_eq_some_iff.mp hx).2
        rw [List.drop_eq_getElem_cons hlt, e]
      rw [hdr] at hp
      cases hp with
      | @cons _ kv _ r hkv hrest =>
        obtain ⟨ta, tb, rfl, hta, htb⟩ := hkv
        obtain rfl : u = Value.ref ta := ru
        refine wpAny_bind (wpAny_pyNext_list_item hit p.isList (x := .ref ta) (by simpa using hu) fun h' hit' sb => ?_)
        have I1 : Inv X pins σ H { s with heap := h' } := I.turned (t' := s.toks) (fun b o hb e => (sb.2 b hb).trans e) f0 f1 f3 f4 f5
        obtain ⟨its2, rv2, p2, _⟩ := I1.tuple (SqT.of hta)
        obtain ⟨w1, w2, rfl, r1, r2⟩ := Vals.two rv2
        refine wpAny_bind (wpAny_holding ?_)
        refine wpAny_bind (wpAny_tryCatch (l3_pairItems (show ({ s with heap := h' } : Shared).heap.IsTuple ta #[w1, w2] from (show IsTup h' ta #[w1, w2] by simpa using p2)) ?_))
        show wpAny _ _ (holding [w1, w2] (dictSet D w1 w2)) _ _ _
        have hln : (putK d kv.1 kv.2).length ≤ d.length + 1 := length_putK d kv.1 kv.2
        have hn1 : n = xs.length - (i + 1) + 1 := by omega
        refine wpAny_holding ?_
        have hDit : D ≠ it := fun z => by rw [z, f0] at hD; cases hD
        have hlD : SqL X.K (upd H D (.dT (putK d kv.1 kv.2))) l xs := by
          rcases hq with (q | ⟨o, q⟩) | q
          · exact .inl (.inl (by rw [upd_ne (ne_of q hD (fun z => nomatch z))]; exact q))
          · exact .inl (.inr ⟨o, by rw [upd_ne (ne_of q hD (fun z => nomatch z))]; exact q⟩)
          · exact .inr q
        obtain ⟨z, hd', vs, rel, dd⟩ := dt_of I1.hok hD
        have hzv : vs.length ≤ sizeLine := by rw [← Paired.length rel]; exact z
        have hroom : (tupleKind (mixKind X.prog X.w)).room A' := show A'.units < cLine by omega
        cases (show w1 = Value.ref tb from r1)
        refine wpAny_dictSet_heap (hsz := hzv) hroom (key_of I1.hok htb) dd fun h2 dd' hs2 => ?_
        obtain ⟨qo, es, ep, hqo, k2, k3, k4, _, k5⟩ := dd'
        have I2 : Inv X pins σ (upd H D (.dT (putK d kv.1 kv.2))) _ := d_write (t' := s.toks) I1 (by rw [hD]; exact True.intro) hs2 ⟨qo, hqo⟩ ⟨by omega, hd', _, (rel.put kv.1 htb r2).keeps fun c ys ec => by
          rw [upd_ne (ne_of ec hD (fun z => nomatch z))]
          exact ec, qo, es, ep, hqo, k2, k3, k4, k5⟩
        refine wpAny_pure ⟨Code.quiet_builtin _ (by decide +kernel), ?_⟩
        refine ih (xs.length - (i + 1)) (by omega) (i + 1) _ _ r (putK d kv.1 kv.2) (upd H D (.dT (putK d kv.1 kv.2))) _ R rfl hlt (I2.tok _) upd_same (by omega) hlD ⟨by rw [upd_ne hDit.symm]; exact f0, hf.2⟩ (hit'.extBut hs2.extBut hDit.symm) ?_ ?_
        · exact Paired.mapP hrest fun a b ⟨c, c2, e1, e2, e3⟩ => ⟨c, c2, e1, by rw [upd_ne (ne_of e2 hD (fun z => nomatch z))]; exact e2, by rw [upd_ne (ne_of e3 hD (fun z => nomatch z))]; exact e3⟩
        · intro s' I'
          rw [upd_upd] at I'
          exact hR s' I'
/-- dict(xs) -/
def rDictT (K : PySem.W.Frag) : List V → Hp → VK → Prop := fun vs H Q => ∃ l xs kvs, vs = [.ref l] ∧ H l = some (.lst xs) ∧ Paired (PairT H) xs kvs ∧ ∀ D, H D = none → Q (.ref D) (upd H D (.dT (putAllT [] kvs)))
theorem call_dict_pairsT (hu : X.A.units + 5 < cLine) (hc : X.calm = true) : CallR X (.type "dict") (rDictT X.K) := by
  intro pins s σ H vs us Q I r h
  obtain ⟨l, xs, kvs, rfl, hl, hp, q⟩ := h
  obtain ⟨u, rfl, ru⟩ := vals1 r
  obtain rfl : u = Value.ref l := ru
  have hh : X.A.handled = none := I.ok.hd hc
  have hD : H s.heap.objs.size = none := I.hok.fresh (Nat.le_refl _)
  have I1 : Inv X pins σ (upd H s.heap.objs.size (.dT [])) { s with heap := s.heap.push { cls := .type "dict", data := .dict #[] } } := I.laid (t' := s.toks) (fun _ _ e => Heap.get?_push_of_some _ e) (Nat.le_refl _) (dt_empty s.heap I.big)
  refine callType_codes (Q₁ := fun obj s₁ => obj = .ref s.heap.objs.size ∧ s₁ = { s with heap := s.heap.push { cls := .type "dict", data := .dict #[] } }) F.kt_called_dict (F.kt_typeCall_dict_1 _) F.entry_dict_init (kt_code_dict_new _ ⟨rfl, rfl⟩) ?_
  rintro obj s₁ ⟨rfl, rfl⟩
  have hnew : (s.heap.push { cls := .type "dict", data := .dict #[] }).DictOf (mixKind X.prog X.w) s.heap.objs.size [] := Heap.DictOf.new s.heap
  generalize hs1 : ({ s with heap := s.heap.push { cls := .type "dict", data := .dict #[] } } : Shared) = s1 at I1 ⊢
  have hnew1 : s1.heap.DictOf (mixKind X.prog X.w) s.heap.objs.size [] := by rw [← hs1]; exact hnew
  generalize s.heap.objs.size = D at hD I1 hnew1 ⊢
  have hl1 : (upd H D (.dT [])) l = some (.lst xs) := by rw [upd_ne (ne_of_none hl hD)]; exact hl
  refine ⟨hnew1.typeIs, F.args_dict_init_2 _ _, ?_⟩
  unfold Builtin.«dict.__init__»
  refine wpAny_bind ?_
  unfold Builtin.Dict.selfAndRest
  refine wpAny_bind (wpAny_notOrdered_dict hnew1.typeIs ?_)
  show wpAny _ _ (pure (D, [Value.ref l])) _ _ _
  refine wpAny_pure ?_
  show wpAny _ _ (Builtin.Dict.updateFrom "dict.__init__" D (.ref l) [] .none) _ _ _
  unfold Builtin.Dict.updateFrom
  obtain ⟨z, its, n, rv, e⟩ := (show ObjOk X.prog X.w _ s1.heap l (.lst xs) from I1.hok l _ hl1)
  refine wpAny_bind (wpAny_typeOf (T := "list") ⟨_, e, rfl⟩ ?_)
  rw [if_pos (by decide)]
  refine wpAny_bind (l3_getAttr_keys e hh fun h' tk hk => ?_)
  rw [if_pos (show (Option.isNone (none : Option Value)) = true from rfl)]
  have I2 : Inv X pins σ (upd H D (.dT [])) { s1 with heap := h', toks := tk } := I1.kept hk
  refine wpAny_bind (wpAny_rule ?_)
  refine wpAny_bind (wpAny_pyIter_list ⟨_, hk _ _ e, rfl, n, rfl⟩ ?_)
  have I3 := I2.kept (h' := h'.push { cls := .type "list_iterator", data := .fields #[.ref l, .int 0 0] }) (t' := tk) fun b o e => Heap.get?_push_of_some _ e
  refine wpAny_pure ⟨Code.quiet_builtin _ (by decide +kernel), ?_⟩
  refine update_loopT (l := l) (it := h'.objs.size) (xs := xs) (d := []) (kvs := kvs) (pins := pins) (σ := σ) (A := X.A.in1) (show X.A.in1.handled = none from hh) (show X.A.units + 1 + 3 < cLine by omega) xs.length 0 _ _ _ _ _ (by simp) (Nat.zero_le _) I3 upd_same (by simpa using z) (SqL.of hl1) (I2.fpOk (Nat.le_refl _) (I2.hok.fresh (Nat.le_refl _))) ⟨_, Heap.get?_push_size _ rfl, rfl, rfl⟩ ?_ ?_
  · exact Paired.mapP hp fun a b ⟨c, c2, e1, e2, e3⟩ => ⟨c, c2, e1, by rw [upd_ne (ne_of_none e2 hD)]; exact e2, by rw [upd_ne (ne_of_none e3 hD)]; exact e3⟩
  · intro s' I'
    rw [upd_upd] at I'
    exact ⟨rfl, .ref D, _, I', rfl, q D hD⟩
end
end L2
namespace L3
open PySem PySem.Spec PyProof.Rows L2
theorem c_dictT {X : Cx} {KK : PySem.W.Frag} (hu : X.A.units + 5 < cLine) (hc : X.calm = true := by rfl) (hK : X.K = KK := by first | exact cxC_K | rfl) : SC X (.type "dict") (rDictT KK) := by
  subst hK
  exact ⟨call_dict_pairsT hu hc⟩
end L3
set_option Elab.async false
set_option linter.all false
set_option maxRecDepth 100000
/-! ### t + u, t empty or not -/
namespace L2
open PySem PySem.Spec PyProof.Rows
section
variable {X : Cx}
def rCatZ (K : PySem.W.Frag) : R2 := fun x y H Q => ∃ a b xs ys, x = .ref a ∧ y = .ref b ∧ SqT K H a xs ∧ SqT K H b ys ∧ ys ≠ [] ∧ xs.length + ys.length ≤ sizeLine ∧
  (xs = [] → Q (.ref b) H) ∧ (xs ≠ [] → ∀ p, H p = none → Q (.ref p) (upd H p (.tup (xs ++ ys))))
theorem op_catZ : OpR X (binaryOp .Add) (rCatZ X.K) := by
  intro pins s σ H x y v u Q I rx ry h
  obtain ⟨a, b, xs, ys, rfl, rfl, ha, hb, hy, hz, q1, q2⟩ := h
  cases rx
  cases ry
  obtain ⟨its, r1, p1, _⟩ := I.tuple ha
  obtain ⟨its2, r2, p2, _⟩ := I.tuple hb
  by_cases hx : xs = []
  · obtain ⟨⟨cls, dd, data, sl⟩, ho, hc, n, hd⟩ := id p1
    obtain ⟨⟨cls2, dd2, data2, sl2⟩, ho2, hc2, n2, hd2⟩ := id p2
    simp only at hc hd hc2 hd2
    subst hc hd hc2 hd2
    have e0 : its = [] := r1.nil_iff.mpr hx
    exact concat_meets ⟨_, ho, rfl⟩ ⟨_, ho2, rfl⟩ noFill_tuple_add seq_tuple_add PySem.F.slot_tuple_add PySem.F.entry_tuple_add (PySem.F.args_tuple_add_2 _ _)
      (tuple_addW0 a b its.toArray its2.toArray n n2 dd dd2 sl sl2 (by simp [e0])) ⟨ho, ho2, ⟨.ref b, H, I, rfl, q1 hx⟩⟩
  · refine op_catT pins s σ H (.ref a) (.ref b) _ _ Q I rfl rfl ⟨a, b, xs, ys, rfl, rfl, ha, hb, hx, hz, fun z => absurd z hy, fun _ => q2 hx⟩
end
end L2
namespace L3
open PySem L2
theorem o_catZ {X : Cx} {KK : PySem.W.Frag} (hK : X.K = KK := by first | exact cxC_K | rfl) : SO X (binaryOp .Add) (rCatZ KK) := by
  subst hK
  exact ⟨op_catZ⟩
end L3
set_option Elab.async false
set_option linter.all false
set_option maxRecDepth 100000
/-! ### sort of few items, whatever the comparisons say: the same items in some order -/
namespace L2
open PySem PySem.Spec PyProof.Rows
section
variable {prog : Program} {w : World} {A : Around} {E : Value → Shared → Prop} {s : Shared} {a₀ : Array Keyed} {κ : SortKind}
structure SB (κ : SortKind) (a₀ : Array Keyed) (st : SortSt) : Prop where
  perm : (arrOf st).Perm a₀
  kind : kindOf st = κ
  failed : failedOf st = none
  pend : pendingOf st = #[]
theorem SB.size {st : SortSt} (h : SB κ a₀ st) : (arrOf st).size = a₀.size := h.perm.size_eq
theorem SB.setArr {st : SortSt} (h : SB κ a₀ st) {xs : Array Keyed} (hp : xs.Perm (arrOf st)) : SB κ a₀ (setArr st xs) := ⟨hp.trans h.perm, h.kind, h.failed, h.pend⟩
theorem SB.at {st : SortSt} (h : SB κ a₀ st) {i : Nat} (hi : i < a₀.size) : ∃ p, (arrOf st)[i]? = some p ∧ p ∈ a₀.toList := by
  have hi' : i < (arrOf st).size := by rw [h.size]; exact hi
  exact ⟨(arrOf st)[i], getElem?_pos _ i hi', (Array.perm_iff_toList_perm.mp h.perm).mem_iff.mp (by simp)⟩
/-- comparisons answer, and change nothing -/
def LtOk (prog : Program) (w : World) (A : Around) (s : Shared) (κ : SortKind) (a₀ : Array Keyed) : Prop :=
  ∀ p q, p ∈ a₀.toList → q ∈ a₀.toList → ∀ (E' : Value → Shared → Prop) (Q : Bool → Shared → Prop), (∀ b, Q b s) → wpAny (model prog w) A (keyLt' κ p.1 q.1) Q E' s
theorem wpS_ltP {st : SortSt} {i j : Nat} {Q : Option Bool → SortSt → Prop} (hL : LtOk prog w A s κ a₀) (hB : SB κ a₀ st) (hi : i < a₀.size) (hj : j < a₀.size) (h : ∀ b, Q (some b) st) : wpS (model prog w) A E s (ltAt' i j) Q st := by
  obtain ⟨p, e1, m1⟩ := hB.at hi
  obtain ⟨q, e2, m2⟩ := hB.at hj
  rw [ltAt'_eq]
  refine wpS_bind (wpS_get ?_)
  show wpS _ _ _ _ (do let x ← elem' (arrOf st) i; let y ← elem' (arrOf st) j; lt' x y) Q st
  rw [elem'_eq, elem'_eq, e1, e2]
  refine wpS_bind (wpS_pure (wpS_bind (wpS_pure ?_)))
  rw [lt'_eq]
  refine wpS_bind (wpS_get ?_)
  rw [hB.kind]
  refine wpS_bind (wpS_lift (wpAny_attempt (hL p q m1 m2 _ _ fun b => ⟨rfl, ?_⟩)))
  exact wpS_pure (h b)
theorem wpS_binP {st : SortSt} {n ok : Nat} {Q : Bool → SortSt → Prop} (hL : LtOk prog w A s κ a₀) (hn : n ≤ a₀.size) (hB : SB κ a₀ st) (h : ∀ st', SB κ a₀ st' → Q true st') : wpS (model prog w) A E s (binarySort' 0 n ok) Q st := by
  rw [binarySort'_eq]
  simp only [Nat.zero_add]
  refine wpS_bind (wpS_mono (wpS_forRange (I := fun k c st' => c = (none, ()) ∧ SB κ a₀ st') (Q := fun c st' => c = (none, ()) ∧ SB κ a₀ st') ?step ?fin ?init) ?post)
  case post =>
    rintro c st' ⟨rfl, hB'⟩
    exact wpS_pure (h st' hB')
  case init => exact ⟨rfl, hB⟩
  case fin =>
    rintro c st' h
    exact h
  case step =>
    rintro k c st' hak hkn ⟨rfl, hB'⟩
    have hk : k < a₀.size := by omega
    refine wpS_bind (wpS_mono (wpS_forRange (I := fun x c st'' => st'' = st' ∧ ∃ l r, c = (none, l, r) ∧ l ≤ r ∧ r ≤ k) (Q := fun c st'' => st'' = st' ∧ ∃ l r, c = (none, l, r) ∧ l ≤ k) ?istep ?ifin ?iinit) ?ipost)
    case iinit => exact ⟨rfl, 0, k, rfl, by omega, by omega⟩
    case ifin =>
      rintro c st'' ⟨rfl, l, r, rfl, a, b⟩
      exact ⟨rfl, l, r, rfl, by omega⟩
    case istep =>
      rintro x c st'' _ hxk ⟨rfl, l, r, rfl, hlr, hrk⟩
      dsimp only
      by_cases hge : l ≥ r
      · rw [if_pos hge]
        exact wpS_pure ⟨rfl, l, r, rfl, by omega⟩
      · rw [if_neg hge]
        refine wpS_bind (wpS_ltP hL hB' hk (by omega) fun b => ?_)
        cases b
        case true =>
          simp only [if_true]
          exact wpS_pure ⟨rfl, l, (l + r) / 2, rfl, by omega, by omega⟩
        case false =>
          simp only [Bool.false_eq_true, if_false]
          exact wpS_pure ⟨rfl, (l + r) / 2 + 1, r, rfl, by omega, by omega⟩
    case ipost =>
      rintro c st'' ⟨rfl, l, r, rfl, hlk⟩
      show wpS _ _ _ _ (do moveDown' k l; pure (ForInStep.yield (none, ()))) _ _
      rw [moveDown'_eq]
      exact wpS_bind (wpS_modify (wpS_pure ⟨rfl, hB'.setArr (bubble_perm _ _ _)⟩))
theorem wpS_ascP {st : SortSt} {a nrem : Nat} {Q : AscSt → SortSt → Prop} (hL : LtOk prog w A s κ a₀) (hn : nrem ≤ a₀.size) (ha : 1 ≤ a) (han : a ≤ nrem) (hB : SB κ a₀ st)
    (h : ∀ n, a ≤ n → n ≤ nrem → Q (none, n) st) : wpS (model prog w) A E s (ascLoop a nrem) Q st := by
  unfold ascLoop
  refine wpS_forRange (I := fun x c st' => st' = st ∧ c = (none, x)) ?step ?fin ⟨rfl, rfl⟩
  case fin =>
    rintro c st' ⟨rfl, rfl⟩
    rw [show max a nrem = nrem by omega]
    exact h nrem han (Nat.le_refl _)
  case step =>
    rintro x c st' hax hxn ⟨rfl, rfl⟩
    dsimp only
    refine wpS_bind (wpS_ltP hL hB (by omega) (by omega) fun b => ?_)
    cases b
    case true =>
      simp only [if_true]
      exact wpS_pure (h x hax (by omega))
    case false =>
      simp only [Bool.false_eq_true, if_false]
      exact wpS_pure ⟨rfl, rfl⟩
theorem wpS_tailP {st : SortSt} {n nrem : Nat} {Q : Option Nat → SortSt → Prop} (hL : LtOk prog w A s κ a₀) (hn : nrem ≤ a₀.size) (h1 : 1 ≤ n) (hnn : n ≤ nrem) (hB : SB κ a₀ st)
    (h : ∀ m st', SB κ a₀ st' → 1 ≤ m → m ≤ nrem → Q (some m) st') : wpS (model prog w) A E s (tail3 n nrem) Q st := by
  unfold tail3
  refine wpS_bind (wpS_reverse ?_)
  have hB' : SB κ a₀ (setArr st (mirror (arrOf st) 0 n ((n - 0) / 2))) := hB.setArr (mirror_perm _ _ _ _)
  exact wpS_bind (wpS_ascP hL hn h1 hnn hB' fun m hm1 hm2 => wpS_pure (h m _ hB' (by omega) hm2))
theorem wpS_descP {st : SortSt} {n nrem : Nat} {Q : DescSt → SortSt → Prop} (hL : LtOk prog w A s κ a₀) (hn : nrem ≤ a₀.size) (h1 : 1 ≤ n) (hnn : n ≤ nrem) (hB : SB κ a₀ st)
    (h : ∀ m neq st', SB κ a₀ st' → n ≤ m → m ≤ nrem → Q (none, m, neq) st') : wpS (model prog w) A E s (descLoop n nrem) Q st := by
  unfold descLoop
  refine wpS_forRange (I := fun x c st' => ∃ neq, c = (none, x, neq) ∧ SB κ a₀ st') ?step ?fin ⟨0, rfl, hB⟩
  case fin =>
    rintro c st' ⟨neq, rfl, hB'⟩
    rw [show max n nrem = nrem by omega]
    exact h nrem neq st' hB' hnn (Nat.le_refl _)
  case step =>
    rintro x c st' hax hxn ⟨neq, rfl, hB'⟩
    dsimp only
    refine wpS_bind (wpS_ltP hL hB' (by omega) (by omega) fun b => ?_)
    cases b
    case true =>
      simp only [if_true]
      by_cases hneq : neq > 0
      · rw [if_pos hneq]
        exact wpS_bind (wpS_reverse (wpS_pure ⟨0, rfl, hB'.setArr (mirror_perm _ _ _ _)⟩))
      · rw [if_neg hneq]
        exact wpS_pure ⟨0, rfl, hB'⟩
    case false =>
      simp only [Bool.false_eq_true, if_false]
      refine wpS_bind (wpS_ltP hL hB' (by omega) (by omega) fun b => ?_)
      cases b
      case true =>
        simp only [if_true]
        exact wpS_pure (h x neq st' hB' hax (by omega))
      case false =>
        simp only [Bool.false_eq_true, if_false]
        exact wpS_pure ⟨neq + 1, rfl, hB'⟩
theorem wpS_dpP {st : SortSt} {n nrem : Nat} {Q : Option Nat → SortSt → Prop} (hL : LtOk prog w A s κ a₀) (hn : nrem ≤ a₀.size) (hnn : n + 1 ≤ nrem) (hB : SB κ a₀ st)
    (h : ∀ m st', SB κ a₀ st' → 1 ≤ m → m ≤ nrem → Q (some m) st') : wpS (model prog w) A E s (descPart n nrem) Q st := by
  unfold descPart
  refine wpS_bind (wpS_lift (wpAny_rule ⟨rfl, ?_⟩))
  refine wpS_bind (wpS_descP hL hn (by omega) hnn hB fun m neq st' hB' hm1 hm2 => ?_)
  dsimp only
  by_cases hneq : neq > 0
  · rw [if_pos hneq]
    exact wpS_bind (wpS_reverse (wpS_tailP hL hn (by omega) hm2 (hB'.setArr (mirror_perm _ _ _ _)) h))
  · rw [if_neg hneq]
    exact wpS_tailP hL hn (by omega) hm2 hB' h
theorem wpS_countP {st : SortSt} {nrem : Nat} {Q : Option Nat → SortSt → Prop} (hL : LtOk prog w A s κ a₀) (hn : nrem ≤ a₀.size) (h1 : 1 ≤ nrem) (hB : SB κ a₀ st)
    (h : ∀ m st', SB κ a₀ st' → 1 ≤ m → m ≤ nrem → Q (some m) st') : wpS (model prog w) A E s (countRun' 0 nrem) Q st := by
  rw [countRun0_eq]
  refine wpS_bind (wpS_ascP hL hn (Nat.le_refl 1) h1 hB fun n hn1 hn2 => ?_)
  dsimp only
  by_cases hnn : n = nrem
  · rw [if_pos (by simpa using hnn)]
    exact wpS_pure (h n st hB hn1 hn2)
  · rw [if_neg (by simpa using hnn)]
    by_cases hgt : n > 1
    · rw [if_pos hgt]
      refine wpS_bind (wpS_ltP hL hB (by omega) (by omega) fun b => ?_)
      cases b
      case true =>
        simp only [if_true]
        exact wpS_pure (h n st hB hn1 hn2)
      case false =>
        simp only [Bool.false_eq_true, if_false]
        exact wpS_bind (wpS_reverse (wpS_dpP hL hn (by omega) (hB.setArr (mirror_perm _ _ _ _)) h))
    · rw [if_neg hgt]
      exact wpS_dpP hL hn (by omega) hB h
def SDone (a₀ : Array Keyed) (st : SortSt) : Prop := (arrOf st).Perm a₀ ∧ failedOf st = none ∧ pendingOf st = #[(0, a₀.size, 0)]
theorem SB.done {st : SortSt} (hB : SB κ a₀ st) : SDone a₀ (setPending st ((pendingOf st).push (0, a₀.size, 0))) :=
  ⟨hB.perm, hB.failed, by show (pendingOf st).push _ = _; rw [hB.pend]; rfl⟩
theorem wpS_sortP {st : SortSt} {Q : Unit → SortSt → Prop} (hL : LtOk prog w A s κ a₀) (hB : SB κ a₀ st) (h2 : 2 ≤ a₀.size) (h64 : a₀.size < 64)
    (h : ∀ st', (arrOf st').Perm a₀ → failedOf st' = none → Q () st') : wpS (model prog w) A E s sortRuns' Q st := by
  rw [sortRuns'_eq]
  refine wpS_bind (wpS_get ?_)
  dsimp only
  have hmr : minRun' a₀.size a₀.size 0 = a₀.size := by
    obtain ⟨f, hf⟩ : ∃ f, a₀.size = f + 1 := ⟨a₀.size - 1, by omega⟩
    have : minRun' (f + 1) a₀.size 0 = a₀.size := by rw [minRun'_succ, if_pos h64]; rfl
    rwa [← hf] at this
  simp only [hB.size, hmr]
  refine wpS_bind (wpS_mono (wpS_forRange
    (I := fun x c st' => (x = 0 ∧ c = (none, 0) ∧ SB κ a₀ st') ∨ (1 ≤ x ∧ c = (none, a₀.size) ∧ SDone a₀ st'))
    (Q := fun c st' => c = (none, a₀.size) ∧ SDone a₀ st') ?step ?fin (.inl ⟨rfl, rfl, hB⟩)) ?post)
  case fin =>
    rintro c st' (⟨hx, _, _⟩ | ⟨_, hc, hD⟩)
    · omega
    · exact ⟨hc, hD⟩
  case step =>
    rintro x c st' _ hx (⟨rfl, rfl, hB'⟩ | ⟨hx1, rfl, hD⟩)
    · dsimp only
      rw [if_neg (by omega)]
      simp only [Nat.sub_zero, Nat.min_self, Nat.zero_add]
      refine wpS_bind (wpS_countP hL (Nat.le_refl _) (by omega) hB' fun m st2 hB2 hm1 hm2 => ?_)
      dsimp only
      by_cases hlt : m < a₀.size
      · rw [if_pos hlt]
        refine wpS_bind (wpS_lift (wpAny_rule ⟨rfl, ?_⟩))
        refine wpS_bind (wpS_binP hL (Nat.le_refl _) hB2 fun st3 hB3 => ?_)
        simp only [Bool.not_true, Bool.false_eq_true, if_false]
        refine wpS_bind (wpS_get ?_)
        have hb : (pendingOf st3).back? = none := by rw [hB3.pend]; rfl
        rw [hb]
        dsimp only
        exact wpS_bind (wpS_modify (wpS_pure (.inr ⟨by omega, rfl, hB3.done⟩)))
      · rw [if_neg hlt]
        have hm : m = a₀.size := by omega
        subst hm
        refine wpS_bind (wpS_get ?_)
        have hb : (pendingOf st2).back? = none := by rw [hB2.pend]; rfl
        rw [hb]
        dsimp only
        exact wpS_bind (wpS_modify (wpS_pure (.inr ⟨by omega, rfl, hB2.done⟩)))
    · dsimp only
      rw [if_pos (Nat.le_refl _)]
      exact wpS_pure ⟨rfl, hD⟩
  case post =>
    rintro c st' ⟨rfl, hD⟩
    dsimp only
    refine wpS_bind (wpS_mono (wpS_forRange (I := fun _ c st'' => st'' = st' ∧ c = (none, ())) (Q := fun c st'' => st'' = st' ∧ c = (none, ())) ?_ (fun _ _ hh => hh) ⟨rfl, rfl⟩) ?_)
    · rintro x c st'' _ _ ⟨rfl, rfl⟩
      refine wpS_bind (wpS_get ?_)
      rw [if_pos (by rw [hD.2.2]; exact Nat.le_refl 1)]
      exact wpS_pure ⟨rfl, rfl⟩
    · rintro c st'' ⟨rfl, rfl⟩
      exact wpS_pure (h _ hD.1 hD.2.1)
end
end L2
set_option Elab.async false
set_option linter.all false
set_option maxRecDepth 100000
/-! ### sorted(d): the keys of a dict, tuples of two whole numbers, in some order -/
namespace L2
open PySem PySem.Spec PyProof.Rows
section
variable {prog : Program} {w : World} {A : Around} {E : Value → Shared → Prop} {s : Shared}
/-- a tuple of two whole numbers -/
def Two (h : Heap) (v : Value) : Prop := ∃ (a : Addr) (p q : Int) (t u : Tok), v = .ref a ∧ IsTup h a #[.int p t, .int q u]
theorem keyLt'_tup (x y : Value) : keyLt' (tuples' true) x y = (do
    let xs ← Builtin.List.listItems x; let ys ← Builtin.List.listItems y
    for ((p, q), i) in (xs.toList.zip ys.toList).zipIdx do
      if !(← eqBool p q) then return ← oneLt' (true && i == 0) p q
    return xs.size < ys.size) := rfl
theorem oneLt_int2 {b : Bool} {p q : Int} {t u : Tok} {Q : Bool → Shared → Prop} (h : Q (decide (p < q)) s) : wpAny (model prog w) A (oneLt' b (.int p t) (.int q u)) Q E s := by
  cases b with
  | true => exact oneLt_int h
  | false =>
    rw [oneLt'_eq]
    simp only [Bool.false_eq_true, if_false]
    refine wpAny_bind (wpAny_richCompare_same (id := "int.__lt__") (typeIs_int s p t) (typeIs_int s q u) slot_int_lt (call_int_lt ⟨(fun z => nomatch z), ?_⟩))
    exact wpAny_truthy_bool h
theorem keyLt_two {x y : Value} {Q : Bool → Shared → Prop} (hx : Two s.heap x) (hy : Two s.heap y) (h : ∀ b, Q b s) : wpAny (model prog w) A (keyLt' (tuples' true) x y) Q E s := by
  obtain ⟨a, p, q, t, u, rfl, o, ho, hc, n, hd⟩ := hx
  obtain ⟨b, p', q', t', u', rfl, o', ho', hc', n', hd'⟩ := hy
  rw [keyLt'_tup]
  refine wpAny_bind (listItems_at ho hd ?_)
  refine wpAny_bind (listItems_at ho' hd' ?_)
  simp only [List.zip_cons_cons, List.zip_nil_left, List.zipIdx_cons, List.zipIdx_nil, List.forIn_cons, List.forIn_nil, bind_assoc, pure_bind]
  refine wpAny_bind (wpAny_eqBool_int ?_)
  cases p == p' with
  | false =>
    simp only [Bool.not_false, if_true, bind_assoc, pure_bind]
    exact wpAny_bind (oneLt_int2 (wpAny_pure (h _)))
  | true =>
    simp only [Bool.not_true, Bool.false_eq_true, if_false, pure_bind, bind_assoc]
    refine wpAny_bind (wpAny_eqBool_int ?_)
    cases q == q' with
    | false =>
      simp only [Bool.not_false, if_true, bind_assoc, pure_bind]
      exact wpAny_bind (oneLt_int2 (wpAny_pure (h _)))
    | true =>
      simp only [Bool.not_true, Bool.false_eq_true, if_false, pure_bind, bind_assoc]
      exact wpAny_pure (h _)
theorem firstOfTuple'_eq (v : Value) : firstOfTuple' v = (do
    if (← typeOf v) != .type "tuple" then return none
    return (← Builtin.List.listItems v)[0]?) := rfl
theorem first_two {v : Value} {Q : Option Value → Shared → Prop} (hv : Two s.heap v) (h : ∀ p t, Q (some (.int p t)) s) : wpAny (model prog w) A (firstOfTuple' v) Q E s := by
  obtain ⟨a, p, q, t, u, rfl, o, ho, hc, n, hd⟩ := hv
  rw [firstOfTuple'_eq]
  refine wpAny_bind (wpAny_typeOf (T := "tuple") ⟨o, ho, hc⟩ ?_)
  rw [if_neg (by simp)]
  refine wpAny_bind (listItems_at ho hd (wpAny_pure ?_))
  exact h p t
theorem firsts_two : ∀ {vs : List Value} {Q : List (Option Value) → Shared → Prop}, (∀ v ∈ vs, Two s.heap v) → (∀ (us : List Value) (ns : List Int), IntsAre us ns → us.length = vs.length → Q (us.map some) s) → wpAny (model prog w) A (vs.mapM firstOfTuple') Q E s
  | [], Q, _, h => by
    rw [List.mapM_nil]
    exact wpAny_pure (h [] [] .nil rfl)
  | v :: vs, Q, hv, h => by
    rw [List.mapM_cons]
    refine wpAny_bind (first_two (hv v (List.mem_cons.mpr (.inl rfl))) fun p t => ?_)
    refine wpAny_bind (firsts_two (fun x hx => hv x (List.mem_cons.mpr (.inr hx))) fun us ns i l => wpAny_pure ?_)
    exact h (.int p t :: us) (p :: ns) (.cons p t i) (by rw [List.length_cons, List.length_cons, l])
theorem keyKind_two {vs : List Value} {Q : SortKind → Shared → Prop} (hne : vs ≠ []) (hv : ∀ v ∈ vs, Two s.heap v) (h : Q (tuples' true) s) : wpAny (model prog w) A (keyKind' vs.toArray) Q E s := by
  rw [keyKind'_eq, List.mapM_toArray]
  refine wpAny_bind ?_
  refine wpAny_bind (firsts_two hv fun us ns i l => wpAny_pure ?_)
  have hall : ((us.map some).toArray.all fun x => x.isSome) = true := by simp
  rw [if_pos hall]
  refine wpAny_bind (wpAny_rule ?_)
  have fm : (us.map some).toArray.filterMap id = us.toArray := by simp
  rw [fm, oneTypeOnly'_eq, List.mapM_toArray, mapM_typeOf_ints i]
  simp only [map_pure, pure_bind]
  cases us with
  | nil => exact absurd (List.length_eq_zero_iff.mp l.symm) hne
  | cons v us =>
    have hall : ((List.map (fun _ => Value.type "int") (v :: us)).toArray.all fun x => x == Value.type "int") = true := by
      simp only [List.all_toArray, List.all_map, List.all_eq_true]
      intro _ _
      rfl
    have h0 : (List.map (fun _ => Value.type "int") (v :: us)).toArray[0]? = some (Value.type "int") := by simp
    rw [h0]
    simp only [hall, if_true, pure_bind]
    exact wpAny_pure h
theorem pairs_snd (vs : List Value) : ((pairsOf vs).map (·.2)).toList = vs := by simp [pairsOf, List.map_snd_zip]
/-- list.sort of few tuples of two whole numbers -/
theorem list_sort_two {a : Addr} {vs : List Value} {n : Nat} {P : Fin → Shared → Prop} (ho : s.heap.get? a = some (seqObj "list" vs.toArray n)) (hv : ∀ v ∈ vs, Two s.heap v) (h64 : vs.length < 64)
    (h : ∀ out : Array Value, out.toList.Perm vs → P (.done (.ret .none)) { s with heap := sortedHeap s.heap a vs out }) :
    wpAny (model prog w) A (Builtin.«list.sort» ⟨[.ref a], []⟩) P E s := by
  rw [list_sort_plain]
  have ha : a < s.heap.objs.size := Heap.lt_size ho
  refine wpAny_bind (listItems_at ho rfl ?_)
  refine wpAny_bind (listUpdate_at ho rfl ?_)
  obtain ⟨e1, ho1⟩ : ∃ e1, (s.heap.update a (Obj.mapSeq fun _ => #[])).get? a = some (seqObj "list" #[] e1) := ⟨_, get?_update_seq ho (fun _ => #[])⟩
  refine wpAny_bind (seqEpoch_at ho1 rfl ?_)
  refine wpAny_bind (wpAny_newTuple ?_)
  refine wpAny_bind (wpAny_newList ?_)
  refine wpAny_holding ?_
  have ho6 : (((s.heap.update a (Obj.mapSeq fun _ => #[])).push (seqObj "tuple" vs.toArray 0)).push (seqObj "list" #[] 0)).get? a = some (seqObj "list" #[] e1) := by
    rw [Heap.get?_push_ne _ _ _ (by rw [size_push', Heap.size_update]; exact Nat.ne_of_lt (Nat.lt_succ_of_lt ha)), Heap.get?_push_ne _ _ _ (by rw [Heap.size_update]; exact Nat.ne_of_lt ha)]
    exact ho1
  show wpAny (model prog w) A _ P E { s with heap := ((s.heap.update a (Obj.mapSeq fun _ => #[])).push (seqObj "tuple" vs.toArray 0)).push (seqObj "list" #[] 0) }
  dsimp only
  have hsz : vs.toArray.size = vs.length := by simp
  have hv6 : ∀ v ∈ vs, Two (((s.heap.update a (Obj.mapSeq fun _ => #[])).push (seqObj "tuple" vs.toArray 0)).push (seqObj "list" #[] 0)) v := fun v hv0 => by
    obtain ⟨b, p, q, t, u, rfl, o, hb, hc, rest⟩ := hv v hv0
    refine ⟨b, p, q, t, u, rfl, o, ?_, hc, rest⟩
    refine Heap.get?_push_of_some _ (Heap.get?_push_of_some _ ?_)
    rw [Heap.get?_update_other _ _ (fun e => by
      subst e
      rw [ho] at hb
      cases hb
      have hc : Value.type "list" = Value.type "tuple" := hc
      exact absurd hc (by decide))]
    exact hb
  by_cases h2 : vs.toArray.size < 2
  · rw [if_pos h2, if_pos h2]
    refine wpAny_bind (wpAny_pure ?_)
    rw [StateT.run_pure]
    refine wpAny_bind (wpAny_pure ?_)
    dsimp only
    refine wpAny_bind (seqEpoch_at ho6 rfl ?_)
    refine wpAny_bind (listUpdate_at ho6 rfl ?_ (hsz2 := by rw [Array.size_map]; show (pairsOf vs).size ≤ _; rw [pairsOf_size, sizeLine_eq]; omega))
    simp only [bne_self_eq_false, Bool.false_eq_true, if_false]
    refine wpAny_pure (h _ ?_)
    exact List.Perm.of_eq (pairs_snd vs)
  · rw [if_neg h2, if_neg h2]
    refine wpAny_bind (keyKind_two (fun e => h2 (by rw [e]; decide)) hv6 ?_)
    refine wpAny_bind (wpAny_mono (wpS_sortP (κ := tuples' true) (a₀ := pairsOf vs) (st := SortSt.mk' (tuples' true) (vs.toArray.zip vs.toArray) #[] 7 none)
      (Q := fun _ st' => (arrOf st').Perm (pairsOf vs) ∧ failedOf st' = none) ?_ ⟨Array.Perm.refl _, rfl, rfl, rfl⟩ (by rw [pairsOf_size]; omega) (by rw [pairsOf_size]; exact h64) fun st' a1 a2 => ⟨a1, a2⟩) ?_ fun _ _ e => e)
    · intro p q hp hq E' Q' hQ
      rw [pairsOf_toList] at hp hq
      exact keyLt_two (hv6 _ (List.of_mem_zip hp).1) (hv6 _ (List.of_mem_zip hq).1) hQ
    rintro ⟨⟨⟩, st'⟩ s' ⟨rfl, hp, hf⟩
    dsimp only
    refine wpAny_bind (seqEpoch_at ho6 rfl ?_)
    refine wpAny_bind (listUpdate_at ho6 rfl ?_ (hsz2 := by refine Nat.le_trans (Nat.le_of_eq ((Array.size_map ..).trans (hp.size_eq.trans (pairsOf_size _)))) ?_; rw [sizeLine_eq]; omega))
    rw [hf]
    simp only [bne_self_eq_false, Bool.false_eq_true, if_false]
    refine wpAny_pure (h _ ?_)
    rw [Array.toList_map]
    have h1 := (Array.perm_iff_toList_perm.mp hp).map (·.2)
    rw [← Array.toList_map (xs := pairsOf vs), pairs_snd] at h1
    exact h1
end
end L2
set_option Elab.async false
set_option linter.all false
set_option maxRecDepth 100000
/-! ### the keys of a dict, one by one, whatever they are -/
namespace L2
open PySem PySem.Spec PyProof.Rows
section
variable {prog : Program} {w : World} {A : Around} {E : Value → Shared → Prop} {s : Shared}
/-- a dict of these keys -/
def RawD (h : Heap) (d : Addr) (ks : List Value) (ep : Nat) : Prop := ∃ o es, h.get? d = some o ∧ o.ExactDict ∧ o.data = .dict es ep ∧ es.toList.map (·.key) = ks
theorem RawD.at {h h' : Heap} {d : Addr} {ks : List Value} {ep : Nat} (x : RawD h d ks ep) (e : ∀ o, h.get? d = some o → h'.get? d = some o) : RawD h' d ks ep := let ⟨o, es, ho, r⟩ := x; ⟨o, es, e _ ho, r⟩
theorem next_key {it d : Addr} {i ep : Nat} {ks : List Value} {k : Value} {Q : Option Value → Shared → Prop} (hit : s.heap.IsKeyIter it d i ks.length ep) (hm : RawD s.heap d ks ep) (hx : ks[i]? = some k)
    (hQ : ∀ h', h'.IsKeyIter it d (i + 1) ks.length ep → Heap.SameBut it s.heap h' → Q (some k) { s with heap := h' }) : wpAny (model prog w) A (pyNext (.ref it)) Q E s := by
  obtain ⟨o, ho, hc, hd⟩ := id hit
  obtain ⟨od, es, hod, hcd, hdd, hk⟩ := id hm
  have hsz : es.size = ks.length := by rw [← hk, List.length_map]; rfl
  have hlt : i < ks.length := (List.getElem?_eq_some_iff.mp hx).1
  have hlt' : i < es.size := by rw [hsz]; exact hlt
  have hkey : es[i].key = k := by
    rw [← hk, List.getElem?_map] at hx
    have : es.toList[i]? = some es[i] := by simp [hlt']
    rw [this] at hx
    exact Option.some.inj hx
  unfold pyNext
  refine wpAny_bind (wpAny_attempt (wpAny_callSpecial?_slot (name := Str.ofString "__next__") hit.typeIs F.slot_dict_keyiterator_next (wpAny_call_entry F.slot_dict_keyiterator_next hit.typeIs F.entry_dict_keyiterator_next ?_ (F.args_dict_keyiterator_next_1 _))))
  refine wpAny_bind (wpAny_pure ?_)
  refine wpAny_bind ?_
  refine wpAny_bind ?_
  first | refine wpAny_bind (wpAny_typeNameOfWhole_keyiter hit.typeIs (wpAny_pure ?_)) | refine wpAny_bind (wpAny_typeNameOf_keyiter hit.typeIs (wpAny_pure ?_))
  refine wpAny_bind (wpAny_fieldsOf ho hd ?_)
  have hown : Builtin.Dict_items.ownsTuple "dict_keyiterator" = false := by decide
  simp only [hown, Bool.false_eq_true, if_false]
  show wpAny _ _ (if (Value.ref d == Value.none) = true then _ else _) _ _ s
  rw [if_neg (show ¬ ((Value.ref d == Value.none) = true) from Bool.false_ne_true)]
  refine wpAny_bind (wpAny_pure ?_)
  refine wpAny_bind (wpAny_dictEntries hod hdd ?_)
  rw [if_neg (by rw [hsz]; simp)]
  refine wpAny_bind (wpAny_pure ?_)
  refine wpAny_bind (wpAny_dictEpoch hod hdd ?_)
  rw [if_neg (by simp)]
  refine wpAny_pure ?_
  simp only [show ¬ ((i : Int) < 0) from by omega, if_false, Int.toNat_natCast, Array.getElem?_eq_getElem hlt']
  refine wpAny_bind ?_
  first | refine wpAny_bind (wpAny_typeNameOfWhole_keyiter hit.typeIs (wpAny_pure ?_)) | refine wpAny_bind (wpAny_typeNameOf_keyiter hit.typeIs (wpAny_pure ?_))
  refine wpAny_bind (wpAny_isOneOf_keyiter hit.typeIs ?_)
  show wpAny _ _ (setField (.ref it) 1 (rawInt ((i : Int) + 1)) >>= _) _ _ s
  refine wpAny_bind (wpAny_setField ho hd (by simp) ?_)
  have hit' : (s.heap.update it (Obj.mapFields (·.setIfInBounds 1 (rawInt ((i : Int) + 1))))).IsKeyIter it d (i + 1) ks.length ep :=
    ⟨_, Heap.get?_update_self _ ho (Obj.isFreed_of_fields (Obj.data_mapFields hd _)), (Obj.cls_mapFields ..).trans hc, by rw [Obj.data_mapFields hd]; simp [rawInt]⟩
  refine wpAny_bind (wpAny_holding ?_)
  refine wpAny_bind (wpAny_isOneOf_keyiter (s := { s with heap := s.heap.update it (Obj.mapFields (·.setIfInBounds 1 (rawInt ((i : Int) + 1)))) }) hit'.typeIs ?_)
  show wpAny _ _ (pure es[i].key) _ _ _
  rw [hkey]
  exact wpAny_pure (wpAny_pure ⟨_, rfl, wpAny_pure (hQ _ hit' (Heap.SameBut.update ..))⟩)
theorem next_none {it d : Addr} {i ep : Nat} {ks : List Value} {Q : Option Value → Shared → Prop} (hh : A.handled = none) (hit : s.heap.IsKeyIter it d i ks.length ep) (hm : RawD s.heap d ks ep) (hx : ks[i]? = none)
    (hQ : ∀ h', Heap.ExtBut it s.heap h' → Q none { s with heap := h' }) : wpAny (model prog w) A (pyNext (.ref it)) Q E s := by
  obtain ⟨o, ho, hc, hd⟩ := id hit
  obtain ⟨od, es, hod, hcd, hdd, hk⟩ := id hm
  have hsz : es.size = ks.length := by rw [← hk, List.length_map]; rfl
  unfold pyNext
  refine wpAny_bind (wpAny_attempt (wpAny_callSpecial?_slot (name := Str.ofString "__next__") hit.typeIs F.slot_dict_keyiterator_next (wpAny_call_entry F.slot_dict_keyiterator_next hit.typeIs F.entry_dict_keyiterator_next ?_ (F.args_dict_keyiterator_next_1 _))))
  refine wpAny_bind (wpAny_pure ?_)
  refine wpAny_bind ?_
  refine wpAny_bind ?_
  first | refine wpAny_bind (wpAny_typeNameOfWhole_keyiter hit.typeIs (wpAny_pure ?_)) | refine wpAny_bind (wpAny_typeNameOf_keyiter hit.typeIs (wpAny_pure ?_))
  refine wpAny_bind (wpAny_fieldsOf ho hd ?_)
  have hown : Builtin.Dict_items.ownsTuple "dict_keyiterator" = false := by decide
  simp only [hown, Bool.false_eq_true, if_false]
  show wpAny _ _ (if (Value.ref d == Value.none) = true then _ else _) _ _ s
  rw [if_neg (show ¬ ((Value.ref d == Value.none) = true) from Bool.false_ne_true)]
  refine wpAny_bind (wpAny_pure ?_)
  refine wpAny_bind (wpAny_dictEntries hod hdd ?_)
  rw [if_neg (by rw [hsz]; simp)]
  refine wpAny_bind (wpAny_pure ?_)
  refine wpAny_bind (wpAny_dictEpoch hod hdd ?_)
  rw [if_neg (by simp)]
  refine wpAny_pure ?_
  have hge : es.size ≤ i := by rw [hsz]; simpa using hx
  simp only [show ¬ ((i : Int) < 0) from by omega, if_false, Int.toNat_natCast, Array.getElem?_eq_none hge]
  refine wpAny_bind ?_
  first | refine wpAny_bind (wpAny_typeNameOfWhole_keyiter hit.typeIs (wpAny_pure ?_)) | refine wpAny_bind (wpAny_typeNameOf_keyiter hit.typeIs (wpAny_pure ?_))
  show wpAny _ _ (setField (.ref it) 0 .none >>= _) _ _ s
  refine wpAny_bind (wpAny_setField ho hd (by simp) ?_)
  show wpAny _ _ (newExc (.type "StopIteration") [] >>= _) _ _ _
  refine wpAny_bind ?_
  simp only [newExc, newTuple]
  refine wpAny_bind (wpAny_newObj_type ?_ (by size_fits))
  refine wpAny_bind (m := firstArgMember _ _) (wpAny_of_eq (a := Value.none) (by first | rfl | (simp only [firstArgMember]; rfl)) ?_)
  refine wpAny_newObj_type ?_ (by size_fits)
  simp only [raiseNew]
  refine wpAny_bind (wpAny_handled ?_)
  rw [show A.in1.handled = none from hh]
  refine wpAny_bind (wpAny_pure (wpAny_throw ?_))
  refine wpAny_bind (wpAny_isInstance (T := "StopIteration") (b := true) ⟨_, Heap.get?_push_size _ rfl, rfl⟩ isSubtype_stop ?_)
  exact wpAny_pure (hQ _ (((Heap.SameBut.update ..).extBut.push _).push _))
theorem walks_keys (hh : A.handled = none) (I d : Addr) (hne : d ≠ I) (ks : List Value) (ep : Nat) :
    Walks prog w A I [I, d] [I] ks.length (fun i v => ks[i]? = some v) (fun i h => h.IsKeyIter I d i ks.length ep ∧ RawD h d ks ep) where
  sub := fun b hb => by simp at hb; simp [hb]
  frame := fun _ _ _ st hk => ⟨st.1.at fun o e => hk I (by simp) o e, st.2.at fun o e => hk d (by simp) o e⟩
  item := fun i s Q E hi st hQ => by
    obtain ⟨k, hx⟩ : ∃ k, ks[i]? = some k := ⟨ks[i], by simp [hi]⟩
    refine next_key st.1 st.2 hx fun h' hit' hs' => ?_
    exact hQ k h' s.toks hx ⟨hit', st.2.at fun o e => hs'.extBut d o hne e⟩ fun b o hb e => hs'.extBut b o (fun h => hb (by simp [h])) e
  done := fun s Q E st hQ => next_none hh st.1 st.2 (by simp) fun h' he' => hQ h' s.toks fun b o hb e => he' b o (fun h => hb (by simp [h])) e
  self := fun _ _ _ _ st hQ => wpAny_pyIter_keyiter st.1 hQ
theorem RawD.typeIs {d : Addr} {ks : List Value} {ep : Nat} (h : RawD s.heap d ks ep) : s.TypeIs (.ref d) "dict" := by
  obtain ⟨o, es, ho, hc, _⟩ := h
  exact ⟨o, ho, hc.1⟩
theorem iter_keys {d : Addr} {ks : List Value} {ep : Nat} {Q : Value → Shared → Prop} (hd : (d == sysModules) = false) (hm : RawD s.heap d ks ep)
    (hQ : Q (.ref s.heap.objs.size) { s with heap := s.heap.push { cls := .type "dict_keyiterator", data := .fields #[.ref d, .int 0 0, .int ks.length 0, .int ep 0] } }) :
    wpAny (model prog w) A (pyIter (.ref d)) Q E s := by
  have hT := hm.typeIs
  obtain ⟨o, es, ho, hc, hdat, hk⟩ := id hm
  refine wpAny_pyIter_slot hT F.slot_dict_iter (wpAny_call_entry F.slot_dict_iter hT F.entry_dict_iter ?_ (F.args_dict_iter_1 _))
  unfold Builtin.«dict.__iter__»
  refine wpAny_bind ?_
  unfold Builtin.Dict.dictSlotNone
  refine wpAny_bind (wpAny_notOrdered_dict hT ?_)
  show wpAny _ _ (pure (Value.ref d)) _ _ s
  refine wpAny_pure ?_
  show wpAny _ _ (Builtin.Dict.showsAll d >>= _) _ _ s
  unfold Builtin.Dict.showsAll
  rw [if_neg (by rw [hd]; exact Bool.false_ne_true)]
  refine wpAny_bind (wpAny_pure ?_)
  refine wpAny_bind (wpAny_dictEntries ho hdat ?_)
  refine wpAny_bind (wpAny_dictEpoch ho hdat ?_)
  have hsz : es.size = ks.length := by rw [← hk, List.length_map]; rfl
  refine wpAny_bind (wpAny_newObj_type (wpAny_pure ⟨_, rfl, "dict_keyiterator", _, ⟨_, Heap.get?_push_size _ rfl, rfl⟩, F.slot_dict_keyiterator_next.lookup, ?_⟩))
  simpa [rawInt, hsz] using hQ
end
end L2
set_option Elab.async false
set_option linter.all false
set_option maxRecDepth 100000
/-! ### sorted(d) -/
namespace L2
open PySem PySem.Spec PyProof.Rows
section
variable {prog : Program} {w : World} {A : Around} {E : Value → Shared → Prop} {s : Shared}
theorem collect_keys {d : Addr} {ks : List Value} {ep : Nat} {Q : List Value → Shared → Prop} (hh : A.handled = none) (hd : (d == sysModules) = false) (hm : RawD s.heap d ks ep) (hn : ks.length ≤ sizeLine)
    (hQ : ∀ s', (∀ b o, s.heap.get? b = some o → s'.heap.get? b = some o) → s'.gens = s.gens → s'.drawn = s.drawn → s'.os = s.os → s.toks ≤ s'.toks → s.heap.objs.size ≤ s'.heap.objs.size → Q ks s') :
    wpAny (model prog w) A (collect (.ref d)) Q E s := by
  unfold collect
  refine wpAny_bind (wpAny_runValue (codeAny_builtin PySem.F.entry_proto_collect ?_))
  rw [Around.under_plainId PySem.F.plain_proto_collect _]
  show wpAny _ A.in1 (newList [] >>= fun l => again (.builtin "list.__iadd__" ⟨[l, .ref d], []⟩)) _ _ s
  refine wpAny_bind (wpAny_newObj_type ?_)
  refine wpAny_pure ⟨plainId_quiet PySem.F.plain_list_iadd _, codeAny_builtin PySem.F.entry_list_iadd ?_⟩
  rw [Around.under_plainId PySem.F.plain_list_iadd _]
  have hlt : d < s.heap.objs.size := by obtain ⟨o, es, ho, _⟩ := hm; exact Heap.lt_size ho
  have h1 : Builtin.List.listSameRef (.ref s.heap.objs.size) (.ref d) = false := by simp [Builtin.List.listSameRef]; exact fun e => Nat.lt_irrefl _ (e ▸ hlt)
  have hm1 : RawD (s.heap.push { cls := .type "list", data := .seq ([] : List Value).toArray }) d ks ep := hm.at fun o e => Heap.get?_push_of_some _ e
  show wpAny _ A.in1 (Builtin.List.listExtendWith (.ref s.heap.objs.size) (.ref d) (.ref s.heap.objs.size)) _ _ _
  unfold Builtin.List.listExtendWith
  refine wpAny_bind (wpAny_typeOf (RawD.typeIs (s := { s with heap := s.heap.push { cls := .type "list", data := .seq ([] : List Value).toArray } }) hm1) ?_)
  rw [if_neg (by rw [h1]; decide)]
  refine wpAny_bind (iter_keys (s := { s with heap := s.heap.push { cls := .type "list", data := .seq ([] : List Value).toArray } }) hd hm1 ?_)
  refine wpAny_bind (wpAny_holding ?_)
  unfold Builtin.List.listLengthHint
  generalize hH : s.heap.push { cls := .type "list", data := .seq ([] : List Value).toArray } = H at hm1 ⊢
  have hHs : H.objs.size = s.heap.objs.size + 1 := by rw [← hH, Heap.size_push]
  have hm2 : RawD (H.push { cls := .type "dict_keyiterator", data := .fields #[.ref d, .int 0 0, .int ks.length 0, .int ep 0] }) d ks ep := hm1.at fun o e => Heap.get?_push_of_some _ e
  have hit : (H.push { cls := .type "dict_keyiterator", data := .fields #[.ref d, .int 0 0, .int ks.length 0, .int ep 0] }).IsKeyIter H.objs.size d 0 ks.length ep := ⟨_, Heap.get?_push_size _ rfl, rfl, rfl⟩
  have hS : (H.push { cls := .type "dict_keyiterator", data := .fields #[.ref d, .int 0 0, .int ks.length 0, .int ep 0] }).get? s.heap.objs.size = some { cls := .type "list", data := .seq ([] : List Value).toArray } := Heap.get?_push_of_some _ (hH ▸ Heap.get?_push_size _ rfl)
  have hsub : ∀ b o, s.heap.get? b = some o → (H.push { cls := .type "dict_keyiterator", data := .fields #[.ref d, .int 0 0, .int ks.length 0, .int ep 0] }).get? b = some o := fun b o e => Heap.get?_push_of_some _ (hH ▸ Heap.get?_push_of_some _ e)
  generalize H.push { cls := .type "dict_keyiterator", data := .fields #[.ref d, .int 0 0, .int ks.length 0, .int ep 0] } = H2 at hm2 hit hS hsub ⊢
  have hT2 : Shared.TypeIs { s with heap := H2 } (.ref d) "dict" := RawD.typeIs (s := { s with heap := H2 }) hm2
  refine wpAny_bind (wpAny_specialOf hT2 PySem.F.slot_dict_len.lookup ?_)
  wp_delta
  refine wpAny_bind (wpAny_isInstance (b := true) hT2 (by rw [isSubtype_type]; kernel_rfl) ?_)
  show wpAny _ A.in1 (typeOf (Value.ref d) >>= _) _ _ _
  refine wpAny_bind (wpAny_typeOf hT2 ?_)
  refine wpAny_pure ?_
  rw [if_pos (by decide)]
  refine wpAny_bind (wpAny_rule ?_)
  unfold Builtin.List.listTouch
  have hS' : H2.get? s.heap.objs.size = some (seqObj "list" #[] 0) := hS
  obtain ⟨e1, hS3⟩ : ∃ e1, (H2.update s.heap.objs.size (Obj.mapSeq (·.push .none))).get? s.heap.objs.size = some (seqObj "list" #[.none] e1) := ⟨_, get?_update_seq hS' (·.push .none)⟩
  obtain ⟨e2, hS4⟩ : ∃ e2, ((H2.update s.heap.objs.size (Obj.mapSeq (·.push .none))).update s.heap.objs.size (Obj.mapSeq (·.pop))).get? s.heap.objs.size = some (seqObj "list" #[] e2) := ⟨_, get?_update_seq hS3 (·.pop)⟩
  refine wpAny_bind (wpAny_bind (listUpdate_at hS' rfl ?_))
  refine listUpdate_at (s := { s with heap := H2.update s.heap.objs.size (Obj.mapSeq (·.push .none)) }) hS3 rfl ?_
  have hk4 : ∀ b o, b ≠ s.heap.objs.size → H2.get? b = some o → ((H2.update s.heap.objs.size (Obj.mapSeq (·.push .none))).update s.heap.objs.size (Obj.mapSeq (·.pop))).get? b = some o := fun b o n e => by
    rw [Heap.get?_update_other _ _ (Ne.symm n), Heap.get?_update_other _ _ (Ne.symm n)]
    exact e
  show wpAny _ A.in1 (again _) _ _ { s with heap := (H2.update s.heap.objs.size (Obj.mapSeq (·.push .none))).update s.heap.objs.size (Obj.mapSeq (·.pop)) }
  generalize (H2.update s.heap.objs.size (Obj.mapSeq (·.push .none))).update s.heap.objs.size (Obj.mapSeq (·.pop)) = H4 at hS4 hk4 ⊢
  have nI : H.objs.size ≠ s.heap.objs.size := by rw [hHs]; exact Nat.succ_ne_self _
  have nd : d ≠ s.heap.objs.size := Nat.ne_of_lt hlt
  have dI : d ≠ H.objs.size := by rw [hHs]; exact Nat.ne_of_lt (Nat.lt_succ_of_lt hlt)
  have hSf : s.heap.objs.size ∉ [H.objs.size, d] := fun hm => by
    rcases List.mem_cons.mp hm with z | z
    · exact nI z.symm
    · exact nd (List.mem_singleton.mp z).symm
  have hst : H4.IsKeyIter H.objs.size d 0 ks.length ep ∧ RawD H4 d ks ep := ⟨hit.at fun o e => hk4 _ _ nI e, hm2.at fun o e => hk4 _ _ nd e⟩
  refine wpAny_pure ⟨plainId_quiet PySem.F.plain_extend_loop _, codeAny_extend_loopS (walks_keys (A := A.in1) hh H.objs.size d dI ks ep).toS hn _ hSf _ ks.length 0 _ _ _ rfl (Nat.zero_le _) hst hS4 (ItemsOf.nil _) fun s' acc' c' hm' hSx hacc => ?_⟩
  show wpAny _ A (load s.heap.objs.size >>= _) _ _ s'
  refine wpAny_bind (wpAny_load hSx ?_)
  have ea : acc'.toList = ks := by
    apply List.ext_getElem?
    intro j
    by_cases hj : j < ks.length
    · have : acc'.toList[j]? = some (acc'[j]'(by rw [hacc.1]; exact hj)) := by simp [hacc.1, hj]
      rw [this]
      exact (hacc.2 j _ (by simp [hacc.1, hj])).symm
    · rw [List.getElem?_eq_none (by simp [hacc.1]; omega), List.getElem?_eq_none (by omega)]
  refine wpAny_pure ?_
  rw [ea]
  refine hQ s' (fun b o e => ?_) hm'.gens hm'.drawn hm'.os hm'.toks (Nat.le_of_lt (Heap.lt_size hSx))
  have hbl := Heap.lt_size e
  refine hm'.heap b o (fun hb => ?_) (hk4 _ _ (Nat.ne_of_lt hbl) (hsub _ _ e))
  rcases List.mem_cons.mp hb with h | h
  · exact absurd hbl (h ▸ Nat.lt_irrefl _)
  · rw [List.mem_singleton.mp h, hHs] at hbl
    exact absurd hbl (Nat.not_lt.mpr (Nat.le_succ _))
theorem sorted_keys {d : Addr} {ks : List Value} {ep : Nat} {Q : Value → Shared → Prop} (hh : A.handled = none) (hd : (d == sysModules) = false) (hm : RawD s.heap d ks ep) (hv : ∀ v ∈ ks, Two s.heap v) (h64 : ks.length < 64)
    (h : ∀ (l : Addr) (out : List Value) (s' : Shared), out.Perm ks → (∀ b o, s.heap.get? b = some o → s'.heap.get? b = some o) → s.heap.objs.size ≤ l → (∃ e, s'.heap.get? l = some (seqObj "list" out.toArray e)) → s'.gens = s.gens → s'.drawn = s.drawn → s'.os = s.os → s.toks ≤ s'.toks → Q (.ref l) s') :
    wpAny (model prog w) A (call (.builtin "sorted") [.ref d]) Q E s := by
  refine Calls.call_function_entry kind_sorted plain_sorted entry_sorted (args_sorted1 _) ?_
  unfold Builtin.«sorted»
  refine wpAny_bind (m := checkCount "sorted" 1 1 _) (wpAny_pure ?_)
  refine wpAny_bind (collect_keys (A := A.in1) hh hd hm (by rw [sizeLine_eq]; omega) fun s1 k1 g1 d1 o1 t1 z1 => ?_)
  refine wpAny_bind (wpAny_newList ?_)
  have hoL : (s1.heap.push (seqObj "list" ks.toArray 0)).get? s1.heap.objs.size = some (seqObj "list" ks.toArray 0) := Heap.get?_push_size _ rfl
  show wpAny _ _ _ _ _ { s1 with heap := s1.heap.push (seqObj "list" ks.toArray 0) }
  refine wpAny_bind (wpAny_holding (wpAny_call_entry slot_list_sort ⟨_, hoL, rfl⟩ entry_list_sort (list_sort_two (s := { s1 with heap := s1.heap.push (seqObj "list" ks.toArray 0) }) hoL (fun v hv0 => ?_) h64 fun out hp => ⟨_, rfl, ?_⟩) (args_list_sort _)))
  · obtain ⟨b, p, q, t, u, rfl, o, hb, r⟩ := hv v hv0
    exact ⟨b, p, q, t, u, rfl, o, Heap.get?_push_of_some _ (k1 _ _ hb), r⟩
  refine wpAny_pure ⟨_, rfl, h s1.heap.objs.size out.toList _ hp (fun b o e => ?_) z1 ?_ g1 d1 o1 t1⟩
  · have hlt := Heap.lt_size (k1 _ _ e)
    have hne : b ≠ s1.heap.objs.size := Nat.ne_of_lt hlt
    show (sortedHeap (s1.heap.push (seqObj "list" ks.toArray 0)) s1.heap.objs.size ks out).get? b = some o
    rw [sortedHeap_old hne (by rw [size_push']; exact Nat.lt_succ_of_lt hlt)]
    exact Heap.get?_push_of_some _ (k1 _ _ e)
  · obtain ⟨e2, h2⟩ := sortedHeap_at (out := out) hoL
    exact ⟨e2, by rw [Array.toArray_toList]; exact h2⟩
end
end L2
set_option Elab.async false
set_option linter.all false
set_option maxRecDepth 100000
/-! ### sorted(d), as a rule -/
namespace L2
open PySem PySem.Spec PyProof.Rows
section
variable {X : Cx}
/-- sorted(d), a dict whose keys are pairs of whole numbers: the same keys in some order -/
def rSortT : List V → Hp → VK → Prop := fun vs H Q => ∃ d kvs, vs = [.ref d] ∧ H d = some (.dT kvs) ∧ kvs.length < 64 ∧ (∀ k ∈ kvs.map (·.1), ∃ p q : Int, k = [.inl p, .inl q]) ∧
  ∀ (l : Addr) (as : List Addr), H l = none → as.length = kvs.length → (∀ a ∈ as, ∃ p q : Int, [.inl p, .inl q] ∈ kvs.map (·.1) ∧ H a = some (.tup [.int p, .int q])) → (∀ p q : Int, [.inl p, .inl q] ∈ kvs.map (·.1) → ∃ a ∈ as, H a = some (.tup [.int p, .int q])) → Q (.ref l) (upd H l (.lst (as.map V.ref)))
theorem refs_of : ∀ {out : List Value}, (∀ v ∈ out, ∃ a, v = .ref a) → ∃ as : List Addr, out = as.map Value.ref
  | [], _ => ⟨[], rfl⟩
  | v :: out, h => by
    obtain ⟨a, rfl⟩ := h v (List.mem_cons.mpr (.inl rfl))
    obtain ⟨as, rfl⟩ := refs_of fun x hx => h x (List.mem_cons.mpr (.inr hx))
    exact ⟨a :: as, rfl⟩
theorem pget {α β : Type} {R : α → β → Prop} : ∀ {xs : List α} {ys : List β}, Paired R xs ys → ∀ {i : Nat} {x : α}, xs[i]? = some x → ∃ y, ys[i]? = some y ∧ R x y
  | _, _, .nil, i, x, h => by simp at h
  | _, _, .cons a r, 0, x, h => by simp at h; subst h; exact ⟨_, rfl, a⟩
  | _, _, .cons a r, i + 1, x, h => pget r (by simpa using h)
theorem plen {α β : Type} {R : α → β → Prop} : ∀ {xs : List α} {ys : List β}, Paired R xs ys → xs.length = ys.length
  | _, _, .nil => rfl
  | _, _, .cons _ r => congrArg (· + 1) (plen r)
theorem refs_vals : ∀ as : List Addr, Vals (as.map V.ref) (as.map Value.ref)
  | [] => .nil
  | a :: as => .cons rfl (refs_vals as)
theorem call_sortedT (hc : X.calm = true) : CallR X (.builtin "sorted") rSortT := by
  intro pins s σ H vs us Q I r h
  obtain ⟨d, kvs, rfl, hd, l64, hk, q⟩ := h
  obtain ⟨u, rfl, ru⟩ := vals1 r
  obtain rfl : u = Value.ref d := ru
  have hh : X.A.handled = none := I.ok.hd hc
  obtain ⟨_, hsm, xs, rel, o, es, ep, h1, h2, h3, h4, _⟩ := (show ObjOk X.prog X.w H s.heap d (.dT kvs) from I.hok d _ hd)
  have xl : kvs.length = xs.length := plen rel
  have key : ∀ x ∈ xs, ∃ p q : Int, [.inl p, .inl q] ∈ kvs.map (·.1) ∧ H x.2.1 = some (.tup [.int p, .int q]) := fun x hx => by
    obtain ⟨i, hi⟩ := List.getElem?_of_mem hx
    have hil : i < kvs.length := by rw [xl]; exact (List.getElem?_eq_some_iff.mp hi).1
    obtain ⟨y, hy, e1, e2, _⟩ := pget rel (List.getElem?_eq_getElem hil)
    rw [hi] at hy
    cases hy
    have hm : (kvs[i]).1 ∈ kvs.map (·.1) := List.mem_map.mpr ⟨_, List.getElem_mem hil, rfl⟩
    obtain ⟨p, q, e3⟩ := hk _ hm
    rw [e3] at hm e2
    exact ⟨p, q, hm, e2⟩
  have raw : RawD s.heap d (xs.map fun x => Value.ref x.2.1) ep := ⟨o, es, h1, h2, h3, by rw [h4, List.map_map]; rfl⟩
  refine sorted_keys hh hsm raw (fun v hv => ?_) (by rw [List.length_map, ← xl]; exact l64) fun l out s' hp keep hl isl g1 d1 o1 t1 => ?_
  · obtain ⟨x, hx, rfl⟩ := List.mem_map.mp hv
    obtain ⟨p, q, _, e2⟩ := key x hx
    obtain ⟨its, r1, p1, _⟩ := I.tuple (SqT.of e2)
    cases r1 with
    | cons a r1 =>
      cases r1 with
      | cons b r1 =>
        cases r1
        obtain ⟨t, rfl⟩ := a
        obtain ⟨u, rfl⟩ := b
        exact ⟨x.2.1, p, q, t, u, rfl, p1⟩
  · have mem : ∀ v ∈ out, ∃ x ∈ xs, v = .ref x.2.1 := fun v hv => by
      obtain ⟨x, hx, e⟩ := List.mem_map.mp (hp.mem_iff.mp hv)
      exact ⟨x, hx, e.symm⟩
    obtain ⟨as, rfl⟩ := refs_of fun v hv => let ⟨x, _, e⟩ := mem v hv; ⟨_, e⟩
    have al : as.length = kvs.length := by
      have := hp.length_eq
      rw [List.length_map, List.length_map] at this
      omega
    have es' : s' = { s with heap := s'.heap, toks := s'.toks } := by
      cases s'
      cases s
      simp only at g1 d1 o1
      subst g1 d1 o1
      rfl
    obtain ⟨e, hoL⟩ := isl
    have I' := I.laid (a := l) (o := .lst (as.map V.ref)) (t' := s'.toks) keep hl ⟨by rw [List.length_map, al, sizeLine_eq]; omega, as.map Value.ref, e, refs_vals as, hoL⟩
    rw [es']
    refine ⟨.ref l, _, I', rfl, q l as (I.hok.fresh hl) al (fun a ha => ?_) (fun p q hpq => ?_)⟩
    · obtain ⟨x, hx, e⟩ := mem (.ref a) (List.mem_map.mpr ⟨a, ha, rfl⟩)
      cases e
      exact key x hx
    · obtain ⟨kv, hkv, e1⟩ := List.mem_map.mp hpq
      obtain ⟨i, hi⟩ := List.getElem?_of_mem hkv
      obtain ⟨y, hy, e2, e3, _⟩ := pget rel hi
      have hm : Value.ref y.2.1 ∈ as.map Value.ref := hp.mem_iff.mpr (List.mem_map.mpr ⟨y, List.mem_of_getElem? hy, rfl⟩)
      obtain ⟨a, ha, ea⟩ := List.mem_map.mp hm
      cases ea
      rw [e1] at e3
      exact ⟨_, ha, e3⟩
end
end L2
namespace L3
open PySem L2
theorem c_sortedT {X : Cx} (hc : X.calm = true := by rfl) : SC X (.builtin "sorted") rSortT := ⟨call_sortedT hc⟩
end L3
set_option Elab.async false
set_option linter.all false
set_option maxRecDepth 100000
set_option exponentiation.threshold 4000
set_option maxHeartbeats 1000000
namespace TW
open PySem L2
section
variable {P : Program} {w : World} {K : PySem.W.Frag} {mg : Str → Option Value} {base : Heap}
theorem bnd1 {x qual : Str} {st : Stmt} {f : Addr} {fd : FuncData} {p0 : Str} (F : Fun K x qual st f fd) (h : ∀ (kV doc pm : Value) (an : Option Addr) (cdv ct u0 : Value), bindArgs (PySem.W.fnOf x qual (defArgs st) (defBody st) (defScope st) .none kV doc pm an cdv ct) ⟨[u0], []⟩ = pure (([p0] : List Str).zip [u0])) : Binds K fd [p0] [] := F.binds fun kV doc pm an cdv ct us hl => match us, hl with | [u0], _ => h kV doc pm an cdv ct u0
theorem bnd2 {x qual : Str} {st : Stmt} {f : Addr} {fd : FuncData} {p0 p1 : Str} (F : Fun K x qual st f fd) (h : ∀ (kV doc pm : Value) (an : Option Addr) (cdv ct u0 u1 : Value), bindArgs (PySem.W.fnOf x qual (defArgs st) (defBody st) (defScope st) .none kV doc pm an cdv ct) ⟨[u0, u1], []⟩ = pure (([p0, p1] : List Str).zip [u0, u1])) : Binds K fd [p0, p1] [] := F.binds fun kV doc pm an cdv ct us hl => match us, hl with | [u0, u1], _ => h kV doc pm an cdv ct u0 u1
theorem bnd3 {x qual : Str} {st : Stmt} {f : Addr} {fd : FuncData} {p0 p1 p2 : Str} (F : Fun K x qual st f fd) (h : ∀ (kV doc pm : Value) (an : Option Addr) (cdv ct u0 u1 u2 : Value), bindArgs (PySem.W.fnOf x qual (defArgs st) (defBody st) (defScope st) .none kV doc pm an cdv ct) ⟨[u0, u1, u2], []⟩ = pure (([p0, p1, p2] : List Str).zip [u0, u1, u2])) : Binds K fd [p0, p1, p2] [] := F.binds fun kV doc pm an cdv ct us hl => match us, hl with | [u0, u1, u2], _ => h kV doc pm an cdv ct u0 u1 u2
theorem bnd4 {x qual : Str} {st : Stmt} {f : Addr} {fd : FuncData} {p0 p1 p2 p3 : Str} (F : Fun K x qual st f fd) (h : ∀ (kV doc pm : Value) (an : Option Addr) (cdv ct u0 u1 u2 u3 : Value), bindArgs (PySem.W.fnOf x qual (defArgs st) (defBody st) (defScope st) .none kV doc pm an cdv ct) ⟨[u0, u1, u2, u3], []⟩ = pure (([p0, p1, p2, p3] : List Str).zip [u0, u1, u2, u3])) : Binds K fd [p0, p1, p2, p3] [] := F.binds fun kV doc pm an cdv ct us hl => match us, hl with | [u0, u1, u2, u3], _ => h kV doc pm an cdv ct u0 u1 u2 u3
def top (i : Nat) : Stmt := PySem.Challenge.pw_twinwalk_k63_nodes_split.main.body.getD i (.Pass ⟨0, 0, 0, 0⟩)
abbrev sNext : Stmt := top 19
abbrev sPots : Stmt := top 20
theorem TK.lst {H : Hp} {a : Addr} {xs : List V} {o : HO} (h : H a = some (.lst xs)) : TK H (upd H a o) := fun b ys e => by rw [upd_ne (ne_of e h (fun z => nomatch z))]; exact e
theorem Paired.get {α β : Type} {F : α → β → Prop} : ∀ {l₁ : List α} {l₂ : List β} {i : Nat} {x : α}, Paired F l₁ l₂ → l₁[i]? = some x → ∃ y, l₂[i]? = some y ∧ F x y
  | _, _, _, _, .nil, e => by simp at e
  | _, _, 0, _, .cons r _, e => by simp at e; subst e; exact ⟨_, rfl, r⟩
  | _, _, i + 1, x, .cons _ t, e => by
    obtain ⟨u, h1, h2⟩ := Paired.get (i := i) (x := x) t (by simpa using e)
    exact ⟨u, by simpa using h1, h2⟩
theorem turn0 {σ : L2.St} {H : Hp} {A B : Hp → Prop} (h : A H) : tIf0 σ H (fun b H3 => if b = true then A H3 else B H3) := iteT (A := A H) (B := B H) h
theorem gn_go {i : Nat} {v : V} {σ : L2.St} {H : Hp} {Q : L2.St → Hp → Prop} (h : Q (σ.set i (some v)) H) : gName i v σ H Q := h
theorem same_trans {A B C : Hp} (a : Same A B) (b : Same B C) : Same A C := fun p o h => b p o (a p o h)
theorem same_refl (A : Hp) : Same A A := fun _ _ h => h
theorem none_of_same {H H' : Hp} {a : Addr} (s : Same H H') (h : H' a = none) : H a = none := by
  match e : H a with
  | none => rfl
  | some o => rw [s _ _ e] at h; cases h
/-- a list that was laid since: it may be replaced -/
theorem same_put {H H' : Hp} {a : Addr} {o : HO} (s : Same H H') (h : H a = none) : Same H (upd H' a o) := fun b u e => by rw [upd_ne (ne_of_none e h)]; exact s b u e
theorem same_add {H H' : Hp} {a : Addr} {o : HO} (s : Same H H') (h : H' a = none) : Same H (upd H' a o) := same_put s (none_of_same s h)
theorem atI_get {α : Type} (f : α → V) (xs : List α) {r : Int} (h0 : 0 ≤ r) (h1 : r < (xs.length : Int)) : ∃ x, xs[r.toNat]? = some x ∧ x ∈ xs ∧ atI (xs.map f) r = some (f x) := by
  have hr : r.toNat < xs.length := by omega
  have e : r = ((r.toNat : Nat) : Int) := by omega
  have q : atI (xs.map f) ((r.toNat : Nat) : Int) = some (f xs[r.toNat]) := atI_nat (by rw [List.getElem?_map, List.getElem?_eq_getElem hr]; rfl)
  rw [← e] at q
  exact ⟨xs[r.toNat], List.getElem?_eq_getElem hr, List.getElem_mem hr, q⟩
theorem atI_v {xs : List V} {r : Int} (h0 : 0 ≤ r) (h1 : r < (xs.length : Int)) : ∃ x, xs[r.toNat]? = some x ∧ atI xs r = some x := by
  have hr : r.toNat < xs.length := by omega
  have e : r = ((r.toNat : Nat) : Int) := by omega
  have q : atI xs ((r.toNat : Nat) : Int) = some xs[r.toNat] := atI_nat (List.getElem?_eq_getElem hr)
  rw [← e] at q
  exact ⟨xs[r.toNat], List.getElem?_eq_getElem hr, q⟩
theorem cut1 {u1 u2 : TS} {D : L2.Ends} {σ : L2.St} {H : Hp} (h : ∀ R : L2.St → Hp → Prop, (∀ σ H, u2 D σ H → R σ H) → u1 { D with nx := R } σ H) : tSeq u1 u2 D σ H := h _ fun _ _ z => z
theorem cut2 {u1 u2 u3 : TS} {D : L2.Ends} {σ : L2.St} {H : Hp} (h : ∀ R : L2.St → Hp → Prop, (∀ σ H, u3 D σ H → R σ H) → tSeq u1 (tSeq u2 fun _ => R) D σ H) : tSeq u1 (tSeq u2 u3) D σ H := h (u3 D) fun _ _ z => z
theorem goL {X : Cx} {ss : List Stmt} {G : TS → Prop} (h : ∃ t, L3.SL X ss t ∧ G t) : ∃ t, PSs X ss t ∧ G t := let ⟨t, a, b⟩ := h; ⟨t, a.h, b⟩
theorem normS {F : L2.St → Hp → Prop} {σ : L2.St} {H : Hp} (σ' : L2.St) (e : σ = σ') (h : F σ' H) : F σ H := by subst e; exact h
theorem normH {F : L2.St → Hp → Prop} {σ : L2.St} {H : Hp} (H' : Hp) (e : H = H') (h : F σ H') : F σ H := by subst e; exact h
theorem mod_lo {k n : Int} (h : 0 < n) : 0 ≤ k % n := Int.emod_nonneg _ (by omega)
theorem mod_hi {k n : Int} (h : 0 < n) : k % n < n := Int.emod_lt_of_pos _ h
theorem int_eq {a b : Int} (c : decide (V.int a = V.int b) = true) : a = b := by have := of_decide_eq_true c; injection this
theorem atI_all {P : V → Prop} {xs : List V} {r : Int} (h0 : 0 ≤ r) (h1 : r < (xs.length : Int)) (h : ∀ x ∈ xs, P x) : ∃ x, atI xs r = some x ∧ P x := let ⟨x, h2, h3⟩ := atI_v h0 h1; ⟨x, h3, h x (List.mem_of_getElem? h2)⟩
/-! ### nodes with picks -/
inductive Np where
  | put (x : Str) (s : E) (n : Int) | say (s : E) (n : Int) | test (c : E) (n o : Int) | pick (x : Str) (n : Int) | fin
def NpAt (H : Hp) : V → Np → Prop
  | v, .put x s n => ∃ u, Tp H v [.str "put", .str x, u, .int n] ∧ EAt H u s
  | v, .say s n => ∃ u, Tp H v [.str "say", u, .int n] ∧ EAt H u s
  | v, .test c n o => ∃ u, Tp H v [.str "test", u, .int n, .int o] ∧ EAt H u c
  | v, .pick x n => Tp H v [.str "pick", .str x, .int n]
  | v, .fin => Tp H v [.str "end"]
theorem NpAt.keep {H H' : Hp} (k : TK H H') : ∀ {e : Np} {v : V}, NpAt H v e → NpAt H' v e
  | .put _ _ _, _, ⟨u, h, a⟩ => ⟨u, h.keep k, a.keep k⟩
  | .say _ _, _, ⟨u, h, a⟩ => ⟨u, h.keep k, a.keep k⟩
  | .test _ _ _, _, ⟨u, h, a⟩ => ⟨u, h.keep k, a.keep k⟩
  | .pick _ _, _, h => Tp.keep k h
  | .fin, _, h => Tp.keep k h
/-! ### the reel -/
def Reel (H : Hp) (r : Addr) : Prop := ∃ a b : Int, H r = some (.lst [.int a, .int b]) ∧ True
structure Rl (r : Addr) (H H' : Hp) : Prop where
  rl : Reel H' r
  k : ∀ b o, b ≠ r → H b = some o → H' b = some o
section
variable {r p : Addr} {H H1 H2 : Hp} {o : HO}
theorem Reel.same (h : Reel H r) (s : Same H H1) : Reel H1 r := let ⟨a, b, h1, h2⟩ := h; ⟨a, b, s _ _ h1, h2⟩
theorem Reel.ne (h : Reel H r) (hp : H p = none) : p ≠ r := fun e => by
  obtain ⟨a, b, h1, _⟩ := h
  rw [e, h1] at hp
  cases hp
theorem Rl.refl (h : Reel H r) : Rl r H H := ⟨h, fun _ _ _ z => z⟩
theorem Rl.trans (a : Rl r H H1) (b : Rl r H1 H2) : Rl r H H2 := ⟨b.rl, fun c o n z => b.k c o n (a.k c o n z)⟩
theorem Rl.of (h : Reel H r) (s : Same H H1) : Rl r H H1 := ⟨h.same s, fun b o _ z => s b o z⟩
theorem Rl.new (h : Reel H r) (hp : H p = none) : Rl r H (upd H p o) := Rl.of h (same_new hp o)
theorem Rl.tk (h : Reel H r) (l : Rl r H H1) : TK H H1 := fun b xs z => l.k b _ (fun e => by
  obtain ⟨a, c, h1, _⟩ := h
  rw [e, h1] at z
  cases z) z
/-- a list that was laid since may be replaced -/
theorem Rl.put (l : Rl r H H1) (n : p ≠ r) (hp : H p = none) : Rl r H (upd H1 p o) := ⟨let ⟨a, b, h1, h2⟩ := l.rl; ⟨a, b, by rw [upd_ne n.symm]; exact h1, h2⟩, fun b ob nb z => by rw [upd_ne (ne_of_none z hp)]; exact l.k b ob nb z⟩
theorem Rl.no (l : Rl r H H1) (n : p ≠ r) (h : H1 p = none) : H p = none := by
  match e : H p with
  | none => rfl
  | some o => rw [l.k _ _ n e] at h; cases h
end
theorem iteF' {c : Bool} {A B : Prop} (h : c = false) (b : B) : if c = true then A else B := by rw [h]; exact b
theorem at0 {a : V} {r : List V} : atI (a :: r) 0 = some a := atI_nat (xs := a :: r) (j := 0) rfl
/-! ### _law_next -/
def spNext : Sp := fun vs H Q _ => ∃ (r : Addr) (m : Int), vs = [.ref r, .int m] ∧ Reel H r ∧ 0 < m ∧ m < 2 ^ 110 ∧ ∀ (k : Int) (H' : Hp), 0 ≤ k → k < m → Rl r H H' → Q (.int k) H'
theorem scNext : FnScope ["pot", "many", "cell", "stir"] ["pot", "many"] (defScope sNext) := ⟨rfl, rfl, rfl, by decide +kernel, rfl, by decide +kernel, by decide +kernel⟩
theorem ok_next {f : Addr} {fd : FuncData} (F : Fun K "_law_next" "_law_next" sNext f fd) : FnOk P w K mg base CX0 1 f fd ["pot", "many"] spNext := by
  refine F.ok scNext (fun vs H Q E h => ?_) (fun cdv A outer s H vs Q E hr h => ?_)
  · obtain ⟨r, m, rfl, _⟩ := h
    rfl
  · obtain ⟨r, m, rfl, ⟨a, b, hr0, _⟩, m0, m1, q⟩ := h
    refine goL ⟨_, (L3.cons (L3.asg (L3.op L3.o_add (L3.ix L3.ixL (L3.v 0) L3.int) L3.int) (L3.gset (L3.v 0) L3.int))
      (L3.cons (L3.set 2 scNext.nd (L3.ix L3.ixL (L3.v 0) L3.int))
      (L3.cons (L3.ifs (L3.cmp L3.o_ge (L3.v 2) (L3.op L3.o_pow L3.int L3.int)) (L3.cons (L3.asg (L3.op L3.o_div (L3.v 2) (L3.v 1)) (L3.gset (L3.v 0) L3.int))
      (L3.one (L3.ret (L3.op L3.o_mod (L3.v 2) (L3.v 1))))) L3.nil)
      (L3.cons (L3.set 3 scNext.nd (L3.op L3.o_mod (L3.op L3.o_add (L3.op L3.o_add (L3.op L3.o_mul (L3.v 2) L3.int) (L3.op L3.o_mul (L3.ix L3.ixL (L3.v 0) L3.int) L3.int)) L3.int) L3.int))
      (L3.cons (L3.set 3 scNext.nd (L3.op L3.o_mod (L3.op L3.o_mul (L3.v 3) (L3.v 3)) L3.int))
      (L3.one (L3.ret (L3.op L3.o_mod (L3.op L3.o_div (L3.op L3.o_mod (L3.op L3.o_add (L3.op L3.o_mul (L3.v 3) L3.int) (L3.op L3.o_mul (L3.ix L3.ixL (L3.v 0) L3.int) L3.int)) L3.int) L3.int) (L3.v 1))))))))), ?_⟩
    have fin : ∀ (k a' b' : Int) (H1 : Hp), (∀ c o, c ≠ r → H c = some o → H1 c = some o) → H1 r = some (.lst [.int a', .int b']) → 0 ≤ k → k < m → Q (.int k) H1 := fun k a' b' H1 h1 h2 k0 k1 => q k _ k0 k1 ⟨⟨a', b', h2, True.intro⟩, h1⟩
    refine cut1 fun Rk kR => ?_
    refine ⟨_, rfl, r, _, _, _, rfl, rfl, SqL.of hr0, rfl, _, _, rfl, rfl, _, rfl, r, _, 1, 1, rfl, rfl, hr0, rfl, ?_⟩
    obtain ⟨b1, eb⟩ : ∃ b1, b1 = b + 1 := ⟨_, rfl⟩
    refine kR _ _ ?_
    refine normH (upd H r (.lst [.int a, .int b1])) (by rw [eb]; rfl) ?_
    have hr1 : (upd H r (.lst [.int a, .int b1])) r = some (.lst [.int a, .int b1]) := upd_same
    have k1 : ∀ c o, c ≠ r → H c = some o → (upd H r (.lst [.int a, .int b1])) c = some o := fun c o n z => by rw [upd_ne n]; exact z
    generalize upd H r (.lst [.int a, .int b1]) = H1 at hr1 k1 ⊢
    refine cut1 fun Rk kR => ?_
    refine ⟨_, rfl, r, _, _, _, rfl, rfl, SqL.of hr1, rfl, ?_⟩
    refine gn_go ?_
    refine kR _ _ ?_
    refine normS [some (.ref r), some (.int m), some (.int a), none] rfl ?_
    refine cut1 fun Rk kR => ?_
    refine ⟨_, rfl, _, _, rfl, rfl, ⟨by decide, by decide, by decide⟩, _, _, rfl, rfl, _, rfl, ite2 (fun _ => ?_) (fun _ => ?_)⟩
    · refine ⟨_, rfl, _, rfl, _, _, rfl, rfl, ⟨m0, Int.lt_trans m1 (by decide +kernel)⟩, _, rfl, r, _, 0, 0, rfl, rfl, hr1, rfl, ?_⟩
      refine ⟨_, rfl, _, rfl, _, _, rfl, rfl, m0, ?_⟩
      exact fin _ _ _ _ (fun c o n z => by rw [upd_ne n]; exact k1 c o n z) upd_same (mod_lo m0) (mod_hi m0)
    refine kR _ _ ?_
    refine cut1 fun Rk kR => ?_
    refine ⟨_, rfl, _, _, rfl, rfl, .inr ⟨by decide, by decide⟩, _, rfl, r, _, _, _, rfl, rfl, SqL.of hr1, rfl, _, _, rfl, rfl, .inr ⟨by decide, by decide⟩, _, _, rfl, rfl, _, _, rfl, rfl, _, _, rfl, rfl, (by show (0 : Int) < 2147483647; decide), ?_⟩
    obtain ⟨s0, es, s1, s2⟩ : ∃ s0, s0 = (a * 69621 + b1 * 7919 + 13) % 2147483647 ∧ 0 ≤ s0 ∧ s0 < 2147483647 := ⟨_, rfl, mod_lo (by decide), mod_hi (by decide)⟩
    refine gn_go ?_
    refine kR _ _ ?_
    refine normS [some (.ref r), some (.int m), some (.int a), some (.int s0)] (by rw [es]; rfl) ?_
    refine cut1 fun Rk kR => ?_
    refine ⟨_, rfl, _, rfl, _, _, rfl, rfl, .inl ⟨by omega, by omega⟩, _, _, rfl, rfl, (by show (0 : Int) < 2147483629; decide), ?_⟩
    refine gn_go ?_
    refine kR _ _ ?_
    refine ⟨_, rfl, _, _, rfl, rfl, .inr ⟨by decide, by decide⟩, _, rfl, r, _, _, _, rfl, rfl, SqL.of hr1, rfl, _, _, rfl, rfl, .inr ⟨by decide, by decide⟩, _, _, rfl, rfl, _, _, rfl, rfl, (by show (0 : Int) < 2147483587; decide), _, _, rfl, rfl, ⟨by decide, by decide +kernel⟩, _, rfl, _, _, rfl, rfl, m0, ?_⟩
    exact fin _ _ _ _ k1 hr1 (mod_lo m0) (mod_hi m0)
theorem has_next (s : Src K mg "_law_next" sNext)  : Has P w K mg base "_law_next" ["pot", "many"] 1 spNext :=
  let ⟨f, fd, F, m⟩ := s
  ⟨f, fd, ok_next F , F.kp, bnd2 F fun _ _ _ _ _ _ _ _ => rfl, m⟩
/-! ### _law_pots -/
def spPots (K : PySem.W.Frag) : Sp := fun vs H Q _ => ∃ (a : Addr) (sc : List Int), vs = [.ref a] ∧ SqL K H a (sc.map V.int) ∧ sc.length ≤ 63 ∧ ∀ (L : Addr) (ps : List Addr) (H' : Hp), Same H H' → H L = none → H' L = some (.lst (ps.map V.ref)) → 1 ≤ ps.length → ps.length ≤ 63 → ps.Nodup → (∀ p ∈ ps, H p = none ∧ p ≠ L ∧ Reel H' p) → Q (.ref L) H'
theorem nodup_snoc {α : Type} {l : List α} {x : α} (h : l.Nodup) (n : x ∉ l) : (l ++ [x]).Nodup := by
  rw [List.nodup_append]
  exact ⟨h, by simp, fun a ha b hb e => by rw [List.mem_singleton.mp hb] at e; exact n (e ▸ ha)⟩
theorem scPots : FnScope ["script"] ["script"] (defScope sPots) := ⟨rfl, rfl, rfl, by decide +kernel, rfl, by decide +kernel, by decide +kernel⟩
theorem gPots_len : (defScope sPots).names.lookup (Str.ofString "len") = some .globalImplicit := by decide +kernel
theorem map_get {α : Type} {f : α → V} {l : List α} {i : Nat} {v : V} (h : (l.map f)[i]? = some v) : ∃ x, l[i]? = some x ∧ v = f x := by
  rw [List.getElem?_map] at h
  obtain ⟨x, h1, h2⟩ := Option.map_eq_some_iff.mp h
  exact ⟨x, h1, h2.symm⟩
theorem ok_pots {f : Addr} {fd : FuncData} (F : Fun K "_law_pots" "_law_pots" sPots f fd) (m_len : mg "len" = none) : FnOk P w K mg base CX0 1 f fd ["script"] (spPots K) := by
  refine F.ok scPots (fun vs H Q E h => ?_) (fun cdv A outer s H vs Q E hr h => ?_)
  · obtain ⟨a, sc, rfl, _⟩ := h
    rfl
  · obtain ⟨a, sc, rfl, hs, h63, q⟩ := h
    refine goL ⟨_, (L3.cons (L3.ifs (L3.cmp L3.o_eq (L3.callB L3.c_len gPots_len m_len PySem.boot_len (L3.k (L3.v 0) L3.n)) L3.int) (L3.one (L3.ret (L3.lst (L3.k (L3.lst (L3.k L3.int (L3.k L3.int L3.n))) L3.n)))) L3.nil)
      (L3.one (L3.ret (L3.lc [none] ["cell"] (show CompScope _ (defScope sPots) from ⟨rfl, by decide +kernel, by decide +kernel, by decide +kernel⟩) (by rfl) (L3.iL (L3.slL2 (L3.v 0) L3.int)) (fun _ _ _ _ _ => ⟨(L3.gn 0 (show (["cell"] : List Str).Nodup from by decide +kernel)), L3.if0, (L3.lst (L3.k (L3.v 0) (L3.k L3.int L3.n)))⟩))))), ?_⟩
    refine cut1 fun Rk kR => ?_
    refine ⟨_, rfl, a, _, rfl, .inl hs, rfl, _, rfl, ite2 (fun _ => ?_) (fun cc => ?_)⟩
    · refine ⟨(by show 2 ≤ sizeLine; decide), fun p hp => ?_⟩
      have sp : Same H (upd H p (.lst [.int 0, .int 0])) := same_new hp _
      have gp : (upd H p (.lst [.int 0, .int 0])) p = some (.lst [.int 0, .int 0]) := upd_same
      generalize upd H p (.lst [.int 0, .int 0]) = H1 at sp gp ⊢
      refine ⟨(by show 1 ≤ sizeLine; decide), fun L hL => ?_⟩
      refine q L [p] _ (same_add sp hL) (none_of_same sp hL) upd_same (by show 1 ≤ 1; decide) (by show 1 ≤ 63; decide) (by simp) fun p' hp' => ?_
      rw [List.mem_singleton.mp hp']
      exact ⟨hp, ne_of_none gp hL, 0, 0, (same_new hL _) _ _ gp, True.intro⟩
    have pos : 0 < sc.length := by
      refine Nat.pos_of_ne_zero fun z => cc ?_
      rw [List.length_map, z]
      rfl
    refine kR _ _ ?_
    refine ⟨_, rfl, _, rfl, a, _, rfl, hs, fun l hl => ?_⟩
    have ec : cutV (sc.map V.int) none (some 63) = sc.map V.int := by
      unfold cutV
      have e0 : HT.sIx (sc.map V.int).length 0 none = 0 := rfl
      have e1 : HT.sIx (sc.map V.int).length (sc.map V.int).length (some ((63 : Nat) : Int)) = min 63 (sc.map V.int).length := HT.sIx_nat _ _ _
      rw [e0, show (63 : Int) = ((63 : Nat) : Int) from rfl, e1, List.drop_zero, Nat.sub_zero, List.length_map, Nat.min_eq_right h63]
      exact List.take_of_length_le (by rw [List.length_map]; exact Nat.le_refl _)
    rw [ec]
    have sl : Same H (upd H l (.lst (sc.map V.int))) := same_new hl _
    have gl : (upd H l (.lst (sc.map V.int))) l = some (.lst (sc.map V.int)) := upd_same
    generalize upd H l (.lst (sc.map V.int)) = H1 at sl gl ⊢
    refine ⟨l, rfl, ⟨_, SqL.of gl⟩, fun D hD => ?_⟩
    have nD := none_of_same sl hD
    refine comp_list (xs := sc.map V.int) (fun (i : Nat) Hx => Same H1 Hx ∧ ∃ ps : List Addr, Hx D = some (.lst (ps.map V.ref)) ∧ ps.length = i ∧ ps.Nodup ∧ ∀ p ∈ ps, H1 p = none ∧ p ≠ D ∧ Reel Hx p) ⟨same_new hD _, [], upd_same, rfl, .nil, fun _ z => nomatch z⟩ (fun i Hx _ z => SqL.of (z.1 _ _ gl)) (fun i x0 Hx hx z => ?_) (fun Hx z => ?_)
    · obtain ⟨sx, ps, gD, pl, nd, al⟩ := z
      have hil := (List.getElem?_eq_some_iff.mp hx).1
      obtain ⟨c, _, rfl⟩ := map_get hx
      refine gn_go ?_
      refine turn0 (A := fun H5 => mApp _ D _ H5 _) ?_
      refine ⟨_, rfl, (by show 2 ≤ sizeLine; decide), fun p hp => ?_⟩
      have sp := same_new hp (.lst [.int c, .int 0])
      have gp : (upd Hx p (.lst [.int c, .int 0])) p = some (.lst [.int c, .int 0]) := upd_same
      generalize upd Hx p (.lst [.int c, .int 0]) = Hy at sp gp ⊢
      have pD : p ≠ D := fun z => by rw [z, gD] at hp; cases hp
      have gDy := sp _ _ gD
      refine ⟨_, gDy, small1000 (by rw [List.length_map] at hil ⊢; omega), comp_end (Pv := fun (i : Nat) Hx => Same H1 Hx ∧ ∃ ps : List Addr, Hx D = some (.lst (ps.map V.ref)) ∧ ps.length = i ∧ ps.Nodup ∧ ∀ p ∈ ps, H1 p = none ∧ p ≠ D ∧ Reel Hx p) (by repeat' constructor) hil ⟨same_put (same_trans sx sp) hD, ps ++ [p], by rw [upd_same, List.map_append]; rfl, by rw [List.length_append, pl]; rfl, nodup_snoc nd (fun z => ?_), fun p' hp' => ?_⟩⟩
      · obtain ⟨_, _, a1, b1, h1, _⟩ := al p z
        rw [h1] at hp
        cases hp
      · rcases List.mem_append.mp hp' with z | z
        · obtain ⟨u1, u2, a1, b1, h1, _⟩ := al p' z
          exact ⟨u1, u2, a1, b1, by rw [upd_ne u2]; exact sp _ _ h1, True.intro⟩
        · rw [List.mem_singleton.mp z]
          exact ⟨none_of_same sx hp, pD, c, 0, by rw [upd_ne pD]; exact gp, True.intro⟩
    obtain ⟨sx, ps, gD, pl, nd, al⟩ := z
    rw [List.length_map] at pl
    exact q D ps Hx (same_trans sl sx) nD gD (by omega) (by omega) nd fun p hp => ⟨none_of_same sl (al p hp).1, (al p hp).2⟩
theorem has_pots (s : Src K mg "_law_pots" sPots) (m_len : mg "len" = none) : Has P w K mg base "_law_pots" ["script"] 1 (spPots K) :=
  let ⟨f, fd, F, m⟩ := s
  ⟨f, fd, ok_pots F m_len, F.kp, bnd1 F fun _ _ _ _ _ _ _ => rfl, m⟩
end
end TW
set_option Elab.async false
set_option linter.all false
set_option maxRecDepth 100000
set_option exponentiation.threshold 4000
set_option maxHeartbeats 1000000
namespace TW
open PySem L2
section
variable {P : Program} {w : World} {K : PySem.W.Frag} {mg : Str → Option Value} {base : Heap}
abbrev sSomeB : Stmt := top 21
theorem sub_len {α : Type} [DecidableEq α] : ∀ {xs ys : List α}, xs.Nodup → (∀ x ∈ xs, x ∈ ys) → xs.length ≤ ys.length
  | [], _, _, _ => Nat.zero_le _
  | x :: r, ys, nd, h => by
    rw [List.nodup_cons] at nd
    have hx : x ∈ ys := h x (List.mem_cons.mpr (.inl rfl))
    have ih := sub_len (xs := r) (ys := ys.erase x) nd.2 fun y hy => (List.mem_erase_of_ne (a := y) (b := x) (fun e : y = x => nd.1 (e ▸ hy))).mpr (h y (List.mem_cons.mpr (.inr hy)))
    have hl := List.length_erase_of_mem hx
    have hpos : 0 < ys.length := List.length_pos_of_mem hx
    rw [List.length_cons]
    omega
theorem cut_to (xs : List V) {k : Nat} (h : k ≤ xs.length) : cutV xs none (some (k : Int)) = xs.take k := by
  unfold cutV
  have e0 : HT.sIx xs.length 0 none = 0 := rfl
  have e1 : HT.sIx xs.length xs.length (some (k : Int)) = k := by rw [HT.sIx_nat]; omega
  rw [e0, e1, List.drop_zero, Nat.sub_zero]
theorem Paired.snoc {α β : Type} {R : α → β → Prop} : ∀ {a : List α} {b : List β} {x : α} {y : β}, Paired R a b → R x y → Paired R (a ++ [x]) (b ++ [y])
  | _, _, _, _, .nil, h => .cons h .nil
  | _, _, _, _, .cons r t, h => .cons r (Paired.snoc t h)
/-! ### _law_some_boxes -/
structure Nm4 (ns : List Str) : Prop where
  nd : ns.Nodup
  l4 : ns.length = 4
  l8 : ∀ x ∈ ns, x.length ≤ 8
def prodB : List (Str × Int) → Int
  | [] => 1
  | b :: l => b.2 * prodB l
theorem prodB_snoc : ∀ (l : List (Str × Int)) (b : Str × Int), prodB (l ++ [b]) = prodB l * b.2
  | [], b => by show b.2 * 1 = 1 * b.2; rw [Int.mul_one, Int.one_mul]
  | a :: l, b => by show a.2 * prodB (l ++ [b]) = a.2 * prodB l * b.2; rw [prodB_snoc l b, Int.mul_assoc]
structure BsOk (most : Int) (bs : List (Str × Int)) : Prop where
  nd : (bs.map (·.1)).Nodup
  l4 : bs.length ≤ 4
  l8 : ∀ b ∈ bs, b.1.length ≤ 8
  sz : ∀ b ∈ bs, 1 ≤ b.2 ∧ b.2 ≤ 16
  pr : prodB bs ≤ most
theorem prod_pos : ∀ {bs : List (Str × Int)}, (∀ b ∈ bs, 1 ≤ b.2) → 1 ≤ prodB bs
  | [], _ => Int.le_refl 1
  | b :: l, h => by
    have h1 := h b List.mem_cons_self
    have h2 := prod_pos (bs := l) fun x hx => h x (List.mem_cons_of_mem _ hx)
    have := Int.mul_le_mul h1 h2 (by decide) (by omega)
    show 1 ≤ b.2 * prodB l
    omega
def spSomeB : Sp := fun vs H Q _ => ∃ (r : Addr) (most wide : Int), vs = [.ref r, .int most, .int wide] ∧ Reel H r ∧ 1 ≤ most ∧ most ≤ 65536 ∧ 1 ≤ wide ∧ wide ≤ 16 ∧ ∀ (B : Addr) (vb : List V) (bs : List (Str × Int)) (H' : Hp), Rl r H H' → B ≠ r → H B = none → H' B = some (.lst vb) → Paired (BoxAt H') vb bs → BsOk most bs → Q (.ref B) H'
theorem scSomeB : FnScope ["pot", "most", "wide", "names", "found", "left", "name", "size"] ["pot", "most", "wide"] (defScope sSomeB) := ⟨rfl, rfl, rfl, by decide +kernel, rfl, by decide +kernel, by decide +kernel⟩
theorem gSomeB_law_next : (defScope sSomeB).names.lookup (Str.ofString "_law_next") = some .globalImplicit := by decide +kernel
theorem gSomeB_min : (defScope sSomeB).names.lookup (Str.ofString "min") = some .globalImplicit := by decide +kernel
theorem ok_someB {f : Addr} {fd : FuncData} (F : Fun K "_law_some_boxes" "_law_some_boxes" sSomeB f fd) (m_min : mg "min" = none) (NX : Has P w K mg base "_law_next" ["pot", "many"] 1 spNext) : FnOk P w K mg base CX0 2 f fd ["pot", "most", "wide"] spSomeB := by
  refine F.ok scSomeB (fun vs H Q E h => ?_) (fun cdv A outer s H vs Q E hr h => ?_)
  · obtain ⟨r, most, wide, rfl, _⟩ := h
    rfl
  · obtain ⟨r, most, wide, rfl, rl, mo1, mo9, w1, w9, q⟩ := h
    refine goL ⟨_, (L3.cons (L3.set 3 scSomeB.nd (L3.lst (L3.k (L3.lst (L3.k L3.str (L3.k L3.str (L3.k L3.str (L3.k L3.str L3.n))))) (L3.k (L3.lst (L3.k L3.str (L3.k L3.str (L3.k L3.str (L3.k L3.str L3.n))))) (L3.k (L3.lst (L3.k L3.str (L3.k L3.str (L3.k L3.str (L3.k L3.str L3.n))))) L3.n)))))
      (L3.cons (L3.set 3 scSomeB.nd (L3.ix L3.ixL (L3.op L3.o_cat (L3.v 3) (L3.lst (L3.k (L3.lst (L3.k L3.str (L3.k L3.str (L3.k L3.str (L3.k L3.str L3.n))))) (L3.k (L3.lst (L3.k L3.str (L3.k L3.str (L3.k L3.str (L3.k L3.str L3.n))))) L3.n)))) (L3.own NX hr gSomeB_law_next (L3.k (L3.v 0) (L3.k L3.int L3.n)))))
      (L3.cons (L3.set 4 scSomeB.nd (L3.lst L3.n))
      (L3.cons (L3.set 5 scSomeB.nd (L3.v 1))
      (L3.cons (L3.for_ (L3.iL (L3.slL2 (L3.v 3) (L3.own NX hr gSomeB_law_next (L3.k (L3.v 0) (L3.k L3.int L3.n))))) (L3.gn 6 scSomeB.nd) (L3.cons (L3.set 7 scSomeB.nd (L3.op L3.o_add L3.int (L3.own NX hr gSomeB_law_next (L3.k (L3.v 0) (L3.k (L3.callB L3.c_min gSomeB_min m_min (by decide +kernel) (L3.k (L3.v 5) (L3.k (L3.v 2) L3.n))) L3.n)))))
      (L3.cons (L3.set 5 scSomeB.nd (L3.op L3.o_div (L3.v 5) (L3.v 7)))
      (L3.one (L3.ex (L3.append (L3.v 4) (L3.k (L3.tup (L3.k (L3.v 6) (L3.k (L3.v 7) L3.n))) L3.n)))))))
      (L3.one (L3.ret (L3.v 4)))))))), ?_⟩
    refine cut2 fun Rk kR => ?_
    refine ⟨(by show 4 ≤ sizeLine; decide), fun m0 hm0 => ?_⟩
    have sm0 : Same H (upd H m0 (.lst [.str "a", .str "b", .str "c", .str "d"])) := same_new hm0 _
    have gm0 : (upd H m0 (.lst [.str "a", .str "b", .str "c", .str "d"])) m0 = some (.lst [.str "a", .str "b", .str "c", .str "d"]) := upd_same
    generalize upd H m0 (.lst [.str "a", .str "b", .str "c", .str "d"]) = Ha0 at sm0 gm0 ⊢
    refine ⟨(by show 4 ≤ sizeLine; decide), fun m1 hm1 => ?_⟩
    have sm1 : Same Ha0 (upd Ha0 m1 (.lst [.str "x", .str "xx", .str "y", .str "abcdefgh"])) := same_new hm1 _
    have gm1 : (upd Ha0 m1 (.lst [.str "x", .str "xx", .str "y", .str "abcdefgh"])) m1 = some (.lst [.str "x", .str "xx", .str "y", .str "abcdefgh"]) := upd_same
    generalize upd Ha0 m1 (.lst [.str "x", .str "xx", .str "y", .str "abcdefgh"]) = Ha1 at sm1 gm1 ⊢
    refine ⟨(by show 4 ≤ sizeLine; decide), fun m2 hm2 => ?_⟩
    have sm2 : Same Ha1 (upd Ha1 m2 (.lst [.str "q", .str "put", .str "end", .str "test"])) := same_new hm2 _
    have gm2 : (upd Ha1 m2 (.lst [.str "q", .str "put", .str "end", .str "test"])) m2 = some (.lst [.str "q", .str "put", .str "end", .str "test"]) := upd_same
    generalize upd Ha1 m2 (.lst [.str "q", .str "put", .str "end", .str "test"]) = Ha2 at sm2 gm2 ⊢
    refine ⟨(by show 3 ≤ sizeLine; decide), fun lA hlA => ?_⟩
    have slA : Same Ha2 (upd Ha2 lA (.lst [.ref m0, .ref m1, .ref m2])) := same_new hlA _
    have glA : (upd Ha2 lA (.lst [.ref m0, .ref m1, .ref m2])) lA = some (.lst [.ref m0, .ref m1, .ref m2]) := upd_same
    generalize upd Ha2 lA (.lst [.ref m0, .ref m1, .ref m2]) = Ha3 at slA glA ⊢
    refine gn_go ?_
    refine ⟨_, rfl, ?_⟩
    refine ⟨(by show 4 ≤ sizeLine; decide), fun m3 hm3 => ?_⟩
    have sm3 : Same Ha3 (upd Ha3 m3 (.lst [.str "number", .str "box", .str "plus", .str "less"])) := same_new hm3 _
    have gm3 : (upd Ha3 m3 (.lst [.str "number", .str "box", .str "plus", .str "less"])) m3 = some (.lst [.str "number", .str "box", .str "plus", .str "less"]) := upd_same
    generalize upd Ha3 m3 (.lst [.str "number", .str "box", .str "plus", .str "less"]) = Ha4 at sm3 gm3 ⊢
    refine ⟨(by show 4 ≤ sizeLine; decide), fun m4 hm4 => ?_⟩
    have sm4 : Same Ha4 (upd Ha4 m4 (.lst [.str "mine", .str "yours", .str "yes", .str "same"])) := same_new hm4 _
    have gm4 : (upd Ha4 m4 (.lst [.str "mine", .str "yours", .str "yes", .str "same"])) m4 = some (.lst [.str "mine", .str "yours", .str "yes", .str "same"]) := upd_same
    generalize upd Ha4 m4 (.lst [.str "mine", .str "yours", .str "yes", .str "same"]) = Ha5 at sm4 gm4 ⊢
    refine ⟨(by show 2 ≤ sizeLine; decide), fun lB hlB => ?_⟩
    have slB : Same Ha5 (upd Ha5 lB (.lst [.ref m3, .ref m4])) := same_new hlB _
    have glB : (upd Ha5 lB (.lst [.ref m3, .ref m4])) lB = some (.lst [.ref m3, .ref m4]) := upd_same
    generalize upd Ha5 lB (.lst [.ref m3, .ref m4]) = Ha6 at slB glB ⊢
    refine ⟨lA, lB, _, _, rfl, rfl, (slB _ _ (sm4 _ _ (sm3 _ _ glA))), glB, (by show 5 ≤ sizeLine; decide), fun lC hlC => ?_⟩
    have slC : Same Ha6 (upd Ha6 lC (.lst ([V.ref m0, V.ref m1, V.ref m2] ++ [V.ref m3, V.ref m4]))) := same_new hlC _
    have glC : (upd Ha6 lC (.lst ([V.ref m0, V.ref m1, V.ref m2] ++ [V.ref m3, V.ref m4]))) lC = some (.lst ([V.ref m0, V.ref m1, V.ref m2] ++ [V.ref m3, V.ref m4])) := upd_same
    generalize upd Ha6 lC (.lst ([V.ref m0, V.ref m1, V.ref m2] ++ [V.ref m3, V.ref m4])) = Ha7 at slC glC ⊢
    have sA : Same H Ha7 := (same_trans (same_trans (same_trans (same_trans (same_trans (same_trans (same_trans sm0 sm1) sm2) slA) sm3) sm4) slB) slC)
    have rA := rl.same sA
    refine ⟨_, rfl, r, 5, rfl, rA, by decide, by decide, fun k H1 k0 k1 l1 => ?_⟩
    obtain ⟨_, hat, nl, ns, rfl, gn, nr, nm⟩ := atI_all (P := fun v => ∃ (nl : Addr) (ns : List Str), v = .ref nl ∧ H1 nl = some (.lst (ns.map V.str)) ∧ nl ≠ r ∧ Nm4 ns) (xs := [.ref m0, .ref m1, .ref m2, .ref m3, .ref m4]) (r := k) k0 k1 (fun x hx => by
      rcases List.mem_cons.mp hx with e | hx
      · exact ⟨m0, (["a", "b", "c", "d"] : List Str), e, l1.k _ _ (rl.ne hm0) (slC _ _ (slB _ _ (sm4 _ _ (sm3 _ _ (slA _ _ (sm2 _ _ (sm1 _ _ gm0))))))), (rl.ne hm0), ⟨by decide +kernel, rfl, by decide +kernel⟩⟩
      rcases List.mem_cons.mp hx with e | hx
      · exact ⟨m1, (["x", "xx", "y", "abcdefgh"] : List Str), e, l1.k _ _ (rl.ne (none_of_same sm0 hm1)) (slC _ _ (slB _ _ (sm4 _ _ (sm3 _ _ (slA _ _ (sm2 _ _ gm1)))))), (rl.ne (none_of_same sm0 hm1)), ⟨by decide +kernel, rfl, by decide +kernel⟩⟩
      rcases List.mem_cons.mp hx with e | hx
      · exact ⟨m2, (["q", "put", "end", "test"] : List Str), e, l1.k _ _ (rl.ne (none_of_same sm0 (none_of_same sm1 hm2))) (slC _ _ (slB _ _ (sm4 _ _ (sm3 _ _ (slA _ _ gm2))))), (rl.ne (none_of_same sm0 (none_of_same sm1 hm2))), ⟨by decide +kernel, rfl, by decide +kernel⟩⟩
      rcases List.mem_cons.mp hx with e | hx
      · exact ⟨m3, (["number", "box", "plus", "less"] : List Str), e, l1.k _ _ (rl.ne (none_of_same sm0 (none_of_same sm1 (none_of_same sm2 (none_of_same slA hm3))))) (slC _ _ (slB _ _ (sm4 _ _ gm3))), (rl.ne (none_of_same sm0 (none_of_same sm1 (none_of_same sm2 (none_of_same slA hm3))))), ⟨by decide +kernel, rfl, by decide +kernel⟩⟩
      · exact ⟨m4, (["mine", "yours", "yes", "same"] : List Str), List.mem_singleton.mp hx, l1.k _ _ (rl.ne (none_of_same sm0 (none_of_same sm1 (none_of_same sm2 (none_of_same slA (none_of_same sm3 hm4)))))) (slC _ _ (slB _ _ gm4)), (rl.ne (none_of_same sm0 (none_of_same sm1 (none_of_same sm2 (none_of_same slA (none_of_same sm3 hm4)))))), ⟨by decide +kernel, rfl, by decide +kernel⟩⟩)
    refine ⟨lC, _, _, _, rfl, rfl, SqL.of (l1.k _ _ (rl.ne (none_of_same sm0 (none_of_same sm1 (none_of_same sm2 (none_of_same slA (none_of_same sm3 (none_of_same sm4 (none_of_same slB hlC)))))))) glC), hat, ?_⟩
    refine gn_go ?_
    refine kR _ _ ?_
    refine normS [some (.ref r), some (.int most), some (.int wide), some (.ref nl), none, none, none, none] rfl ?_
    have l01 : Rl r H H1 := (Rl.of rl sA).trans l1
    clear hat l1 rA sA gm0 gm1 gm2 glA gm3 gm4 glB glC
    clear slC slB sm4 sm3 slA sm2 sm1 sm0
    refine cut2 fun Rk kR => ?_
    refine ⟨(by show 0 ≤ sizeLine; decide), fun B hB => ?_⟩
    have Br : B ≠ r := l01.rl.ne hB
    have BH := l01.no Br hB
    have Bn : nl ≠ B := ne_of_none gn hB
    have lB : Rl r H1 (upd H1 B (.lst [])) := Rl.new l01.rl hB
    have gB : (upd H1 B (.lst [])) B = some (.lst []) := upd_same
    generalize upd H1 B (.lst []) = H2 at lB gB ⊢
    refine gn_go ?_
    refine ⟨_, rfl, ?_⟩
    refine gn_go ?_
    refine kR _ _ ?_
    refine normS [some (.ref r), some (.int most), some (.int wide), some (.ref nl), some (.ref B), some (.int most), none, none] rfl ?_
    refine cut1 fun Rk kR => ?_
    refine ⟨_, rfl, _, rfl, r, 5, rfl, lB.rl, by decide, by decide, fun k H3 k0 k1 l3 => ?_⟩
    have gn3 := l3.k _ _ nr (lB.k _ _ nr gn)
    refine ⟨_, rfl, nl, _, rfl, SqL.of gn3, fun sl hsl => ?_⟩
    obtain ⟨kn, ekn⟩ : ∃ kn : Nat, k = (kn : Int) := ⟨k.toNat, by omega⟩
    rw [ekn, cut_to _ (by rw [List.length_map, nm.l4]; omega), ← List.map_take]
    have slr : sl ≠ r := l3.rl.ne hsl
    have slB : sl ≠ B := fun z => by rw [z, l3.k _ _ Br gB] at hsl; cases hsl
    have ls : Rl r H3 (upd H3 sl (.lst ((ns.take kn).map V.str))) := Rl.new l3.rl hsl
    have gsl : (upd H3 sl (.lst ((ns.take kn).map V.str))) sl = some (.lst ((ns.take kn).map V.str)) := upd_same
    generalize upd H3 sl (.lst ((ns.take kn).map V.str)) = H4 at ls gsl ⊢
    have l14 := lB.trans (l3.trans ls)
    have gB4 := (l3.trans ls).k _ _ Br gB
    have tnd : (ns.take kn).Nodup := nm.nd.sublist (List.take_sublist _ _)
    have tl : (ns.take kn).length ≤ 4 := by rw [List.length_take, nm.l4]; omega
    have t8 : ∀ x ∈ ns.take kn, x.length ≤ 8 := fun x hx => nm.l8 x (List.mem_of_mem_take hx)
    generalize ns.take kn = ms at gsl tnd tl t8
    refine ⟨sl, rfl, ⟨_, SqL.of gsl⟩, ?_⟩
    refine for_list (xs := ms.map V.str) (fun (i : Nat) (σ : L2.St) (Hx : Hp) => Rl r H1 Hx ∧ Hx sl = some (.lst (ms.map V.str)) ∧ ∃ (lf : Int) (o6 o7 : Option V) (vb : List V) (bs : List (Str × Int)), σ = [some (.ref r), some (.int most), some (.int wide), some (.ref nl), some (.ref B), some (.int lf), o6, o7] ∧ 1 ≤ lf ∧ lf ≤ 65536 ∧ prodB bs * lf ≤ most ∧ Hx B = some (.lst vb) ∧ Paired (BoxAt Hx) vb bs ∧ bs.map (·.1) = ms.take i ∧ ∀ b ∈ bs, 1 ≤ b.2 ∧ b.2 ≤ 16) ⟨l14, gsl, most, none, none, [], [], rfl, mo1, mo9, by show 1 * most ≤ most; omega, gB4, .nil, rfl, fun b hb => nomatch hb⟩ (fun i σ Hx _ z => SqL.of z.2.1) (fun i x0 σ Hx hx z => ?_) (fun σ Hx z => ?_)
    · obtain ⟨lx, gs, lf, o6, o7, vb, bs, rfl, f1, f9, pr, hb, pb, nmx, sz1⟩ := z
      obtain ⟨x, hxi, rfl⟩ := map_get hx
      have il : i < ms.length := (List.getElem?_eq_some_iff.mp hxi).1
      refine gn_go ?_
      refine normS [some (.ref r), some (.int most), some (.int wide), some (.ref nl), some (.ref B), some (.int lf), some (.str x), o7] rfl ?_
      refine cut1 fun Rj kj => ?_
      obtain ⟨mn, emn, n1, n2, n3⟩ : ∃ mn, mn = (if wide < lf then wide else lf) ∧ 1 ≤ mn ∧ mn ≤ 16 ∧ mn ≤ lf := by
        refine ⟨_, rfl, ?_, ?_, ?_⟩ <;> split <;> omega
      refine ⟨_, rfl, _, rfl, _, rfl, _, _, rfl, r, mn, by rw [emn]; rfl, lx.rl, by omega, Int.lt_of_le_of_lt n2 (by decide), fun k H5 k0 k1 l5 => ⟨_, _, rfl, rfl, ?_⟩⟩
      obtain ⟨sz, esz⟩ : ∃ sz, sz = 1 + k := ⟨_, rfl⟩
      refine gn_go ?_
      refine kj _ _ ?_
      refine normS [some (.ref r), some (.int most), some (.int wide), some (.ref nl), some (.ref B), some (.int lf), some (.str x), some (.int sz)] (by rw [esz]; rfl) ?_
      have hb5 := l5.k _ _ Br hb
      have lx5 := lx.trans l5
      refine cut1 fun Rj kj => ?_
      refine ⟨_, rfl, _, rfl, _, _, rfl, rfl, ⟨by omega, Int.lt_of_le_of_lt (show sz ≤ 65536 by omega) (by decide +kernel)⟩, ?_⟩
      have q1 : 1 ≤ lf / sz := Int.le_ediv_of_mul_le (by omega) (by omega)
      have q2 : lf / sz ≤ 65536 := Int.le_trans (Int.ediv_le_self _ (by omega)) f9
      refine gn_go ?_
      refine kj _ _ ?_
      refine ⟨_, rfl, .inl ⟨rfl, _, SqL.of hb5⟩, _, rfl, _, rfl, (by show 2 ≤ sizeLine; decide), fun p hp => ?_⟩
      have bl := Paired.length pb
      have bl2 : bs.length = min i ms.length := by rw [← List.length_map (f := (·.1)), nmx, List.length_take]
      have pB : p ≠ B := (ne_of_none hb5 hp).symm
      have hb6 : (upd H5 p (.tup [.str x, .int sz])) B = some (.lst vb) := by rw [upd_ne pB.symm]; exact hb5
      have lp : Rl r H5 (upd H5 p (.tup [.str x, .int sz])) := Rl.new l5.rl hp
      have psl : (upd H5 p (.tup [.str x, .int sz])) sl = some (.lst (ms.map V.str)) := lp.k _ _ slr (l5.k _ _ slr gs)
      refine ⟨B, _, _, rfl, rfl, hb6, small1000 (by omega), ⟨Rl.put (lx5.trans lp) Br hB, by rw [upd_ne slB]; exact psl, lf / sz, _, _, vb ++ [.ref p], bs ++ [(x, sz)], rfl, q1, q2, ?_, upd_same, ?_, ?_, fun b hb => ?_⟩⟩
      · rw [prodB_snoc, Int.mul_assoc]
        refine Int.le_trans (Int.mul_le_mul_of_nonneg_left (Int.mul_ediv_self_le (show sz ≠ 0 by omega)) ?_) pr
        have := prod_pos (bs := bs) fun b hb => (sz1 b hb).1
        omega
      · refine Paired.snoc (Paired.mapP pb fun _ _ z => Tp.keep (((Rl.tk lx.rl l5).trans (tk_new hp _)).trans (TW.TK.lst hb6)) z) ⟨p, rfl, ?_⟩
        rw [upd_ne pB, upd_same]
      · rw [List.map_append, nmx, List.take_add_one, hxi]
        rfl
      · rcases List.mem_append.mp hb with z | z
        · exact sz1 b z
        · rw [List.mem_singleton.mp z]
          exact ⟨by show 1 ≤ sz; omega, by show sz ≤ 16; omega⟩
    obtain ⟨lx, gs, lf, o6, o7, vb, bs, rfl, f1, f9, pr, hb, pb, nmx, sz1⟩ := z
    rw [List.length_map, List.take_length] at nmx
    refine kR _ _ ?_
    refine ⟨_, rfl, ?_⟩
    have bl2 : bs.length = ms.length := by rw [← List.length_map (f := (·.1)), nmx]
    refine q B vb bs Hx (l01.trans lx) Br BH hb pb ⟨by rw [nmx]; exact tnd, by omega, fun b hb => t8 _ (by rw [← nmx]; exact List.mem_map.mpr ⟨b, hb, rfl⟩), sz1, Int.le_trans ?_ pr⟩
    have := prod_pos (bs := bs) fun b hb => (sz1 b hb).1
    have := Int.mul_le_mul_of_nonneg_left f1 (c := prodB bs) (by omega)
    omega
theorem has_someB (s : Src K mg "_law_some_boxes" sSomeB) (m_min : mg "min" = none) (NX : Has P w K mg base "_law_next" ["pot", "many"] 1 spNext) : Has P w K mg base "_law_some_boxes" ["pot", "most", "wide"] 2 spSomeB :=
  let ⟨f, fd, F, m⟩ := s
  ⟨f, fd, ok_someB F m_min NX, F.kp, bnd3 F fun _ _ _ _ _ _ _ _ _ => rfl, m⟩
end
end TW
set_option Elab.async false
set_option linter.all false
set_option maxRecDepth 100000
set_option exponentiation.threshold 4000
set_option maxHeartbeats 1000000
namespace TW
open PySem L2
section
variable {P : Program} {w : World} {K : PySem.W.Frag} {mg : Str → Option Value} {base : Heap}
abbrev sSum : Stmt := top 22
abbrev sCond : Stmt := top 23
/-! ### drawn sums, conditions -/
structure Dr (H : Hp) (r nl : Addr) (ns : List Str) : Prop where
  rl : Reel H r
  nr : nl ≠ r
  hn : H nl = some (.lst (ns.map V.str))
  l4 : ns.length ≤ 4
theorem Dr.go {H H1 : Hp} {r nl : Addr} {ns : List Str} (d : Dr H r nl ns) (l : Rl r H H1) : Dr H1 r nl ns := ⟨l.rl, d.nr, l.k _ _ d.nr d.hn, d.l4⟩
abbrev bxN (ns : List Str) : Str → Str → Prop := fun t x => t = "box" ∧ x ∈ ns
def spSum (n : Nat) : Sp := fun vs H Q _ => ∃ (r nl : Addr) (d : Int) (ns : List Str), vs = [.ref r, .ref nl, .int d] ∧ Dr H r nl ns ∧ 0 ≤ d ∧ d < n ∧ ∀ (v : V) (e : E) (H' : Hp), Rl r H H' → EAt H' v e → e.isS → e.okIn (bxN ns) → e.dep ≤ d.toNat → Q v H'
theorem pick2 {k : Int} {a b : K2} (h0 : 0 ≤ k) (h1 : k < 2) : ∃ kk : K2, atI ([.str a.str, .str b.str] : List V) k = some (.str kk.str) ∧ (kk = a ∨ kk = b) := by
  rcases (show k = 0 ∨ k = 1 by omega) with rfl | rfl
  · exact ⟨a, rfl, .inl rfl⟩
  · exact ⟨b, rfl, .inr rfl⟩
theorem none_sum {f : Addr} {fd : FuncData} : FnOk P w K mg base CX0 2 f fd ["pot", "names", "deep"] (spSum 0) := by
  have no : ∀ vs H Q E, ¬ spSum 0 vs H Q E := fun vs H Q E h => by
    obtain ⟨r, nl, d, ns, _, _, d0, dn, _⟩ := h
    omega
  exact ⟨fun vs H Q E h => absurd h (no vs H Q E), fun A outer s H args us vs Q E _ _ _ _ h => absurd h (no vs H Q E)⟩
theorem scSum : FnScope ["pot", "names", "deep", "way", "word"] ["pot", "names", "deep"] (defScope sSum) := ⟨rfl, rfl, rfl, by decide +kernel, rfl, by decide +kernel, by decide +kernel⟩
theorem gSum_law_any_sum : (defScope sSum).names.lookup (Str.ofString "_law_any_sum") = some .globalImplicit := by decide +kernel
theorem gSum_law_next : (defScope sSum).names.lookup (Str.ofString "_law_next") = some .globalImplicit := by decide +kernel
theorem gSum_len : (defScope sSum).names.lookup (Str.ofString "len") = some .globalImplicit := by decide +kernel
theorem ok_sum {n : Nat} {f : Addr} {fd : FuncData} (F : Fun K "_law_any_sum" "_law_any_sum" sSum f fd) (m_len : mg "len" = none) (TK0 : Has P w K mg base "_law_next" ["pot", "many"] 1 spNext) (G : Has P w K mg base "_law_any_sum" ["pot", "names", "deep"] (n + 2) (spSum n)) : FnOk P w K mg base CX0 (n + 1 + 2) f fd ["pot", "names", "deep"] (spSum (n + 1)) := by
  refine F.ok scSum (fun vs H Q E h => ?_) (fun cdv A outer s H vs Q E hr h => ?_)
  · obtain ⟨r, nl, d, ns, rfl, _⟩ := h
    rfl
  · obtain ⟨r, nl, d, ns, rfl, D, d0, dn, q⟩ := h
    have TK := TK0.mono (show 1 ≤ n + 2 by omega)
    refine goL ⟨_, (L3.cons (L3.set 3 scSum.nd (L3.own TK hr gSum_law_next (L3.k (L3.v 0) (L3.k L3.int L3.n))))
      (L3.cons (L3.ifs (L3.tw (L3.and2 (L3.cmp L3.o_eq (L3.v 3) L3.int) (L3.and1 (L3.cmp L3.o_gt (L3.v 2) L3.int)))) (L3.cons (L3.set 4 scSum.nd (L3.ix L3.ixL (L3.lst (L3.k L3.str (L3.k L3.str L3.n))) (L3.own TK hr gSum_law_next (L3.k (L3.v 0) (L3.k L3.int L3.n)))))
      (L3.one (L3.ret (L3.tup (L3.k (L3.v 4) (L3.k (L3.own G hr gSum_law_any_sum (L3.k (L3.v 0) (L3.k (L3.v 1) (L3.k (L3.op L3.o_sub (L3.v 2) L3.int) L3.n)))) (L3.k (L3.own G hr gSum_law_any_sum (L3.k (L3.v 0) (L3.k (L3.v 1) (L3.k (L3.op L3.o_sub (L3.v 2) L3.int) L3.n)))) L3.n))))))) L3.nil)
      (L3.cons (L3.ifs (L3.tw (L3.and2 (L3.cmp L3.o_gt (L3.v 3) L3.int) (L3.and1 (L3.cmp (L3.o_neD (m := 2) (up_ne hr _ (by decide))) (L3.v 1) (L3.lst L3.n))))) (L3.one (L3.ret (L3.tup (L3.k L3.str (L3.k (L3.ix L3.ixL (L3.v 1) (L3.own TK hr gSum_law_next (L3.k (L3.v 0) (L3.k (L3.callB L3.c_len gSum_len m_len PySem.boot_len (L3.k (L3.v 1) L3.n)) L3.n)))) L3.n))))) L3.nil)
      (L3.one (L3.ret (L3.tup (L3.k L3.str (L3.k (L3.own TK hr gSum_law_next (L3.k (L3.v 0) (L3.k (L3.ix L3.ixL (L3.lst (L3.k L3.int (L3.k L3.int (L3.k L3.int (L3.k (L3.op L3.o_pow L3.int L3.int) L3.n))))) (L3.own TK hr gSum_law_next (L3.k (L3.v 0) (L3.k L3.int L3.n)))) L3.n))) L3.n)))))))), ?_⟩
    refine cut1 fun Rk kR => ?_
    refine ⟨_, rfl, r, 4, rfl, D.rl, by decide, by decide, fun k H1 k0 k1 l1 => ?_⟩
    have D1 := D.go l1
    refine gn_go ?_
    refine kR _ _ ?_
    refine normS [some (.ref r), some (.ref nl), some (.int d), some (.int k), none] rfl ?_
    refine cut1 fun Rk kR => ?_
    suffices hs : Rk [some (.ref r), some (.ref nl), some (.int d), some (.int k), none] H1 by
      refine ⟨_, rfl, rfl, _, rfl, ite2 (fun _ => ?_) (fun _ => iteF hs)⟩
      refine ⟨_, rfl, _, _, rfl, rfl, _, rfl, ite2 (fun cd => ?_) (fun _ => hs)⟩
      have dpos : 0 < d := of_decide_eq_true cd
      clear hs kR
      refine cut1 fun Rk kR => ?_
      refine ⟨(by show 2 ≤ sizeLine; decide), fun L hL => ?_⟩
      have Lr : L ≠ r := D1.rl.ne hL
      have ll : Rl r H1 (upd H1 L (.lst [.str "plus", .str "less"])) := Rl.new D1.rl hL
      have gL : (upd H1 L (.lst [.str "plus", .str "less"])) L = some (.lst [.str "plus", .str "less"]) := upd_same
      generalize upd H1 L (.lst [.str "plus", .str "less"]) = H4 at ll gL ⊢
      have D4 := D1.go ll
      refine ⟨_, rfl, r, 2, rfl, D4.rl, by decide, by decide, fun j H5 j0 j1 l5 => ?_⟩
      have D5 := D4.go l5
      obtain ⟨kk, hat, hkk⟩ := pick2 (a := .plus) (b := .less) j0 j1
      refine ⟨L, _, _, _, rfl, rfl, SqL.of (l5.k _ _ Lr gL), hat, ?_⟩
      refine gn_go ?_
      refine kR _ _ ?_
      refine ⟨_, rfl, _, rfl, _, rfl, _, rfl, _, _, rfl, rfl, r, nl, d - 1, ns, rfl, D5, by omega, by omega, fun v e H3 l3 ev is ok dp => ?_⟩
      have D3 := D5.go l3
      refine ⟨_, rfl, _, rfl, _, rfl, _, _, rfl, rfl, r, nl, d - 1, ns, rfl, D3, by omega, by omega, fun v2 e2 H6 l6 ev2 is2 ok2 dp2 => ⟨(by show 3 ≤ sizeLine; decide), fun p hp => ?_⟩⟩
      have lp : Rl r H6 (upd H6 p (.tup [.str kk.str, v, v2])) := Rl.new l6.rl hp
      refine q (.ref p) (.two kk e e2) _ (l1.trans ((ll.trans l5).trans (l3.trans (l6.trans lp)))) ⟨v, v2, ⟨p, rfl, upd_same⟩, ev.keep (Rl.tk D3.rl (l6.trans lp)), ev2.keep (Rl.tk l6.rl lp)⟩ ?_ ⟨ok, ok2⟩ ?_
      · rcases hkk with rfl | rfl <;> exact ⟨is, is2⟩
      · show max e.dep e2.dep + 1 ≤ d.toNat
        omega
    refine kR _ _ ?_
    refine cut1 fun Rk kR => ?_
    suffices hs : ∀ H2, Rl r H1 H2 → Rk [some (.ref r), some (.ref nl), some (.int d), some (.int k), none] H2 by
      refine ⟨_, rfl, _, _, rfl, rfl, _, rfl, ite2 (fun _ => ?_) (fun _ => iteF (hs _ (Rl.refl D1.rl)))⟩
      refine ⟨_, rfl, (by show 0 ≤ sizeLine; decide), fun z hz => ?_⟩
      have lz : Rl r H1 (upd H1 z (.lst [])) := Rl.new D1.rl hz
      have gz : (upd H1 z (.lst [])) z = some (.lst []) := upd_same
      generalize upd H1 z (.lst []) = H2 at lz gz ⊢
      have D2 := D1.go lz
      refine ⟨_, RB.nil (SqL.of D2.hn) (SqL.of gz), _, rfl, ite2 (fun c => ?_) (fun _ => hs _ lz)⟩
      have hpos : 0 < ns.length := by
        cases ns with
        | nil => exact absurd c (by decide)
        | cons a l => exact Nat.succ_pos _
      have l4 := D.l4
      refine ⟨_, rfl, _, rfl, _, rfl, nl, _, rfl, .inl (SqL.of D2.hn), r, _, rfl, D2.rl, by rw [List.length_map]; omega, by rw [List.length_map]; exact Int.lt_of_le_of_lt (show _ ≤ (4 : Int) by omega) (by decide), fun j H3 j0 j1 l3 => ?_⟩
      rw [List.length_map] at j1
      obtain ⟨x, _, hxm, hat⟩ := atI_get V.str ns j0 j1
      have D3 := D2.go l3
      refine ⟨nl, _, _, _, rfl, rfl, SqL.of D3.hn, hat, (by show 2 ≤ sizeLine; decide), fun p hp => ?_⟩
      exact q (.ref p) (.box "box" x) _ (l1.trans (lz.trans (l3.trans (Rl.new D3.rl hp)))) ⟨p, rfl, upd_same⟩ True.intro ⟨rfl, hxm⟩ (Nat.zero_le _)
    intro H2 l2
    have D2 := D1.go l2
    refine kR _ _ ?_
    refine ⟨_, rfl, _, _, rfl, rfl, ⟨by decide, by decide, by decide⟩, (by show 4 ≤ sizeLine; decide), fun L hL => ?_⟩
    have Lr : L ≠ r := D2.rl.ne hL
    have ll : Rl r H2 (upd H2 L (.lst [.int 3, .int 20, .int 20, .int (10 ^ (30 : Int).toNat)])) := Rl.new D2.rl hL
    have gL : (upd H2 L (.lst [.int 3, .int 20, .int 20, .int (10 ^ (30 : Int).toNat)])) L = some (.lst [.int 3, .int 20, .int 20, .int (10 ^ (30 : Int).toNat)]) := upd_same
    generalize upd H2 L (.lst [.int 3, .int 20, .int 20, .int (10 ^ (30 : Int).toNat)]) = H3 at ll gL ⊢
    have D3 := D2.go ll
    refine ⟨_, rfl, r, 4, rfl, D3.rl, by decide, by decide, fun j H4 j0 j1 l4 => ?_⟩
    have D4 := D3.go l4
    obtain ⟨_, hat, mm, rfl, mm0, mm1⟩ := atI_all (P := fun v => ∃ mm : Int, v = .int mm ∧ 0 < mm ∧ mm ≤ 10 ^ 30) (xs := [.int 3, .int 20, .int 20, .int (10 ^ (30 : Int).toNat)]) (r := j) j0 j1 (fun x hx => by
      rcases List.mem_cons.mp hx with e | hx
      · exact ⟨_, e, by decide, by decide⟩
      rcases List.mem_cons.mp hx with e | hx
      · exact ⟨_, e, by decide, by decide⟩
      rcases List.mem_cons.mp hx with e | hx
      · exact ⟨_, e, by decide, by decide⟩
      · exact ⟨_, List.mem_singleton.mp hx, by decide, by decide⟩)
    refine ⟨L, _, _, _, rfl, rfl, SqL.of (l4.k _ _ Lr gL), hat, r, mm, rfl, D4.rl, mm0, Int.lt_of_le_of_lt mm1 (by decide), fun i H5 i0 i1 l5 => ⟨(by show 2 ≤ sizeLine; decide), fun p hp => ?_⟩⟩
    refine q (.ref p) (.num i) _ ((l1.trans l2).trans ((ll.trans l4).trans (l5.trans (Rl.new l5.rl hp)))) ⟨p, rfl, upd_same⟩ True.intro ?_ (Nat.zero_le _)
    show i.natAbs < 2 ^ 100
    have e30 : (10 : Int) ^ 30 = 1000000000000000000000000000000 := by decide
    rw [e30] at mm1
    omega
theorem has_sum (s : Src K mg "_law_any_sum" sSum) (m_len : mg "len" = none) (TK0 : Has P w K mg base "_law_next" ["pot", "many"] 1 spNext) : ∀ n : Nat, Has P w K mg base "_law_any_sum" ["pot", "names", "deep"] (n + 2) (spSum n) := by
  obtain ⟨f, fd, F, m⟩ := s
  have b : Binds K fd ["pot", "names", "deep"] [] := bnd3 F fun _ _ _ _ _ _ _ _ _ => rfl
  intro n
  have all : FnOk P w K mg base CX0 (n + 2) f fd ["pot", "names", "deep"] (spSum n) := by
    induction n with
    | zero => exact none_sum
    | succ n ih => exact ok_sum F m_len TK0 ⟨f, fd, ih, F.kp, b, m⟩
  exact ⟨f, fd, all, F.kp, b, m⟩
def spCond (n : Nat) : Sp := fun vs H Q _ => ∃ (r nl : Addr) (d : Int) (ns : List Str), vs = [.ref r, .ref nl, .int d] ∧ Dr H r nl ns ∧ 0 ≤ d ∧ d < n ∧ d < 4 ∧ ∀ (v : V) (e : E) (H' : Hp), Rl r H H' → EAt H' v e → e.isC → e.okIn (bxN ns) → e.dep ≤ d.toNat + 1 → Q v H'
theorem none_cond {f : Addr} {fd : FuncData} : FnOk P w K mg base CX0 6 f fd ["pot", "names", "deep"] (spCond 0) := by
  have no : ∀ vs H Q E, ¬ spCond 0 vs H Q E := fun vs H Q E h => by
    obtain ⟨r, nl, d, ns, _, _, d0, dn, _⟩ := h
    omega
  exact ⟨fun vs H Q E h => absurd h (no vs H Q E), fun A outer s H args us vs Q E _ _ _ _ h => absurd h (no vs H Q E)⟩
theorem scCond : FnScope ["pot", "names", "deep", "way"] ["pot", "names", "deep"] (defScope sCond) := ⟨rfl, rfl, rfl, by decide +kernel, rfl, by decide +kernel, by decide +kernel⟩
theorem gCond_law_any_condition : (defScope sCond).names.lookup (Str.ofString "_law_any_condition") = some .globalImplicit := by decide +kernel
theorem gCond_law_any_sum : (defScope sCond).names.lookup (Str.ofString "_law_any_sum") = some .globalImplicit := by decide +kernel
theorem gCond_law_next : (defScope sCond).names.lookup (Str.ofString "_law_next") = some .globalImplicit := by decide +kernel
theorem ok_cond {n : Nat} {f : Addr} {fd : FuncData} (F : Fun K "_law_any_condition" "_law_any_condition" sCond f fd) (TK0 : Has P w K mg base "_law_next" ["pot", "many"] 1 spNext) (SM0 : Has P w K mg base "_law_any_sum" ["pot", "names", "deep"] 6 (spSum 4)) (G : Has P w K mg base "_law_any_condition" ["pot", "names", "deep"] (n + 6) (spCond n)) : FnOk P w K mg base CX0 (n + 1 + 6) f fd ["pot", "names", "deep"] (spCond (n + 1)) := by
  refine F.ok scCond (fun vs H Q E h => ?_) (fun cdv A outer s H vs Q E hr h => ?_)
  · obtain ⟨r, nl, d, ns, rfl, _⟩ := h
    rfl
  · obtain ⟨r, nl, d, ns, rfl, D, d0, dn, d4, q⟩ := h
    have TK := TK0.mono (show 1 ≤ n + 6 by omega)
    have SM := SM0.mono (show 6 ≤ n + 6 by omega)
    refine goL ⟨_, (L3.cons (L3.set 3 scCond.nd (L3.own TK hr gCond_law_next (L3.k (L3.v 0) (L3.k L3.int L3.n))))
      (L3.cons (L3.ifs (L3.cmp L3.o_eq (L3.v 3) L3.int) (L3.one (L3.ret (L3.tup (L3.k L3.str L3.n)))) L3.nil)
      (L3.cons (L3.ifs (L3.tw (L3.and2 (L3.cmp L3.o_eq (L3.v 3) L3.int) (L3.and1 (L3.cmp L3.o_gt (L3.v 2) L3.int)))) (L3.one (L3.ret (L3.tup (L3.k L3.str (L3.k (L3.own G hr gCond_law_any_condition (L3.k (L3.v 0) (L3.k (L3.v 1) (L3.k (L3.op L3.o_sub (L3.v 2) L3.int) L3.n)))) L3.n))))) L3.nil)
      (L3.cons (L3.ifs (L3.tw (L3.and2 (L3.cmp L3.o_eq (L3.v 3) L3.int) (L3.and1 (L3.cmp L3.o_gt (L3.v 2) L3.int)))) (L3.one (L3.ret (L3.tup (L3.k L3.str (L3.k (L3.own G hr gCond_law_any_condition (L3.k (L3.v 0) (L3.k (L3.v 1) (L3.k (L3.op L3.o_sub (L3.v 2) L3.int) L3.n)))) (L3.k (L3.own G hr gCond_law_any_condition (L3.k (L3.v 0) (L3.k (L3.v 1) (L3.k (L3.op L3.o_sub (L3.v 2) L3.int) L3.n)))) L3.n)))))) L3.nil)
      (L3.one (L3.ret (L3.tup (L3.k (L3.ix L3.ixL (L3.lst (L3.k L3.str (L3.k L3.str L3.n))) (L3.own TK hr gCond_law_next (L3.k (L3.v 0) (L3.k L3.int L3.n)))) (L3.k (L3.own SM hr gCond_law_any_sum (L3.k (L3.v 0) (L3.k (L3.v 1) (L3.k (L3.v 2) L3.n)))) (L3.k (L3.own SM hr gCond_law_any_sum (L3.k (L3.v 0) (L3.k (L3.v 1) (L3.k (L3.v 2) L3.n)))) L3.n)))))))))), ?_⟩
    refine cut1 fun Rk kR => ?_
    refine ⟨_, rfl, r, 6, rfl, D.rl, by decide, by decide, fun k H1 k0 k1 l1 => ?_⟩
    have D1 := D.go l1
    refine gn_go ?_
    refine kR _ _ ?_
    refine normS [some (.ref r), some (.ref nl), some (.int d), some (.int k)] rfl ?_
    refine cut1 fun Rk kR => ?_
    refine ⟨_, rfl, rfl, _, rfl, ite2 (fun _ => ?_) (fun _ => ?_)⟩
    · refine ⟨(by show 1 ≤ sizeLine; decide), fun p hp => ?_⟩
      exact q (.ref p) .yes _ (l1.trans (Rl.new l1.rl hp)) ⟨p, rfl, upd_same⟩ True.intro True.intro (Nat.zero_le _)
    refine kR _ _ ?_
    refine cut1 fun Rk kR => ?_
    suffices hs : Rk [some (.ref r), some (.ref nl), some (.int d), some (.int k)] H1 by
      refine ⟨_, rfl, rfl, _, rfl, ite2 (fun _ => ?_) (fun _ => iteF hs)⟩
      refine ⟨_, rfl, _, _, rfl, rfl, _, rfl, ite2 (fun cd => ?_) (fun _ => hs)⟩
      have dpos : 0 < d := of_decide_eq_true cd
      refine ⟨_, rfl, _, rfl, _, rfl, _, _, rfl, rfl, r, nl, d - 1, ns, rfl, D1, by omega, by omega, by omega, fun v e H2 l2 ev is ok dp => ?_⟩
      have D2 := D1.go l2
      refine ⟨(by show 2 ≤ sizeLine; decide), fun p hp => ?_⟩
      have lp : Rl r H2 (upd H2 p (.tup [.str "not", v])) := Rl.new D2.rl hp
      exact q (.ref p) (.nt e) _ (l1.trans (l2.trans lp)) ⟨v, ⟨p, rfl, upd_same⟩, ev.keep (Rl.tk D2.rl lp)⟩ is ok (by show e.dep + 1 ≤ d.toNat + 1; omega)
    refine kR _ _ ?_
    refine cut1 fun Rk kR => ?_
    suffices hs : Rk [some (.ref r), some (.ref nl), some (.int d), some (.int k)] H1 by
      refine ⟨_, rfl, rfl, _, rfl, ite2 (fun _ => ?_) (fun _ => iteF hs)⟩
      refine ⟨_, rfl, _, _, rfl, rfl, _, rfl, ite2 (fun cd => ?_) (fun _ => hs)⟩
      have dpos : 0 < d := of_decide_eq_true cd
      refine ⟨_, rfl, _, rfl, _, rfl, _, _, rfl, rfl, r, nl, d - 1, ns, rfl, D1, by omega, by omega, by omega, fun v e H2 l2 ev is ok dp => ?_⟩
      have D2 := D1.go l2
      refine ⟨_, rfl, _, rfl, _, rfl, _, _, rfl, rfl, r, nl, d - 1, ns, rfl, D2, by omega, by omega, by omega, fun v2 e2 H3 l3 ev2 is2 ok2 dp2 => ?_⟩
      have D3 := D2.go l3
      refine ⟨(by show 3 ≤ sizeLine; decide), fun p hp => ?_⟩
      have lp : Rl r H3 (upd H3 p (.tup [.str "both", v, v2])) := Rl.new D3.rl hp
      exact q (.ref p) (.two .both e e2) _ (l1.trans (l2.trans (l3.trans lp))) ⟨v, v2, ⟨p, rfl, upd_same⟩, ev.keep (Rl.tk D2.rl (l3.trans lp)), ev2.keep (Rl.tk D3.rl lp)⟩ ⟨is, is2⟩ ⟨ok, ok2⟩ (by show max e.dep e2.dep + 1 ≤ d.toNat + 1; omega)
    refine kR _ _ ?_
    refine ⟨(by show 2 ≤ sizeLine; decide), fun L hL => ?_⟩
    have Lr : L ≠ r := D1.rl.ne hL
    have ll : Rl r H1 (upd H1 L (.lst [.str "same", .str "under"])) := Rl.new D1.rl hL
    have gL : (upd H1 L (.lst [.str "same", .str "under"])) L = some (.lst [.str "same", .str "under"]) := upd_same
    generalize upd H1 L (.lst [.str "same", .str "under"]) = H4 at ll gL ⊢
    have D4 := D1.go ll
    refine ⟨_, rfl, r, 2, rfl, D4.rl, by decide, by decide, fun j H5 j0 j1 l5 => ?_⟩
    have D5 := D4.go l5
    obtain ⟨kk, hat, hkk⟩ := pick2 (a := .same) (b := .under) j0 j1
    refine ⟨L, _, _, _, rfl, rfl, SqL.of (l5.k _ _ Lr gL), hat, _, rfl, _, rfl, _, rfl, r, nl, d, ns, rfl, D5, d0, d4, fun v e H6 l6 ev is ok dp => ?_⟩
    have D6 := D5.go l6
    refine ⟨_, rfl, _, rfl, _, rfl, r, nl, d, ns, rfl, D6, d0, d4, fun v2 e2 H7 l7 ev2 is2 ok2 dp2 => ⟨(by show 3 ≤ sizeLine; decide), fun p hp => ?_⟩⟩
    have lp : Rl r H7 (upd H7 p (.tup [.str kk.str, v, v2])) := Rl.new l7.rl hp
    refine q (.ref p) (.two kk e e2) _ (l1.trans ((ll.trans l5).trans (l6.trans (l7.trans lp)))) ⟨v, v2, ⟨p, rfl, upd_same⟩, ev.keep (Rl.tk D6.rl (l7.trans lp)), ev2.keep (Rl.tk l7.rl lp)⟩ ?_ ⟨ok, ok2⟩ ?_
    · rcases hkk with rfl | rfl <;> exact ⟨is, is2⟩
    · show max e.dep e2.dep + 1 ≤ d.toNat + 1
      omega
theorem has_cond (s : Src K mg "_law_any_condition" sCond) (TK0 : Has P w K mg base "_law_next" ["pot", "many"] 1 spNext) (SM0 : Has P w K mg base "_law_any_sum" ["pot", "names", "deep"] 6 (spSum 4)) : ∀ n : Nat, Has P w K mg base "_law_any_condition" ["pot", "names", "deep"] (n + 6) (spCond n) := by
  obtain ⟨f, fd, F, m⟩ := s
  have b : Binds K fd ["pot", "names", "deep"] [] := bnd3 F fun _ _ _ _ _ _ _ _ _ => rfl
  intro n
  have all : FnOk P w K mg base CX0 (n + 6) f fd ["pot", "names", "deep"] (spCond n) := by
    induction n with
    | zero => exact none_cond
    | succ n ih => exact ok_cond F TK0 SM0 ⟨f, fd, ih, F.kp, b, m⟩
  exact ⟨f, fd, all, F.kp, b, m⟩
end
end TW
set_option Elab.async false
set_option linter.all false
set_option maxRecDepth 100000
set_option exponentiation.threshold 4000
set_option maxHeartbeats 1000000
namespace TW
open PySem L2
section
variable {P : Program} {w : World} {K : PySem.W.Frag} {mg : Str → Option Value} {base : Heap}
abbrev sNode : Stmt := top 24
abbrev sSomeP : Stmt := top 25
/-! ### nodes that are drawn -/
def Np.leads : Np → List Int
  | .put _ _ n => [n] | .say _ n => [n] | .test _ n o => [n, o] | .pick _ n => [n] | .fin => []
def Np.tolds : Np → List E
  | .put x s _ => [.box "box" x, s] | .say s _ => [s] | .test c _ _ => [c] | .pick x _ => [.box "box" x] | .fin => []
/-- of its kinds: a sum, a condition; no pick -/
def Np.isN : Np → Prop
  | .put _ s _ => s.isS | .say s _ => s.isS | .test c _ _ => c.isC | .pick _ _ => False | .fin => True
structure NpOk (ns : List Str) (m : Int) (e : Np) : Prop where
  is : e.isN
  ld : ∀ l ∈ e.leads, 0 ≤ l ∧ l < m
  td : ∀ x ∈ e.tolds, x.okIn (bxN ns) ∧ x.dep ≤ 3
theorem all1 {α : Type} {P : α → Prop} {a : α} (h : P a) : ∀ x ∈ [a], P x := fun x hx => by rw [List.mem_singleton.mp hx]; exact h
theorem all2 {α : Type} {P : α → Prop} {a b : α} (h : P a) (h2 : P b) : ∀ x ∈ [a, b], P x := fun x hx => by
  rcases List.mem_cons.mp hx with e | hx
  · rw [e]; exact h
  · rw [List.mem_singleton.mp hx]; exact h2
def spNode : Sp := fun vs H Q _ => ∃ (r nl : Addr) (m : Int) (ns : List Str), vs = [.ref r, .ref nl, .int m] ∧ Dr H r nl ns ∧ 0 < m ∧ m ≤ 900 ∧ ∀ (v : V) (e : Np) (H' : Hp), Rl r H H' → NpAt H' v e → NpOk ns m e → Q v H'
theorem scNode : FnScope ["pot", "names", "many", "way", "there", "name", "told"] ["pot", "names", "many"] (defScope sNode) := ⟨rfl, rfl, rfl, by decide +kernel, rfl, by decide +kernel, by decide +kernel⟩
theorem gNode_law_any_condition : (defScope sNode).names.lookup (Str.ofString "_law_any_condition") = some .globalImplicit := by decide +kernel
theorem gNode_law_any_sum : (defScope sNode).names.lookup (Str.ofString "_law_any_sum") = some .globalImplicit := by decide +kernel
theorem gNode_law_next : (defScope sNode).names.lookup (Str.ofString "_law_next") = some .globalImplicit := by decide +kernel
theorem gNode_int : (defScope sNode).names.lookup (Str.ofString "int") = some .globalImplicit := by decide +kernel
theorem gNode_len : (defScope sNode).names.lookup (Str.ofString "len") = some .globalImplicit := by decide +kernel
theorem ok_node {f : Addr} {fd : FuncData} (F : Fun K "_law_one_node" "_law_one_node" sNode f fd) (m_len : mg "len" = none) (m_int : mg "int" = none) (TK0 : Has P w K mg base "_law_next" ["pot", "many"] 1 spNext) (SM0 : Has P w K mg base "_law_any_sum" ["pot", "names", "deep"] 6 (spSum 4)) (CO : Has P w K mg base "_law_any_condition" ["pot", "names", "deep"] 9 (spCond 3)) : FnOk P w K mg base CX0 10 f fd ["pot", "names", "many"] spNode := by
  refine F.ok scNode (fun vs H Q E h => ?_) (fun cdv A outer s H vs Q E hr h => ?_)
  · obtain ⟨r, nl, m, ns, rfl, _⟩ := h
    rfl
  · obtain ⟨r, nl, m, ns, rfl, D, m0, m9, q⟩ := h
    have TK := TK0.mono (show 1 ≤ 9 by decide)
    have SM := SM0.mono (show 6 ≤ 9 by decide)
    refine goL ⟨_, (L3.cons (L3.set 3 scNode.nd (L3.own TK hr gNode_law_next (L3.k (L3.v 0) (L3.k L3.int L3.n))))
      (L3.cons (L3.set 4 scNode.nd (L3.own TK hr gNode_law_next (L3.k (L3.v 0) (L3.k (L3.v 2) L3.n))))
      (L3.cons (L3.ifs (L3.tw (L3.and2 (L3.cmp L3.o_lt (L3.v 3) L3.int) (L3.and1 (L3.cmp (L3.o_neD (m := 2) (up_ne hr _ (by decide))) (L3.v 1) (L3.lst L3.n))))) (L3.cons (L3.set 5 scNode.nd (L3.ix L3.ixL (L3.v 1) (L3.own TK hr gNode_law_next (L3.k (L3.v 0) (L3.k (L3.callB L3.c_len gNode_len m_len PySem.boot_len (L3.k (L3.v 1) L3.n)) L3.n)))))
      (L3.cons (L3.set 6 scNode.nd (L3.own SM hr gNode_law_any_sum (L3.k (L3.v 0) (L3.k (L3.v 1) (L3.k L3.int L3.n)))))
      (L3.cons (L3.ifs (L3.cmp L3.o_eq (L3.own TK hr gNode_law_next (L3.k (L3.v 0) (L3.k L3.int L3.n))) L3.int) (L3.one (L3.set 6 scNode.nd (L3.tup (L3.k L3.str (L3.k (L3.v 5) L3.n))))) L3.nil)
      (L3.one (L3.ret (L3.tup (L3.k L3.str (L3.k (L3.v 5) (L3.k (L3.v 6) (L3.k (L3.v 4) L3.n)))))))))) L3.nil)
      (L3.cons (L3.ifs (L3.cmp L3.o_lt (L3.v 3) L3.int) (L3.one (L3.ret (L3.tup (L3.k L3.str (L3.k (L3.own SM hr gNode_law_any_sum (L3.k (L3.v 0) (L3.k (L3.v 1) (L3.k L3.int L3.n)))) (L3.k (L3.v 4) L3.n)))))) L3.nil)
      (L3.cons (L3.ifs (L3.cmp L3.o_eq (L3.v 3) L3.int) (L3.one (L3.ret (L3.tup (L3.k L3.str L3.n)))) L3.nil)
      (L3.one (L3.ret (L3.tup (L3.k L3.str (L3.k (L3.own CO hr gNode_law_any_condition (L3.k (L3.v 0) (L3.k (L3.v 1) (L3.k L3.int L3.n)))) (L3.k (L3.v 4) (L3.k (L3.ix L3.ixL (L3.lst (L3.k (L3.v 4) (L3.k (L3.own TK hr gNode_law_next (L3.k (L3.v 0) (L3.k (L3.v 2) L3.n))) L3.n))) (L3.callT L3.c_int gNode_int m_int (by decide +kernel) (L3.k (L3.cmpE L3.o_gt (L3.own TK hr gNode_law_next (L3.k (L3.v 0) (L3.k L3.int L3.n))) L3.int) L3.n))) L3.n)))))))))))), ?_⟩
    refine cut2 fun Rk kR => ?_
    refine ⟨_, rfl, r, 10, rfl, D.rl, by decide, by decide, fun k H1 k0 k1 l1 => ?_⟩
    have D1 := D.go l1
    refine gn_go ?_
    refine ⟨_, rfl, _, rfl, r, m, rfl, D1.rl, m0, Int.lt_of_le_of_lt m9 (by decide), fun to H2 t0 t1 l2 => ?_⟩
    have D2 := D1.go l2
    have l02 := l1.trans l2
    clear D1 l1 l2
    refine gn_go ?_
    refine kR _ _ ?_
    refine normS [some (.ref r), some (.ref nl), some (.int m), some (.int k), some (.int to), none, none] rfl ?_
    refine cut1 fun Rk kR => ?_
    suffices hs : ∀ H3, Rl r H2 H3 → Rk [some (.ref r), some (.ref nl), some (.int m), some (.int k), some (.int to), none, none] H3 by
      refine ⟨_, rfl, _, _, rfl, rfl, _, rfl, ite2 (fun _ => ?_) (fun _ => iteF (hs _ (Rl.refl D2.rl)))⟩
      refine ⟨_, rfl, (by show 0 ≤ sizeLine; decide), fun z hz => ?_⟩
      have lz : Rl r H2 (upd H2 z (.lst [])) := Rl.new D2.rl hz
      have gz : (upd H2 z (.lst [])) z = some (.lst []) := upd_same
      generalize upd H2 z (.lst []) = H3 at lz gz ⊢
      have D3 := D2.go lz
      refine ⟨_, RB.nil (SqL.of D3.hn) (SqL.of gz), _, rfl, ite2 (fun c => ?_) (fun _ => hs _ lz)⟩
      have hpos : 0 < ns.length := by
        cases ns with
        | nil => exact absurd c (by decide)
        | cons a l => exact Nat.succ_pos _
      have l4 := D.l4
      clear hs kR
      refine cut1 fun Rk kR => ?_
      refine ⟨_, rfl, _, rfl, _, rfl, nl, _, rfl, .inl (SqL.of D3.hn), r, _, rfl, D3.rl, by rw [List.length_map]; omega, by rw [List.length_map]; exact Int.lt_of_le_of_lt (show _ ≤ (4 : Int) by omega) (by decide), fun j H4 j0 j1 l4 => ?_⟩
      rw [List.length_map] at j1
      obtain ⟨x, _, hxm, hat⟩ := atI_get V.str ns j0 j1
      have D4 := D3.go l4
      refine ⟨nl, _, _, _, rfl, rfl, SqL.of D4.hn, hat, ?_⟩
      refine gn_go ?_
      refine kR _ _ ?_
      refine normS [some (.ref r), some (.ref nl), some (.int m), some (.int k), some (.int to), some (.str x), none] rfl ?_
      refine cut1 fun Rk kR => ?_
      refine ⟨_, rfl, _, rfl, r, nl, 2, ns, rfl, D4, by decide, by decide, fun v e H5 l5 ev is ok dp => ?_⟩
      have D5 := D4.go l5
      refine gn_go ?_
      refine kR _ _ ?_
      refine normS [some (.ref r), some (.ref nl), some (.int m), some (.int k), some (.int to), some (.str x), some v] rfl ?_
      refine cut1 fun Rk kR => ?_
      have dp : e.dep ≤ 2 := dp
      suffices hv : ∀ (v : V) (e : TW.E) (H6 : Hp), Rl r H5 H6 → EAt H6 v e → e.isS → e.okIn (bxN ns) → e.dep ≤ 2 → Rk [some (.ref r), some (.ref nl), some (.int m), some (.int k), some (.int to), some (.str x), some v] H6 by
        refine ⟨_, rfl, r, 4, rfl, D5.rl, by decide, by decide, fun j H6 j0 j1 l6 => ⟨rfl, _, rfl, ite2 (fun _ => ?_) (fun _ => hv v e _ l6 (ev.keep (Rl.tk D5.rl l6)) is ok dp)⟩⟩
        refine ⟨_, rfl, (by show 2 ≤ sizeLine; decide), fun p hp => ?_⟩
        refine gn_go ?_
        exact hv (.ref p) (.box "box" x) _ (l6.trans (Rl.new l6.rl hp)) ⟨p, rfl, upd_same⟩ True.intro ⟨rfl, hxm⟩ (Nat.zero_le _)
      clear ev is ok

      intro v e H6 l6 ev is ok dp
      refine kR _ _ ?_
      refine ⟨_, rfl, _, rfl, _, rfl, (by show 4 ≤ sizeLine; decide), fun p hp => ?_⟩
      have lp : Rl r H6 (upd H6 p (.tup [.str "put", .str x, v, .int to])) := Rl.new l6.rl hp
      exact q (.ref p) (.put x e to) _ (l02.trans (lz.trans (l4.trans (l5.trans (l6.trans lp))))) ⟨v, ⟨p, rfl, upd_same⟩, ev.keep (Rl.tk l6.rl lp)⟩ ⟨is, all1 ⟨t0, t1⟩, all2 ⟨⟨rfl, hxm⟩, Nat.zero_le _⟩ ⟨ok, by omega⟩⟩
    intro H3 l23
    replace l02 := l02.trans l23
    replace D2 := D2.go l23
    clear l23
    refine kR _ _ ?_
    refine cut1 fun Rk kR => ?_
    refine ⟨_, rfl, _, _, rfl, rfl, _, rfl, ite2 (fun _ => ?_) (fun _ => ?_)⟩
    · refine ⟨_, rfl, _, rfl, r, nl, 2, ns, rfl, D2, by decide, by decide, fun v e H5 l5 ev is ok dp => ?_⟩
      refine ⟨_, rfl, (by show 3 ≤ sizeLine; decide), fun p hp => ?_⟩
      have lp : Rl r H5 (upd H5 p (.tup [.str "say", v, .int to])) := Rl.new l5.rl hp
      have dp : e.dep ≤ 2 := dp
      exact q (.ref p) (.say e to) _ (l02.trans (l5.trans lp)) ⟨v, ⟨p, rfl, upd_same⟩, ev.keep (Rl.tk l5.rl lp)⟩ ⟨is, all1 ⟨t0, t1⟩, all1 ⟨ok, by omega⟩⟩
    refine kR _ _ ?_
    refine cut1 fun Rk kR => ?_
    refine ⟨_, rfl, rfl, _, rfl, ite2 (fun _ => ?_) (fun _ => ?_)⟩
    · refine ⟨(by show 1 ≤ sizeLine; decide), fun p hp => ?_⟩
      exact q (.ref p) .fin _ (l02.trans (Rl.new D2.rl hp)) ⟨p, rfl, upd_same⟩ ⟨True.intro, (fun _ z => nomatch z), (fun _ z => nomatch z)⟩
    refine kR _ _ ?_
    refine ⟨_, rfl, _, rfl, r, nl, 2, ns, rfl, D2, by decide, by decide, by decide, fun v e H5 l5 ev is ok dp => ?_⟩
    have D5 := D2.go l5
    have dp : e.dep ≤ 3 := dp
    refine ⟨_, rfl, _, rfl, _, rfl, _, rfl, r, m, rfl, D5.rl, m0, Int.lt_of_le_of_lt m9 (by decide), fun o H6 o0 o1 l6 => ?_⟩
    refine ⟨(by show 2 ≤ sizeLine; decide), fun L hL => ?_⟩
    have Lr : L ≠ r := l6.rl.ne hL
    have ll : Rl r H6 (upd H6 L (.lst [.int to, .int o])) := Rl.new l6.rl hL
    have gL : (upd H6 L (.lst [.int to, .int o])) L = some (.lst [.int to, .int o]) := upd_same
    generalize upd H6 L (.lst [.int to, .int o]) = H7 at ll gL ⊢
    refine ⟨_, rfl, r, 3, rfl, ll.rl, by decide, by decide, fun j H8 j0 j1 l8 => ⟨_, _, rfl, rfl, .inr ⟨_, rfl, ?_⟩⟩⟩
    obtain ⟨oo, hat, oo0, oo1⟩ : ∃ oo : Int, atI [V.int to, V.int o] (if decide (0 < j) = true then (1 : Int) else 0) = some (.int oo) ∧ 0 ≤ oo ∧ oo < m := by
      split
      · exact ⟨o, rfl, o0, o1⟩
      · exact ⟨to, rfl, t0, t1⟩
    refine ⟨L, _, _, _, rfl, rfl, SqL.of (l8.k _ _ Lr gL), hat, (by show 4 ≤ sizeLine; decide), fun p hp => ?_⟩
    have lp : Rl r H8 (upd H8 p (.tup [.str "test", v, .int to, .int oo])) := Rl.new l8.rl hp
    have l58 := l6.trans (ll.trans (l8.trans lp))
    exact q (.ref p) (.test e to oo) _ (l02.trans (l5.trans l58)) ⟨v, ⟨p, rfl, upd_same⟩, ev.keep (Rl.tk D5.rl l58)⟩ ⟨is, all2 ⟨t0, t1⟩ ⟨oo0, oo1⟩, all1 ⟨ok, by omega⟩⟩
theorem has_node (s : Src K mg "_law_one_node" sNode) (m_len : mg "len" = none) (m_int : mg "int" = none) (TK0 : Has P w K mg base "_law_next" ["pot", "many"] 1 spNext) (SM0 : Has P w K mg base "_law_any_sum" ["pot", "names", "deep"] 6 (spSum 4)) (CO : Has P w K mg base "_law_any_condition" ["pot", "names", "deep"] 9 (spCond 3)) : Has P w K mg base "_law_one_node" ["pot", "names", "many"] 10 spNode :=
  let ⟨f, fd, F, m⟩ := s
  ⟨f, fd, ok_node F m_len m_int TK0 SM0 CO, F.kp, bnd3 F fun _ _ _ _ _ _ _ _ _ => rfl, m⟩
theorem ins_nd {ins : List Str} {x : Str} (h : ins.Nodup) (n : x ∉ ins) (i : Nat) : (ins.take i ++ x :: ins.drop i).Nodup := by
  rw [List.nodup_append, List.nodup_cons]
  refine ⟨h.sublist (List.take_sublist _ _), ⟨fun z => n (List.mem_of_mem_drop z), h.sublist (List.drop_sublist _ _)⟩, fun a ha b hb e => ?_⟩
  rcases List.mem_cons.mp hb with z | z
  · exact n (by rw [← z, ← e]; exact List.mem_of_mem_take ha)
  · have hd := h
    rw [← List.take_append_drop i ins, List.nodup_append] at hd
    exact hd.2.2 a ha b z e
theorem ins_mem {ins : List Str} {x y : Str} {i : Nat} : y ∈ ins.take i ++ x :: ins.drop i → y = x ∨ y ∈ ins := fun h => by
  rcases List.mem_append.mp h with z | z
  · exact .inr (List.mem_of_mem_take z)
  · rcases List.mem_cons.mp z with z | z
    · exact .inl z
    · exact .inr (List.mem_of_mem_drop z)
/-! ### _law_some_program -/
structure PrD (r : Addr) (H : Hp) (B I N : Addr) (vb vn : List V) (bs : List (Str × Int)) (ins : List Str) (nds : List Np) : Prop where
  hB : H B = some (.lst vb)
  hI : H I = some (.lst (ins.map V.str))
  hN : H N = some (.lst vn)
  pb : Paired (BoxAt H) vb bs
  pn : Paired (NpAt H) vn nds
  nB : B ≠ r
  nI : I ≠ r
  nN : N ≠ r
theorem PrD.go {r : Addr} {H H1 : Hp} {B I N : Addr} {vb vn : List V} {bs : List (Str × Int)} {ins : List Str} {nds : List Np} (h : PrD r H B I N vb vn bs ins nds) (rl : Reel H r) (l : Rl r H H1) : PrD r H1 B I N vb vn bs ins nds :=
  ⟨l.k _ _ h.nB h.hB, l.k _ _ h.nI h.hI, l.k _ _ h.nN h.hN, Paired.mapP h.pb fun _ _ z => Tp.keep (Rl.tk rl l) z, Paired.mapP h.pn fun _ _ z => NpAt.keep (Rl.tk rl l) z, h.nB, h.nI, h.nN⟩
structure PgOk (most longest : Int) (bs : List (Str × Int)) (ins : List Str) (nds : List Np) : Prop where
  bx : BsOk most bs
  ind : ins.Nodup
  sub : ∀ x ∈ ins, x ∈ bs.map (·.1)
  one : 1 ≤ nds.length
  few : (nds.length : Int) ≤ longest
  nd : ∀ e ∈ nds, NpOk (bs.map (·.1)) (nds.length : Int) e
def spSomeP : Sp := fun vs H Q _ => ∃ (r : Addr) (most wide longest : Int), vs = [.ref r, .int most, .int wide, .int longest] ∧ Reel H r ∧ 1 ≤ most ∧ most ≤ 65536 ∧ 1 ≤ wide ∧ wide ≤ 16 ∧ 1 ≤ longest ∧ longest ≤ 40 ∧ ∀ (p B I N : Addr) (vb vn : List V) (bs : List (Str × Int)) (ins : List Str) (nds : List Np) (H' : Hp), Rl r H H' → H' p = some (.tup [.ref B, .ref I, .ref N]) → PrD r H' B I N vb vn bs ins nds → PgOk most longest bs ins nds → Q (.ref p) H'
theorem scSomeP : FnScope ["pot", "most", "wide", "longest", "boxes", "names", "inputs", "name", "many"] ["pot", "most", "wide", "longest"] (defScope sSomeP) := ⟨rfl, rfl, rfl, by decide +kernel, rfl, by decide +kernel, by decide +kernel⟩
theorem gSomeP_law_next : (defScope sSomeP).names.lookup (Str.ofString "_law_next") = some .globalImplicit := by decide +kernel
theorem gSomeP_law_some_boxes : (defScope sSomeP).names.lookup (Str.ofString "_law_some_boxes") = some .globalImplicit := by decide +kernel
theorem gSomeP_len : (defScope sSomeP).names.lookup (Str.ofString "len") = some .globalImplicit := by decide +kernel
theorem gSomeP_range : (defScope sSomeP).names.lookup (Str.ofString "range") = some .globalImplicit := by decide +kernel
theorem ok_someP {f : Addr} {fd : FuncData} (F : Fun K "_law_some_program" "_law_some_program" sSomeP f fd) (m_len : mg "len" = none) (m_range : mg "range" = none) (TK0 : Has P w K mg base "_law_next" ["pot", "many"] 1 spNext) (SB0 : Has P w K mg base "_law_some_boxes" ["pot", "most", "wide"] 2 spSomeB) (NO : Has P w K mg base "_law_one_node" ["pot", "names", "many"] 10 spNode) : FnOk P w K mg base CX0 11 f fd ["pot", "most", "wide", "longest"] spSomeP := by
  refine F.ok scSomeP (fun vs H Q E h => ?_) (fun cdv A outer s H vs Q E hr h => ?_)
  · obtain ⟨r, most, wide, longest, rfl, _⟩ := h
    rfl
  · obtain ⟨r, most, wide, longest, rfl, rl, mo1, mo9, w1, w9, g1, g9, q⟩ := h
    have TK := TK0.mono (show 1 ≤ 10 by decide)
    have SB := SB0.mono (show 2 ≤ 10 by decide)
    refine goL ⟨_, (L3.cons (L3.set 4 scSomeP.nd (L3.own SB hr gSomeP_law_some_boxes (L3.k (L3.v 0) (L3.k (L3.v 1) (L3.k (L3.v 2) L3.n)))))
      (L3.cons (L3.set 5 scSomeP.nd (L3.lc [none, none] ["name", "size"] (show CompScope _ (defScope sSomeP) from ⟨rfl, by decide +kernel, by decide +kernel, by decide +kernel⟩) (by rfl) (L3.iL (L3.v 4)) (fun _ _ _ _ _ => ⟨(L3.gtup 2 (L3.gsk (L3.gn 0 (show (["name", "size"] : List Str).Nodup from by decide +kernel)) (L3.gsk (L3.gn 1 (show (["name", "size"] : List Str).Nodup from by decide +kernel)) L3.gsn))), L3.if0, (L3.v 0)⟩)))
      (L3.cons (L3.set 6 scSomeP.nd (L3.lst L3.n))
      (L3.cons (L3.for_ (L3.iL (L3.v 5)) (L3.gn 7 scSomeP.nd) (L3.one (L3.ifs (L3.cmp L3.o_eq (L3.own TK hr gSomeP_law_next (L3.k (L3.v 0) (L3.k L3.int L3.n))) L3.int) (L3.one (L3.ex (L3.insert (L3.v 6) (L3.k (L3.own TK hr gSomeP_law_next (L3.k (L3.v 0) (L3.k (L3.op L3.o_add (L3.callB L3.c_len gSomeP_len m_len PySem.boot_len (L3.k (L3.v 6) L3.n)) L3.int) L3.n))) (L3.k (L3.v 7) L3.n))))) L3.nil)))
      (L3.cons (L3.set 8 scSomeP.nd (L3.op L3.o_add L3.int (L3.own TK hr gSomeP_law_next (L3.k (L3.v 0) (L3.k (L3.v 3) L3.n)))))
      (L3.one (L3.ret (L3.tup (L3.k (L3.v 4) (L3.k (L3.v 6) (L3.k (L3.lc [none, some 0, some 5, some 8] ["k", "pot", "names", "many"] (show CompScope _ (defScope sSomeP) from ⟨rfl, by decide +kernel, by decide +kernel, by decide +kernel⟩) (by rfl) (L3.iR gSomeP_range m_range (L3.k (L3.v 8) L3.n)) (fun _ _ _ _ _ => ⟨(L3.gn 0 (show (["k", "pot", "names", "many"] : List Str).Nodup from by decide +kernel)), L3.if0, (L3.own NO hr (by rfl) (L3.k (L3.v 1) (L3.k (L3.v 2) (L3.k (L3.v 3) L3.n))))⟩)) L3.n))))))))))), ?_⟩
    refine cut1 fun Rk kR => ?_
    refine ⟨_, rfl, _, rfl, _, rfl, r, most, wide, rfl, rl, mo1, mo9, w1, w9, fun B vb bs H1 l1 nB hB0 hB pb ob => ?_⟩
    refine gn_go ?_
    refine kR _ _ ?_
    refine normS [some (.ref r), some (.int most), some (.int wide), some (.int longest), some (.ref B), none, none, none, none] rfl ?_
    have vbl := Paired.length pb
    have b4 := ob.l4
    refine cut1 fun Rk kR => ?_
    refine ⟨_, rfl, B, rfl, ⟨_, SqL.of hB⟩, fun nl hnl => ?_⟩
    have nlr : nl ≠ r := l1.rl.ne hnl
    refine comp_list (xs := vb) (fun (i : Nat) Hx => Same H1 Hx ∧ Hx nl = some (.lst (((bs.map (·.1)).take i).map V.str))) ⟨same_new hnl _, upd_same⟩ (fun i Hx _ z => SqL.of (z.1 _ _ hB)) (fun i x0 Hx hx z => ?_) (fun H2 z => ?_)
    · obtain ⟨sx, gD⟩ := z
      have hil := (List.getElem?_eq_some_iff.mp hx).1
      obtain ⟨b, hbi, pp, rfl, hpp⟩ := Paired.get pb hx
      refine ⟨pp, _, rfl, SqT.of (sx _ _ hpp), rfl, _, _, rfl, _, _, rfl, rfl, ?_⟩
      refine turn0 (A := fun H5 => mApp _ nl _ H5 _) ?_
      refine ⟨_, rfl, _, gD, small1000 (by rw [List.length_map, List.length_take]; omega), comp_end (Pv := fun (i : Nat) Hx => Same H1 Hx ∧ Hx nl = some (.lst (((bs.map (·.1)).take i).map V.str))) (by repeat' constructor) hil ⟨same_put sx hnl, ?_⟩⟩
      rw [upd_same, List.take_add_one, List.getElem?_map, hbi, List.map_append]
      rfl
    obtain ⟨s2, gn⟩ := z
    rw [vbl, List.take_of_length_le (by rw [List.length_map]; exact Nat.le_refl _)] at gn
    have l2 : Rl r H1 H2 := Rl.of l1.rl s2
    have D2 : Dr H2 r nl (bs.map (·.1)) := ⟨l2.rl, nlr, gn, by rw [List.length_map]; exact b4⟩
    refine gn_go ?_
    refine kR _ _ ?_
    refine normS [some (.ref r), some (.int most), some (.int wide), some (.int longest), some (.ref B), some (.ref nl), none, none, none] rfl ?_
    refine cut1 fun Rk kR => ?_
    refine ⟨(by show 0 ≤ sizeLine; decide), fun I hI => ?_⟩
    have Ir : I ≠ r := l2.rl.ne hI
    have lI : Rl r H2 (upd H2 I (.lst [])) := Rl.new l2.rl hI
    have gI : (upd H2 I (.lst [])) I = some (.lst []) := upd_same
    generalize upd H2 I (.lst []) = H3 at lI gI ⊢
    refine gn_go ?_
    refine kR _ _ ?_
    refine normS [some (.ref r), some (.int most), some (.int wide), some (.int longest), some (.ref B), some (.ref nl), some (.ref I), none, none] rfl ?_
    refine cut1 fun Rk kR => ?_
    refine ⟨_, rfl, nl, rfl, ⟨_, SqL.of (D2.go lI).hn⟩, ?_⟩
    refine for_list (xs := (bs.map (·.1)).map V.str) (fun (i : Nat) (σ : L2.St) (Hy : Hp) => (∃ o7, σ = [some (.ref r), some (.int most), some (.int wide), some (.int longest), some (.ref B), some (.ref nl), some (.ref I), o7, none]) ∧ Rl r H2 Hy ∧ ∃ ins, Hy I = some (.lst (ins.map V.str)) ∧ ins.Nodup ∧ ins.length ≤ i ∧ ∀ y ∈ ins, y ∈ (bs.map (·.1)).take i) ⟨⟨_, rfl⟩, lI, [], gI, List.nodup_nil, Nat.le_refl _, fun y hy => nomatch hy⟩ (fun i σ Hy _ z => SqL.of (D2.go z.2.1).hn) (fun i x0 σ Hy hx z => ?_) (fun σ Hy z => ?_)
    · obtain ⟨⟨o7, rfl⟩, ly, ins, gi, ni, il, sub⟩ := z
      obtain ⟨x, hxi, rfl⟩ := map_get hx
      have inl : i < (bs.map (·.1)).length := (List.getElem?_eq_some_iff.mp hxi).1
      have nl4 := D2.l4
      have up : ∀ y, y ∈ (bs.map (·.1)).take i → y ∈ (bs.map (·.1)).take (i + 1) := fun y hy => by rw [List.take_add_one]; exact List.mem_append.mpr (.inl hy)
      refine gn_go ?_
      refine normS [some (.ref r), some (.int most), some (.int wide), some (.int longest), some (.ref B), some (.ref nl), some (.ref I), some (.str x), none] rfl ?_
      refine ⟨_, rfl, r, 2, rfl, ly.rl, by decide, by decide, fun j H4 j0 j1 l4 => ⟨rfl, _, rfl, ?_⟩⟩
      have gi4 := l4.k _ _ Ir gi
      refine ite2 (fun _ => ?_) (fun _ => ?_)
      · refine ⟨_, rfl, .inl ⟨rfl, _, SqL.of gi4⟩, _, rfl, _, rfl, I, _, rfl, .inl (SqL.of gi4), _, _, rfl, rfl, r, _, rfl, l4.rl, by rw [List.length_map]; omega, by rw [List.length_map]; exact Int.lt_of_le_of_lt (show _ ≤ (5 : Int) by omega) (by decide), fun k H5 k0 k1 l5 => ?_⟩
        rw [List.length_map] at k1
        have gi5 := l5.k _ _ Ir gi4
        have nx : x ∉ ins := fun z => by
          obtain ⟨j, hj, e⟩ := List.getElem_of_mem (sub x z)
          rw [List.length_take] at hj
          rw [List.getElem_take] at e
          have e1 : (bs.map (·.1))[j]? = some x := by rw [List.getElem?_eq_getElem (by omega), e]
          have := (List.getElem?_inj (by omega) ob.nd).mp (e1.trans hxi.symm)
          omega
        have l45 := l4.trans l5
        refine ⟨_, rfl, I, _, _, k, rfl, rfl, gi5, k0, by rw [List.length_map]; omega, by rw [List.length_map]; omega, ⟨_, rfl⟩, (ly.trans l45).put Ir hI, ins.take k.toNat ++ x :: ins.drop k.toNat, ?_, ins_nd ni nx _, ?_, fun y hy => ?_⟩
        · rw [upd_same, List.map_append, List.map_take, List.map_cons, List.map_drop]
        · rw [List.length_append, List.length_cons, List.length_take, List.length_drop]
          omega
        · rcases ins_mem hy with z | z
          · rw [z, List.take_add_one, hxi]; exact List.mem_append.mpr (.inr List.mem_cons_self)
          · exact up y (sub y z)
      · exact ⟨⟨_, rfl⟩, ly.trans l4, ins, gi4, ni, by omega, fun y hy => up y (sub y hy)⟩
    obtain ⟨⟨o7, rfl⟩, ly, ins, gi, ni, il, sub⟩ := z
    rw [List.length_map, List.take_length] at sub
    refine kR _ _ ?_
    refine cut1 fun Rk kR => ?_
    refine ⟨_, rfl, _, rfl, r, longest, rfl, ly.rl, by omega, Int.lt_of_le_of_lt g9 (by decide), fun k H4 k0 k1 l4 => ⟨_, _, rfl, rfl, ?_⟩⟩
    obtain ⟨m, em⟩ : ∃ m, m = 1 + k := ⟨_, rfl⟩
    refine gn_go ?_
    refine kR _ _ ?_
    refine normS [some (.ref r), some (.int most), some (.int wide), some (.int longest), some (.ref B), some (.ref nl), some (.ref I), o7, some (.int m)] (by rw [em]; rfl) ?_
    have l24 := ly.trans l4
    have D4 := D2.go l24
    refine ⟨_, rfl, _, rfl, _, rfl, m, rfl, by omega, by omega, fun N hN => ?_⟩
    have Nr : N ≠ r := l4.rl.ne hN
    refine comp_range (lo := 0) (n := m.toNat) (fun (i : Nat) Hx => Rl r H4 Hx ∧ ∃ vn nds, Hx N = some (.lst vn) ∧ vn.length = i ∧ Paired (NpAt Hx) vn nds ∧ ∀ e ∈ nds, NpOk (bs.map (·.1)) m e) ⟨Rl.new l4.rl hN, [], [], upd_same, rfl, .nil, fun _ z => nomatch z⟩ (fun i Hx hi z => ?_) (fun Hx z => ?_)
    · obtain ⟨lx, vn, nds, gN, vl, pn, on⟩ := z
      refine gn_go ?_
      refine turn0 (A := fun H5 => mApp _ N _ H5 _) ?_
      refine ⟨_, rfl, _, rfl, _, rfl, r, nl, m, _, rfl, D4.go lx, by omega, by omega, fun v e H5 l5 nv ok => ?_⟩
      have gN5 := l5.k _ _ Nr gN
      refine ⟨_, gN5, small1000 (by omega), comp_end (Pv := fun (i : Nat) Hx => Rl r H4 Hx ∧ ∃ vn nds, Hx N = some (.lst vn) ∧ vn.length = i ∧ Paired (NpAt Hx) vn nds ∧ ∀ e ∈ nds, NpOk (bs.map (·.1)) m e) (by repeat' constructor) hi ⟨Rl.put (lx.trans l5) Nr hN, vn ++ [v], nds ++ [e], upd_same, by rw [List.length_append, vl]; rfl, ?_, fun e' he' => ?_⟩⟩
      · exact Paired.snoc (Paired.mapP pn fun _ _ z => NpAt.keep ((Rl.tk lx.rl l5).trans (TW.TK.lst gN5)) z) (NpAt.keep (TW.TK.lst gN5) nv)
      · rcases List.mem_append.mp he' with z | z
        · exact on e' z
        · rw [List.mem_singleton.mp z]; exact ok
    obtain ⟨lx, vn, nds, gN, vl, pn, on⟩ := z
    have ndl := Paired.length pn
    refine ⟨(by show 3 ≤ sizeLine; decide), fun p hp => ?_⟩
    have lp : Rl r Hx (upd Hx p (.tup [.ref B, .ref I, .ref N])) := Rl.new lx.rl hp
    have l1x : Rl r H1 Hx := l2.trans (l24.trans lx)
    have l2x := l24.trans lx
    have em2 : m = (nds.length : Int) := by omega
    refine q p B I N vb vn bs ins nds _ (l1.trans (l1x.trans lp)) upd_same (PrD.go ⟨l1x.k _ _ nB hB, (l4.trans lx).k _ _ Ir gi, gN, Paired.mapP pb fun _ _ z => Tp.keep (Rl.tk l1.rl l1x) z, pn, nB, Ir, Nr⟩ lx.rl lp) ⟨ob, ni, sub, by omega, by omega, fun e he => by rw [← em2]; exact on e he⟩
theorem has_someP (s : Src K mg "_law_some_program" sSomeP) (m_len : mg "len" = none) (m_range : mg "range" = none) (TK0 : Has P w K mg base "_law_next" ["pot", "many"] 1 spNext) (SB0 : Has P w K mg base "_law_some_boxes" ["pot", "most", "wide"] 2 spSomeB) (NO : Has P w K mg base "_law_one_node" ["pot", "names", "many"] 10 spNode) : Has P w K mg base "_law_some_program" ["pot", "most", "wide", "longest"] 11 spSomeP :=
  let ⟨f, fd, F, m⟩ := s
  ⟨f, fd, ok_someP F m_len m_range TK0 SB0 NO, F.kp, bnd4 F fun _ _ _ _ _ _ _ _ _ _ => rfl, m⟩
end
end TW
set_option Elab.async false
set_option linter.all false
set_option maxRecDepth 100000
set_option exponentiation.threshold 4000
set_option maxHeartbeats 1000000
namespace TW
open PySem L2
section
variable {P : Program} {w : World} {K : PySem.W.Frag} {mg : Str → Option Value} {base : Heap}
abbrev sCopy : Stmt := top 26
abbrev sLed : Stmt := top 27
/-! ### _law_copy -/
def spCopy : Sp := fun vs H Q _ => ∃ (p B I N : Addr) (vb vi vn : List V), vs = [.ref p] ∧ H p = some (.tup [.ref B, .ref I, .ref N]) ∧ H B = some (.lst vb) ∧ H I = some (.lst vi) ∧ H N = some (.lst vn) ∧ ∀ (p' B' I' N' : Addr) (H' : Hp), Same H H' → H' p' = some (.tup [.ref B', .ref I', .ref N']) → H' B' = some (.lst vb) → H' I' = some (.lst vi) → H' N' = some (.lst vn) → H B' = none → H I' = none → H N' = none → Q (.ref p') H'
theorem scCopy : FnScope ["program"] ["program"] (defScope sCopy) := ⟨rfl, rfl, rfl, by decide +kernel, rfl, by decide +kernel, by decide +kernel⟩
theorem gCopy_list : (defScope sCopy).names.lookup (Str.ofString "list") = some .globalImplicit := by decide +kernel
theorem ok_copy {f : Addr} {fd : FuncData} (F : Fun K "_law_copy" "_law_copy" sCopy f fd) (m_list : mg "list" = none) : FnOk P w K mg base CX0 1 f fd ["program"] spCopy := by
  refine F.ok scCopy (fun vs H Q E h => ?_) (fun cdv A outer s H vs Q E hr h => ?_)
  · obtain ⟨p, B, I, N, vb, vi, vn, rfl, _⟩ := h
    rfl
  · obtain ⟨p, B, I, N, vb, vi, vn, rfl, hp, hB, hI, hN, q⟩ := h
    refine goL ⟨_, (L3.one (L3.ret (L3.tup (L3.k (L3.callT L3.c_list gCopy_list m_list (by decide +kernel) (L3.k (L3.ix L3.ixT (L3.v 0) L3.int) L3.n)) (L3.k (L3.callT L3.c_list gCopy_list m_list (by decide +kernel) (L3.k (L3.ix L3.ixT (L3.v 0) L3.int) L3.n)) (L3.k (L3.callT L3.c_list gCopy_list m_list (by decide +kernel) (L3.k (L3.ix L3.ixT (L3.v 0) L3.int) L3.n)) L3.n)))))), ?_⟩
    refine ⟨_, rfl, p, _, _, _, rfl, rfl, SqT.of hp, rfl, B, _, rfl, .inl (SqL.of hB), fun B' hB' => ?_⟩
    have sb : Same H (upd H B' (.lst vb)) := same_new hB' _
    have gb : (upd H B' (.lst vb)) B' = some (.lst vb) := upd_same
    generalize upd H B' (.lst vb) = H1 at sb gb ⊢
    refine ⟨_, rfl, p, _, _, _, rfl, rfl, SqT.of (sb _ _ hp), rfl, I, _, rfl, .inl (SqL.of (sb _ _ hI)), fun I' hI' => ?_⟩
    have si : Same H1 (upd H1 I' (.lst vi)) := same_new hI' _
    have gi : (upd H1 I' (.lst vi)) I' = some (.lst vi) := upd_same
    generalize upd H1 I' (.lst vi) = H2 at si gi ⊢
    have sbi := same_trans sb si
    refine ⟨_, rfl, p, _, _, _, rfl, rfl, SqT.of (sbi _ _ hp), rfl, N, _, rfl, .inl (SqL.of (sbi _ _ hN)), fun N' hN' => ?_⟩
    have sn : Same H2 (upd H2 N' (.lst vn)) := same_new hN' _
    have gn : (upd H2 N' (.lst vn)) N' = some (.lst vn) := upd_same
    generalize upd H2 N' (.lst vn) = H3 at sn gn ⊢
    refine ⟨(by show 3 ≤ sizeLine; decide), fun p' hp' => ?_⟩
    have s4 := same_new hp' (.tup [.ref B', .ref I', .ref N'])
    exact q p' B' I' N' _ (same_trans sbi (same_trans sn s4)) upd_same (s4 _ _ (sn _ _ (si _ _ gb))) (s4 _ _ (sn _ _ gi)) (s4 _ _ gn) hB' (none_of_same sb hI') (none_of_same sbi hN')
theorem has_copy (s : Src K mg "_law_copy" sCopy) (m_list : mg "list" = none) : Has P w K mg base "_law_copy" ["program"] 1 spCopy :=
  let ⟨f, fd, F, m⟩ := s
  ⟨f, fd, ok_copy F m_list, F.kp, bnd1 F fun _ _ _ _ _ _ _ => rfl, m⟩
/-! ### _law_led -/
def Np.led : Np → List Int → Np
  | .put x s n, l => .put x s ((l[0]?).getD n)
  | .say s n, l => .say s ((l[0]?).getD n)
  | .test c n o, l => .test c ((l[0]?).getD n) ((l[1]?).getD o)
  | .pick x n, l => .pick x ((l[0]?).getD n)
  | .fin, _ => .fin
def spLed : Sp := fun vs H Q _ => ∃ (v : V) (l : Addr) (e : Np) (cs : List Int) (ls : List Int), vs = [v, .ref l] ∧ NpAt H v e ∧ e.isN ∧ H l = some (.lst (cs.map V.int)) ∧ ls.length = e.leads.length ∧ (∀ (i : Nat) (a b : Int), e.leads[i]? = some a → ls[i]? = some b → 0 ≤ a ∧ cs[a.toNat]? = some b) ∧ ∀ (v' : V) (H' : Hp), Same H H' → NpAt H' v' (e.led ls) → Q v' H'
theorem at_cs {cs : List Int} {a b : Int} (h0 : 0 ≤ a) (h : cs[a.toNat]? = some b) : atI (cs.map V.int) a = some (.int b) := by
  have e : a = ((a.toNat : Nat) : Int) := by omega
  have := atI_nat (xs := cs.map V.int) (j := a.toNat) (v := .int b) (by rw [List.getElem?_map, h]; rfl)
  rw [← e] at this
  exact this
theorem cut_2 (a b : V) (r : List V) : cutV (a :: b :: r) none (some 2) = [a, b] := by
  rw [show (2 : Int) = ((2 : Nat) : Int) from rfl, cut_to _ (by simp)]
  rfl
theorem cutM (xs : List V) (y : V) : cutV (xs ++ [y]) none (some (-1)) = xs := by
  unfold cutV
  have e0 : HT.sIx (xs ++ [y]).length 0 none = 0 := rfl
  have e1 : HT.sIx (xs ++ [y]).length (xs ++ [y]).length (some (-1)) = xs.length := by
    rw [List.length_append]
    unfold HT.sIx
    simp
    omega
  rw [e0, e1, List.drop_zero, Nat.sub_zero, List.take_left]
theorem scLed : FnScope ["node", "change"] ["node", "change"] (defScope sLed) := ⟨rfl, rfl, rfl, by decide +kernel, rfl, by decide +kernel, by decide +kernel⟩
theorem ok_led {f : Addr} {fd : FuncData} (F : Fun K "_law_led" "_law_led" sLed f fd)  : FnOk P w K mg base CX0 1 f fd ["node", "change"] spLed := by
  refine F.ok scLed (fun vs H Q E h => ?_) (fun cdv A outer s H vs Q E hr h => ?_)
  · obtain ⟨v, l, e, cs, ls, rfl, _⟩ := h
    rfl
  · obtain ⟨v, l, e, cs, ls, rfl, na, is, hl, ll, hcs, q⟩ := h
    refine goL ⟨_, (L3.cons (L3.ifs (L3.cmp L3.o_eq (L3.ix L3.ixT (L3.v 0) L3.int) L3.str) (L3.one (L3.ret (L3.op L3.o_catT (L3.slT2 (L3.v 0) L3.int) (L3.tup (L3.k (L3.ix L3.ixL (L3.v 1) (L3.ix L3.ixT (L3.v 0) L3.int)) (L3.k (L3.ix L3.ixL (L3.v 1) (L3.ix L3.ixT (L3.v 0) L3.int)) L3.n)))))) L3.nil)
      (L3.cons (L3.ifs (L3.cmp L3.o_eq (L3.ix L3.ixT (L3.v 0) L3.int) L3.str) (L3.one (L3.ret (L3.v 0))) L3.nil)
      (L3.one (L3.ret (L3.op L3.o_catT (L3.slT2 (L3.v 0) (L3.neg L3.int)) (L3.tup (L3.k (L3.ix L3.ixL (L3.v 1) (L3.ix L3.ixT (L3.v 0) (L3.neg L3.int))) L3.n))))))), ?_⟩
    refine cut1 fun Rk kR => ?_
    match e, na, is, ll, hcs, q with
    | .put x e n, ⟨u, ⟨p, ev, hp⟩, a⟩, is, ll, hcs, q =>
      subst ev
      match ls, ll, hcs, q with
      | [m], _, hcs, q =>
        have hl0 := hcs 0 n m rfl rfl
        have hat := at_cs hl0.1 hl0.2
        refine ⟨_, rfl, p, _, _, _, rfl, rfl, SqT.of hp, rfl, rfl, _, rfl, iteF' (by decide) (kR _ _ ?_)⟩
        clear kR
        refine cut1 fun Rk kR => ?_
        refine ⟨_, rfl, p, _, _, _, rfl, rfl, SqT.of hp, rfl, rfl, _, rfl, iteF' (by decide) (kR _ _ ?_)⟩
        refine ⟨_, rfl, _, rfl, _, rfl, p, _, rfl, SqT.of hp, ?_, fun a1 ha1 => ?_⟩
        · rintro ⟨_, z⟩
          exact absurd (show HT.sIx 4 4 (some (-1)) = 4 from z) (by decide)
        rw [show ([.str "put", .str x, u, .int n] : List V) = [.str "put", .str x, u] ++ [.int n] from rfl, cutM]
        have s1 : Same H (upd H a1 (.tup [.str "put", .str x, u])) := same_new ha1 _
        have g1 : (upd H a1 (.tup [.str "put", .str x, u])) a1 = some (.tup [.str "put", .str x, u]) := upd_same
        generalize upd H a1 (.tup [.str "put", .str x, u]) = H1 at s1 g1 ⊢
        refine ⟨_, rfl, _, rfl, _, rfl, p, _, _, _, rfl, rfl, SqT.of (s1 _ _ hp), rfl, l, _, _, _, rfl, rfl, SqL.of (s1 _ _ hl), hat, (by show 1 ≤ sizeLine; decide), fun a2 ha2 => ?_⟩
        have s2 : Same H1 (upd H1 a2 (.tup [.int m])) := same_new ha2 _
        have g2 : (upd H1 a2 (.tup [.int m])) a2 = some (.tup [.int m]) := upd_same
        generalize upd H1 a2 (.tup [.int m]) = H2 at s2 g2 ⊢
        refine ⟨a1, a2, _, _, rfl, rfl, SqT.of (s2 _ _ g1), SqT.of g2, (fun z => nomatch z), (by show 4 ≤ sizeLine; decide), (fun z => nomatch z), fun _ p' hp' => ?_⟩
        have s3 := same_new hp' (.tup ([.str "put", .str x, u] ++ [.int m]))
        exact q (.ref p') _ (same_trans s1 (same_trans s2 s3)) ⟨u, ⟨p', rfl, upd_same⟩, a.keep (Same.tk (same_trans s1 (same_trans s2 s3)))⟩
    | .say e n, ⟨u, ⟨p, ev, hp⟩, a⟩, is, ll, hcs, q =>
      subst ev
      match ls, ll, hcs, q with
      | [m], _, hcs, q =>
        have hl0 := hcs 0 n m rfl rfl
        have hat := at_cs hl0.1 hl0.2
        refine ⟨_, rfl, p, _, _, _, rfl, rfl, SqT.of hp, rfl, rfl, _, rfl, iteF' (by decide) (kR _ _ ?_)⟩
        clear kR
        refine cut1 fun Rk kR => ?_
        refine ⟨_, rfl, p, _, _, _, rfl, rfl, SqT.of hp, rfl, rfl, _, rfl, iteF' (by decide) (kR _ _ ?_)⟩
        refine ⟨_, rfl, _, rfl, _, rfl, p, _, rfl, SqT.of hp, ?_, fun a1 ha1 => ?_⟩
        · rintro ⟨_, z⟩
          exact absurd (show HT.sIx 3 3 (some (-1)) = 3 from z) (by decide)
        rw [show ([.str "say", u, .int n] : List V) = [.str "say", u] ++ [.int n] from rfl, cutM]
        have s1 : Same H (upd H a1 (.tup [.str "say", u])) := same_new ha1 _
        have g1 : (upd H a1 (.tup [.str "say", u])) a1 = some (.tup [.str "say", u]) := upd_same
        generalize upd H a1 (.tup [.str "say", u]) = H1 at s1 g1 ⊢
        refine ⟨_, rfl, _, rfl, _, rfl, p, _, _, _, rfl, rfl, SqT.of (s1 _ _ hp), rfl, l, _, _, _, rfl, rfl, SqL.of (s1 _ _ hl), hat, (by show 1 ≤ sizeLine; decide), fun a2 ha2 => ?_⟩
        have s2 : Same H1 (upd H1 a2 (.tup [.int m])) := same_new ha2 _
        have g2 : (upd H1 a2 (.tup [.int m])) a2 = some (.tup [.int m]) := upd_same
        generalize upd H1 a2 (.tup [.int m]) = H2 at s2 g2 ⊢
        refine ⟨a1, a2, _, _, rfl, rfl, SqT.of (s2 _ _ g1), SqT.of g2, (fun z => nomatch z), (by show 3 ≤ sizeLine; decide), (fun z => nomatch z), fun _ p' hp' => ?_⟩
        have s3 := same_new hp' (.tup ([.str "say", u] ++ [.int m]))
        exact q (.ref p') _ (same_trans s1 (same_trans s2 s3)) ⟨u, ⟨p', rfl, upd_same⟩, a.keep (Same.tk (same_trans s1 (same_trans s2 s3)))⟩
    | .test e n o, ⟨u, ⟨p, ev, hp⟩, a⟩, is, ll, hcs, q =>
      subst ev
      match ls, ll, hcs, q with
      | [m, m2], _, hcs, q =>
        have hl0 := hcs 0 n m rfl rfl
        have hl1 := hcs 1 o m2 rfl rfl
        have hat := at_cs hl0.1 hl0.2
        have hat1 := at_cs hl1.1 hl1.2
        refine ⟨_, rfl, p, _, _, _, rfl, rfl, SqT.of hp, rfl, rfl, _, rfl, iteT ?_⟩
        refine ⟨_, rfl, _, rfl, p, _, rfl, SqT.of hp, ?_, fun a1 ha1 => ?_⟩
        · rintro ⟨_, z⟩
          exact absurd (show HT.sIx 4 4 (some 2) = 4 from z) (by decide)
        rw [cut_2]
        have s1 : Same H (upd H a1 (.tup [.str "test", u])) := same_new ha1 _
        have g1 : (upd H a1 (.tup [.str "test", u])) a1 = some (.tup [.str "test", u]) := upd_same
        generalize upd H a1 (.tup [.str "test", u]) = H1 at s1 g1 ⊢
        refine ⟨_, rfl, _, rfl, p, _, _, _, rfl, rfl, SqT.of (s1 _ _ hp), rfl, l, _, _, _, rfl, rfl, SqL.of (s1 _ _ hl), hat, _, rfl, _, rfl, p, _, _, _, rfl, rfl, SqT.of (s1 _ _ hp), rfl, l, _, _, _, rfl, rfl, SqL.of (s1 _ _ hl), hat1, (by show 2 ≤ sizeLine; decide), fun a2 ha2 => ?_⟩
        have s2 : Same H1 (upd H1 a2 (.tup [.int m, .int m2])) := same_new ha2 _
        have g2 : (upd H1 a2 (.tup [.int m, .int m2])) a2 = some (.tup [.int m, .int m2]) := upd_same
        generalize upd H1 a2 (.tup [.int m, .int m2]) = H2 at s2 g2 ⊢
        refine ⟨a1, a2, _, _, rfl, rfl, SqT.of (s2 _ _ g1), SqT.of g2, (fun z => nomatch z), (by show 4 ≤ sizeLine; decide), (fun z => nomatch z), fun _ p' hp' => ?_⟩
        have s3 := same_new hp' (.tup ([.str "test", u] ++ [.int m, .int m2]))
        exact q (.ref p') _ (same_trans s1 (same_trans s2 s3)) ⟨u, ⟨p', rfl, upd_same⟩, a.keep (Same.tk (same_trans s1 (same_trans s2 s3)))⟩
    | .fin, ⟨p, ev, hp⟩, is, ll, hcs, q =>
      subst ev
      refine ⟨_, rfl, p, _, _, _, rfl, rfl, SqT.of hp, rfl, rfl, _, rfl, iteF' (by decide) (kR _ _ ?_)⟩
      clear kR
      refine cut1 fun Rk kR => ?_
      refine ⟨_, rfl, p, _, _, _, rfl, rfl, SqT.of hp, rfl, rfl, _, rfl, iteT ?_⟩
      exact ⟨_, rfl, q _ _ (same_refl _) ⟨p, rfl, hp⟩⟩
theorem has_led (s : Src K mg "_law_led" sLed)  : Has P w K mg base "_law_led" ["node", "change"] 1 spLed :=
  let ⟨f, fd, F, m⟩ := s
  ⟨f, fd, ok_led F , F.kp, bnd2 F fun _ _ _ _ _ _ _ _ => rfl, m⟩
end
end TW
set_option Elab.async false
set_option linter.all false
set_option maxRecDepth 100000
set_option exponentiation.threshold 4000
set_option maxHeartbeats 1000000
namespace TW
open PySem L2
section
variable {P : Program} {w : World} {K : PySem.W.Frag} {mg : Str → Option Value} {base : Heap}
abbrev sAlk : Stmt := top 28
abbrev sMade : Stmt := top 29
/-! ### _law_alike -/
def Al (H : Hp) : Nat → V → V → Prop
  | 0, _, _ => False
  | n + 1, x, y => (∃ i, x = .int i ∧ y = .int i) ∨ (∃ s, x = .str s ∧ y = .str s) ∨ ∃ a b xs ys, x = .ref a ∧ y = .ref b ∧ ((H a = some (.lst xs) ∧ H b = some (.lst ys)) ∨ (H a = some (.tup xs) ∧ H b = some (.tup ys))) ∧ xs.length = ys.length ∧ xs.length ≤ 900 ∧ ∀ (i : Nat) (x y : V), xs[i]? = some x → ys[i]? = some y → Al H n x y
theorem Al.same {H H' : Hp} (s : Same H H') : ∀ {n : Nat} {x y : V}, Al H n x y → Al H' n x y
  | 0, _, _, h => h
  | n + 1, x, y, h => by
    rcases h with h | h | ⟨a, b, xs, ys, h1, h2, h3, h4, h5, h6⟩
    · exact .inl h
    · exact .inr (.inl h)
    · exact .inr (.inr ⟨a, b, xs, ys, h1, h2, h3.elim (fun z => .inl ⟨s _ _ z.1, s _ _ z.2⟩) (fun z => .inr ⟨s _ _ z.1, s _ _ z.2⟩), h4, h5, fun i x y hx hy => Al.same s (h6 i x y hx hy)⟩)
def spAlk (n : Nat) : Sp := fun vs H Q _ => ∃ (x y : V), vs = [x, y] ∧ Al H n x y ∧ ∀ H', Same H H' → Q (.bl true) H'
theorem none_alk {f : Addr} {fd : FuncData} : FnOk P w K mg base CX0 1 f fd ["told", "due"] (spAlk 0) := by
  have no : ∀ vs H Q E, ¬ spAlk 0 vs H Q E := fun vs H Q E h => by
    obtain ⟨x, y, _, h, _⟩ := h
    exact h
  exact ⟨fun vs H Q E h => absurd h (no vs H Q E), fun A outer s H args us vs Q E _ _ _ _ h => absurd h (no vs H Q E)⟩
theorem scAlk : FnScope ["told", "due"] ["told", "due"] (defScope sAlk) := ⟨rfl, rfl, rfl, by decide +kernel, rfl, by decide +kernel, by decide +kernel⟩
theorem gAlk_all : (defScope sAlk).names.lookup (Str.ofString "all") = some .globalImplicit := by decide +kernel
theorem gAlk_bool : (defScope sAlk).names.lookup (Str.ofString "bool") = some .globalImplicit := by decide +kernel
theorem gAlk_int : (defScope sAlk).names.lookup (Str.ofString "int") = some .globalImplicit := by decide +kernel
theorem gAlk_isinstance : (defScope sAlk).names.lookup (Str.ofString "isinstance") = some .globalImplicit := by decide +kernel
theorem gAlk_len : (defScope sAlk).names.lookup (Str.ofString "len") = some .globalImplicit := by decide +kernel
theorem gAlk_list : (defScope sAlk).names.lookup (Str.ofString "list") = some .globalImplicit := by decide +kernel
theorem gAlk_str : (defScope sAlk).names.lookup (Str.ofString "str") = some .globalImplicit := by decide +kernel
theorem gAlk_tuple : (defScope sAlk).names.lookup (Str.ofString "tuple") = some .globalImplicit := by decide +kernel
theorem gAlk_zip : (defScope sAlk).names.lookup (Str.ofString "zip") = some .globalImplicit := by decide +kernel
theorem ok_alk {n : Nat} {f : Addr} {fd : FuncData} (F : Fun K "_law_alike" "_law_alike" sAlk f fd) (m_isinstance : mg "isinstance" = none) (m_len : mg "len" = none) (m_zip : mg "zip" = none) (m_all : mg "all" = none) (m_bool : mg "bool" = none) (m_int : mg "int" = none) (m_str : mg "str" = none) (m_tuple : mg "tuple" = none) (m_list : mg "list" = none) (G : Has P w K mg base "_law_alike" ["told", "due"] (n + 1) (spAlk n)) : FnOk P w K mg base CX0 (n + 1 + 1) f fd ["told", "due"] (spAlk (n + 1)) := by
  refine F.ok scAlk (fun vs H Q E h => ?_) (fun cdv A outer s H vs Q E hr h => ?_)
  · obtain ⟨x, y, rfl, _⟩ := h
    rfl
  · obtain ⟨x, y, rfl, al, q⟩ := h
    rcases al with ⟨i, rfl, rfl⟩ | ⟨z, rfl, rfl⟩ | ⟨a, b, xs, ys, rfl, rfl, hh, hl, h9, all⟩
    · refine goL ⟨_, (L3.cons (L3.ifs (L3.tw (L3.or2 (L3.tw (L3.and2 (L3.tval (L3.callB L3.c_isT gAlk_isinstance m_isinstance (by decide +kernel) (L3.k (L3.v 1) (L3.k (L3.bltn (w := .ty "tuple") gAlk_tuple m_tuple (by decide +kernel) rfl) L3.n)))) (L3.and1 (L3.nt (L3.tval (L3.callB L3.c_isT gAlk_isinstance m_isinstance (by decide +kernel) (L3.k (L3.v 0) (L3.k (L3.bltn (w := .ty "tuple") gAlk_tuple m_tuple (by decide +kernel) rfl) L3.n)))))))) (L3.or1 (L3.tw (L3.and2 (L3.tval (L3.callB L3.c_isT gAlk_isinstance m_isinstance (by decide +kernel) (L3.k (L3.v 1) (L3.k (L3.bltn (w := .ty "list") gAlk_list m_list (by decide +kernel) rfl) L3.n)))) (L3.and1 (L3.nt (L3.tval (L3.callB L3.c_isT gAlk_isinstance m_isinstance (by decide +kernel) (L3.k (L3.v 0) (L3.k (L3.bltn (w := .ty "list") gAlk_list m_list (by decide +kernel) rfl) L3.n))))))))))) (L3.one (L3.ret L3.bl)) L3.nil)
      (L3.cons (L3.ifs (L3.tval (L3.callB L3.c_isT gAlk_isinstance m_isinstance (by decide +kernel) (L3.k (L3.v 1) (L3.k (L3.tup (L3.k (L3.bltn (w := .ty "tuple") gAlk_tuple m_tuple (by decide +kernel) rfl) (L3.k (L3.bltn (w := .ty "list") gAlk_list m_list (by decide +kernel) rfl) L3.n))) L3.n)))) (L3.one (L3.ret (L3.andE2 (L3.cmpE L3.o_eq (L3.callB L3.c_len gAlk_len m_len PySem.boot_len (L3.k (L3.v 0) L3.n)) (L3.callB L3.c_len gAlk_len m_len PySem.boot_len (L3.k (L3.v 1) L3.n))) (L3.oneE (L3.callB L3.c_all gAlk_all m_all (by decide +kernel) (L3.k (L3.lc [none, none] ["one", "other"] (show CompScope _ (defScope sAlk) from ⟨rfl, by decide +kernel, by decide +kernel, by decide +kernel⟩) (by rfl) (L3.iZA false false gAlk_zip m_zip (L3.k (L3.v 0) (L3.k (L3.v 1) L3.n))) (fun _ _ _ _ _ => ⟨(L3.gtup 2 (L3.gsk (L3.gn 0 (show (["one", "other"] : List Str).Nodup from by decide +kernel)) (L3.gsk (L3.gn 1 (show (["one", "other"] : List Str).Nodup from by decide +kernel)) L3.gsn))), L3.if0, (L3.own G hr (by rfl) (L3.k (L3.v 0) (L3.k (L3.v 1) L3.n)))⟩)) L3.n)))))) L3.nil)
      (L3.cons (L3.ifs (L3.tval (L3.callB L3.c_isT gAlk_isinstance m_isinstance (by decide +kernel) (L3.k (L3.v 1) (L3.k (L3.bltn (w := .ty "str") gAlk_str m_str (by decide +kernel) rfl) L3.n)))) (L3.one (L3.ret (L3.andE2 (L3.callB L3.c_isT gAlk_isinstance m_isinstance (by decide +kernel) (L3.k (L3.v 0) (L3.k (L3.bltn (w := .ty "str") gAlk_str m_str (by decide +kernel) rfl) L3.n))) (L3.oneE (L3.cmpE L3.o_eq (L3.v 0) (L3.v 1)))))) L3.nil)
      (L3.one (L3.ret (L3.andE2 (L3.callB L3.c_isT gAlk_isinstance m_isinstance (by decide +kernel) (L3.k (L3.v 0) (L3.k (L3.bltn (w := .ty "int") gAlk_int m_int (by decide +kernel) rfl) L3.n))) (L3.andE2 (L3.ntE (L3.callB L3.c_isT gAlk_isinstance m_isinstance (by decide +kernel) (L3.k (L3.v 0) (L3.k (L3.bltn (w := .ty "bool") gAlk_bool m_bool (by decide +kernel) rfl) L3.n)))) (L3.oneE (L3.cmpE L3.o_eq (L3.v 0) (L3.v 1)))))))))), ?_⟩
      refine cut1 fun Rk kR => ?_
      refine ⟨_, rfl, .inl ⟨_, "tuple", _, false, rfl, TyOf.int _, rfl, _, rfl, iteF (iteF ?_)⟩⟩
      refine ⟨_, rfl, .inl ⟨_, "list", _, false, rfl, TyOf.int _, rfl, _, rfl, iteF (iteF ?_)⟩⟩
      refine kR _ _ ?_
      refine cut1 fun Rk kR => ?_
      refine ⟨_, rfl, (by show 2 ≤ sizeLine; decide), fun t1 ht1 => ?_⟩
      have sH1 : Same H (upd H t1 (.tup [.ty "tuple", .ty "list"])) := same_new ht1 _
      have gH1 : (upd H t1 (.tup [.ty "tuple", .ty "list"])) t1 = some (.tup [.ty "tuple", .ty "list"]) := upd_same
      generalize upd H t1 (.tup [.ty "tuple", .ty "list"]) = H1 at sH1 gH1 ⊢
      refine .inr ⟨_, t1, ["tuple", "list"], _, false, rfl, gH1, TyS.int _, rfl, _, rfl, iteF ?_⟩
      refine kR _ _ ?_
      refine cut1 fun Rk kR => ?_
      refine ⟨_, rfl, .inl ⟨_, "str", _, false, rfl, TyOf.int _, rfl, _, rfl, iteF ?_⟩⟩
      refine kR _ _ ?_
      refine ⟨_, rfl, .inl ⟨_, "int", _, true, rfl, TyOf.int _, rfl, _, rfl, iteT ?_⟩⟩
      refine ⟨_, rfl, .inl ⟨_, "bool", _, false, rfl, TyOf.int _, rfl, _, rfl, _, rfl, iteT ?_⟩⟩
      refine ⟨_, rfl, _, rfl, rfl, ?_⟩
      rw [decide_eq_true rfl]
      exact q _ sH1
    · refine goL ⟨_, (L3.cons (L3.ifs (L3.tw (L3.or2 (L3.tw (L3.and2 (L3.tval (L3.callB L3.c_isT gAlk_isinstance m_isinstance (by decide +kernel) (L3.k (L3.v 1) (L3.k (L3.bltn (w := .ty "tuple") gAlk_tuple m_tuple (by decide +kernel) rfl) L3.n)))) (L3.and1 (L3.nt (L3.tval (L3.callB L3.c_isT gAlk_isinstance m_isinstance (by decide +kernel) (L3.k (L3.v 0) (L3.k (L3.bltn (w := .ty "tuple") gAlk_tuple m_tuple (by decide +kernel) rfl) L3.n)))))))) (L3.or1 (L3.tw (L3.and2 (L3.tval (L3.callB L3.c_isT gAlk_isinstance m_isinstance (by decide +kernel) (L3.k (L3.v 1) (L3.k (L3.bltn (w := .ty "list") gAlk_list m_list (by decide +kernel) rfl) L3.n)))) (L3.and1 (L3.nt (L3.tval (L3.callB L3.c_isT gAlk_isinstance m_isinstance (by decide +kernel) (L3.k (L3.v 0) (L3.k (L3.bltn (w := .ty "list") gAlk_list m_list (by decide +kernel) rfl) L3.n))))))))))) (L3.one (L3.ret L3.bl)) L3.nil)
      (L3.cons (L3.ifs (L3.tval (L3.callB L3.c_isT gAlk_isinstance m_isinstance (by decide +kernel) (L3.k (L3.v 1) (L3.k (L3.tup (L3.k (L3.bltn (w := .ty "tuple") gAlk_tuple m_tuple (by decide +kernel) rfl) (L3.k (L3.bltn (w := .ty "list") gAlk_list m_list (by decide +kernel) rfl) L3.n))) L3.n)))) (L3.one (L3.ret (L3.andE2 (L3.cmpE L3.o_eq (L3.callB L3.c_len gAlk_len m_len PySem.boot_len (L3.k (L3.v 0) L3.n)) (L3.callB L3.c_len gAlk_len m_len PySem.boot_len (L3.k (L3.v 1) L3.n))) (L3.oneE (L3.callB L3.c_all gAlk_all m_all (by decide +kernel) (L3.k (L3.lc [none, none] ["one", "other"] (show CompScope _ (defScope sAlk) from ⟨rfl, by decide +kernel, by decide +kernel, by decide +kernel⟩) (by rfl) (L3.iZA false false gAlk_zip m_zip (L3.k (L3.v 0) (L3.k (L3.v 1) L3.n))) (fun _ _ _ _ _ => ⟨(L3.gtup 2 (L3.gsk (L3.gn 0 (show (["one", "other"] : List Str).Nodup from by decide +kernel)) (L3.gsk (L3.gn 1 (show (["one", "other"] : List Str).Nodup from by decide +kernel)) L3.gsn))), L3.if0, (L3.own G hr (by rfl) (L3.k (L3.v 0) (L3.k (L3.v 1) L3.n)))⟩)) L3.n)))))) L3.nil)
      (L3.cons (L3.ifs (L3.tval (L3.callB L3.c_isT gAlk_isinstance m_isinstance (by decide +kernel) (L3.k (L3.v 1) (L3.k (L3.bltn (w := .ty "str") gAlk_str m_str (by decide +kernel) rfl) L3.n)))) (L3.one (L3.ret (L3.andE2 (L3.callB L3.c_isT gAlk_isinstance m_isinstance (by decide +kernel) (L3.k (L3.v 0) (L3.k (L3.bltn (w := .ty "str") gAlk_str m_str (by decide +kernel) rfl) L3.n))) (L3.oneE (L3.cmpE L3.o_eq (L3.v 0) (L3.v 1)))))) L3.nil)
      (L3.one (L3.ret (L3.andE2 (L3.callB L3.c_isT gAlk_isinstance m_isinstance (by decide +kernel) (L3.k (L3.v 0) (L3.k (L3.bltn (w := .ty "int") gAlk_int m_int (by decide +kernel) rfl) L3.n))) (L3.andE2 (L3.ntE (L3.callB L3.c_isT gAlk_isinstance m_isinstance (by decide +kernel) (L3.k (L3.v 0) (L3.k (L3.bltn (w := .ty "bool") gAlk_bool m_bool (by decide +kernel) rfl) L3.n)))) (L3.oneE (L3.cmpE L3.o_eq (L3.v 0) (L3.v 1)))))))))), ?_⟩
      refine cut1 fun Rk kR => ?_
      refine ⟨_, rfl, .inl ⟨_, "tuple", _, false, rfl, TyOf.str _, rfl, _, rfl, iteF (iteF ?_)⟩⟩
      refine ⟨_, rfl, .inl ⟨_, "list", _, false, rfl, TyOf.str _, rfl, _, rfl, iteF (iteF ?_)⟩⟩
      refine kR _ _ ?_
      refine cut1 fun Rk kR => ?_
      refine ⟨_, rfl, (by show 2 ≤ sizeLine; decide), fun t1 ht1 => ?_⟩
      have sH1 : Same H (upd H t1 (.tup [.ty "tuple", .ty "list"])) := same_new ht1 _
      have gH1 : (upd H t1 (.tup [.ty "tuple", .ty "list"])) t1 = some (.tup [.ty "tuple", .ty "list"]) := upd_same
      generalize upd H t1 (.tup [.ty "tuple", .ty "list"]) = H1 at sH1 gH1 ⊢
      refine .inr ⟨_, t1, ["tuple", "list"], _, false, rfl, gH1, TyS.str _, rfl, _, rfl, iteF ?_⟩
      refine kR _ _ ?_
      refine cut1 fun Rk kR => ?_
      refine ⟨_, rfl, .inl ⟨_, "str", _, true, rfl, TyOf.str _, rfl, _, rfl, iteT ?_⟩⟩
      refine ⟨_, rfl, .inl ⟨_, "str", _, true, rfl, TyOf.str _, rfl, _, rfl, iteT ?_⟩⟩
      refine ⟨_, rfl, _, rfl, rfl, ?_⟩
      rw [decide_eq_true rfl]
      exact q _ sH1
    obtain ⟨tb, TB, b1, b2, t1, t2, k1, k2, kk, sq⟩ : ∃ (tb : Value) (TB b1 b2 : Bool), TyS H (.ref b) tb ∧ TyS H (.ref a) tb ∧ PySem.W.kitOne K tb (.type "tuple") = some b1 ∧ PySem.W.kitOne K tb (.type "list") = some b2 ∧ PySem.W.kitAny K tb (["tuple", "list"].map Value.type) = some true ∧ ∀ H', Same H H' → Sq TB K H' a xs ∧ Sq TB K H' b ys := hh.elim (fun z => ⟨_, false, false, true, TyS.lst z.2, TyS.lst z.1, rfl, rfl, rfl, fun H' s => ⟨SqL.of (s _ _ z.1), SqL.of (s _ _ z.2)⟩⟩) (fun z => ⟨_, true, true, false, TyS.tup z.2, TyS.tup z.1, rfl, rfl, rfl, fun H' s => ⟨SqT.of (s _ _ z.1), SqT.of (s _ _ z.2)⟩⟩)
    have tyk : ∀ {H' : Hp} {v : V}, Same H H' → TyS H v tb → TyS H' v tb := fun s z => by
      cases z with
      | int i => exact .int i
      | str y => exact .str y
      | lst h => exact .lst (s _ _ h)
      | tup h => exact .tup (s _ _ h)
    have lenq : ∀ H', Same H H' → (SqL K H' a xs ∨ SqT K H' a xs) ∧ (SqL K H' b ys ∨ SqT K H' b ys) := fun H' s => hh.elim (fun z => ⟨.inl (SqL.of (s _ _ z.1)), .inl (SqL.of (s _ _ z.2))⟩) (fun z => ⟨.inr (SqT.of (s _ _ z.1)), .inr (SqT.of (s _ _ z.2))⟩)
    refine goL ⟨_, (L3.cons (L3.ifs (L3.tw (L3.or2 (L3.tw (L3.and2 (L3.tval (L3.callB L3.c_isT gAlk_isinstance m_isinstance (by decide +kernel) (L3.k (L3.v 1) (L3.k (L3.bltn (w := .ty "tuple") gAlk_tuple m_tuple (by decide +kernel) rfl) L3.n)))) (L3.and1 (L3.nt (L3.tval (L3.callB L3.c_isT gAlk_isinstance m_isinstance (by decide +kernel) (L3.k (L3.v 0) (L3.k (L3.bltn (w := .ty "tuple") gAlk_tuple m_tuple (by decide +kernel) rfl) L3.n)))))))) (L3.or1 (L3.tw (L3.and2 (L3.tval (L3.callB L3.c_isT gAlk_isinstance m_isinstance (by decide +kernel) (L3.k (L3.v 1) (L3.k (L3.bltn (w := .ty "list") gAlk_list m_list (by decide +kernel) rfl) L3.n)))) (L3.and1 (L3.nt (L3.tval (L3.callB L3.c_isT gAlk_isinstance m_isinstance (by decide +kernel) (L3.k (L3.v 0) (L3.k (L3.bltn (w := .ty "list") gAlk_list m_list (by decide +kernel) rfl) L3.n))))))))))) (L3.one (L3.ret L3.bl)) L3.nil)
      (L3.cons (L3.ifs (L3.tval (L3.callB L3.c_isT gAlk_isinstance m_isinstance (by decide +kernel) (L3.k (L3.v 1) (L3.k (L3.tup (L3.k (L3.bltn (w := .ty "tuple") gAlk_tuple m_tuple (by decide +kernel) rfl) (L3.k (L3.bltn (w := .ty "list") gAlk_list m_list (by decide +kernel) rfl) L3.n))) L3.n)))) (L3.one (L3.ret (L3.andE2 (L3.cmpE L3.o_eq (L3.callB L3.c_len gAlk_len m_len PySem.boot_len (L3.k (L3.v 0) L3.n)) (L3.callB L3.c_len gAlk_len m_len PySem.boot_len (L3.k (L3.v 1) L3.n))) (L3.oneE (L3.callB L3.c_all gAlk_all m_all (by decide +kernel) (L3.k (L3.lc [none, none] ["one", "other"] (show CompScope _ (defScope sAlk) from ⟨rfl, by decide +kernel, by decide +kernel, by decide +kernel⟩) (by rfl) (L3.iZA TB TB gAlk_zip m_zip (L3.k (L3.v 0) (L3.k (L3.v 1) L3.n))) (fun _ _ _ _ _ => ⟨(L3.gtup 2 (L3.gsk (L3.gn 0 (show (["one", "other"] : List Str).Nodup from by decide +kernel)) (L3.gsk (L3.gn 1 (show (["one", "other"] : List Str).Nodup from by decide +kernel)) L3.gsn))), L3.if0, (L3.own G hr (by rfl) (L3.k (L3.v 0) (L3.k (L3.v 1) L3.n)))⟩)) L3.n)))))) L3.nil)
      (L3.cons (L3.ifs (L3.tval (L3.callB L3.c_isT gAlk_isinstance m_isinstance (by decide +kernel) (L3.k (L3.v 1) (L3.k (L3.bltn (w := .ty "str") gAlk_str m_str (by decide +kernel) rfl) L3.n)))) (L3.one (L3.ret (L3.andE2 (L3.callB L3.c_isT gAlk_isinstance m_isinstance (by decide +kernel) (L3.k (L3.v 0) (L3.k (L3.bltn (w := .ty "str") gAlk_str m_str (by decide +kernel) rfl) L3.n))) (L3.oneE (L3.cmpE L3.o_eq (L3.v 0) (L3.v 1)))))) L3.nil)
      (L3.one (L3.ret (L3.andE2 (L3.callB L3.c_isT gAlk_isinstance m_isinstance (by decide +kernel) (L3.k (L3.v 0) (L3.k (L3.bltn (w := .ty "int") gAlk_int m_int (by decide +kernel) rfl) L3.n))) (L3.andE2 (L3.ntE (L3.callB L3.c_isT gAlk_isinstance m_isinstance (by decide +kernel) (L3.k (L3.v 0) (L3.k (L3.bltn (w := .ty "bool") gAlk_bool m_bool (by decide +kernel) rfl) L3.n)))) (L3.oneE (L3.cmpE L3.o_eq (L3.v 0) (L3.v 1)))))))))), ?_⟩
    refine cut1 fun Rk kR => ?_
    have fb : Rk [some (.ref a), some (.ref b)] H := by
      refine kR _ _ ?_
      refine cut1 fun Rk kR => ?_
      refine ⟨_, rfl, (by show 2 ≤ sizeLine; decide), fun q1 hq1 => ?_⟩
      have sH1 : Same H (upd H q1 (.tup [.ty "tuple", .ty "list"])) := same_new hq1 _
      have gH1 : (upd H q1 (.tup [.ty "tuple", .ty "list"])) q1 = some (.tup [.ty "tuple", .ty "list"]) := upd_same
      generalize upd H q1 (.tup [.ty "tuple", .ty "list"]) = H1 at sH1 gH1 ⊢
      refine .inr ⟨_, q1, ["tuple", "list"], _, true, rfl, gH1, tyk sH1 t1, kk, _, rfl, iteT ?_⟩
      obtain ⟨la, lb⟩ := lenq _ sH1
      refine ⟨_, rfl, a, xs, rfl, la, _, rfl, b, ys, rfl, lb, rfl, _, rfl, ?_⟩
      rw [hl, decide_eq_true rfl]
      refine iteT ?_
      refine ⟨_, rfl, _, rfl, a, b, rfl, ⟨_, (sq _ sH1).1⟩, ⟨_, (sq _ sH1).2⟩, fun D hD => ?_⟩
      refine comp_zipA hl (fun (i : Nat) Hx => Same H1 Hx ∧ Hx D = some (.lst ((List.replicate i true).map V.bl))) ⟨same_new hD _, upd_same⟩ (fun i Hx _ z => sq _ (same_trans sH1 z.1)) (fun i u v pp Hx hu hv z hpp => ?_) (fun Hx z => ?_)
      · obtain ⟨sx, gD⟩ := z
        have hil : i < xs.length := (List.getElem?_eq_some_iff.mp hu).1
        have sp := same_new hpp (.tup [u, v])
        have gp : (upd Hx pp (.tup [u, v])) pp = some (.tup [u, v]) := upd_same
        generalize upd Hx pp (.tup [u, v]) = Hy at sp gp ⊢
        refine ⟨pp, _, rfl, SqT.of gp, rfl, _, _, rfl, _, _, rfl, rfl, ?_⟩
        refine turn0 (A := fun H5 => mApp _ D _ H5 _) ?_
        refine ⟨_, rfl, _, rfl, u, v, rfl, (all i u v hu hv).same (same_trans sH1 (same_trans sx sp)), fun H' s' => ?_⟩
        refine ⟨_, s' _ _ (sp _ _ gD), small1000 (by rw [List.length_map, List.length_replicate]; omega), comp_end (Pv := fun (i : Nat) Hx => Same H1 Hx ∧ Hx D = some (.lst ((List.replicate i true).map V.bl))) (by repeat' constructor) hil ⟨same_put (same_trans sx (same_trans sp s')) hD, ?_⟩⟩
        rw [upd_same, List.replicate_succ', List.map_append]
        rfl
      obtain ⟨sx, gD⟩ := z
      refine ⟨D, List.replicate xs.length true, rfl, SqL.of gD, ?_⟩
      rw [List.all_eq_true.mpr (fun z hz => by rw [List.eq_of_mem_replicate hz]; rfl)]
      exact q _ (same_trans sH1 sx)
    rcases hh with ⟨ha, hb⟩ | ⟨ha, hb⟩
    · refine ⟨_, rfl, .inl ⟨_, "tuple", _, false, rfl, TyOf.lst hb, rfl, _, rfl, iteF (iteF ?_)⟩⟩
      refine ⟨_, rfl, .inl ⟨_, "list", _, true, rfl, TyOf.lst hb, rfl, _, rfl, iteT ?_⟩⟩
      exact ⟨_, rfl, .inl ⟨_, "list", _, true, rfl, TyOf.lst ha, rfl, _, rfl, iteF' rfl fb⟩⟩
    · refine ⟨_, rfl, .inl ⟨_, "tuple", _, true, rfl, TyOf.tup hb, rfl, _, rfl, iteT ?_⟩⟩
      refine ⟨_, rfl, .inl ⟨_, "tuple", _, true, rfl, TyOf.tup ha, rfl, _, rfl, iteF' rfl ?_⟩⟩
      exact ⟨_, rfl, .inl ⟨_, "list", _, false, rfl, TyOf.tup hb, rfl, _, rfl, iteF (iteF fb)⟩⟩
theorem has_alk (s : Src K mg "_law_alike" sAlk) (m_isinstance : mg "isinstance" = none) (m_len : mg "len" = none) (m_zip : mg "zip" = none) (m_all : mg "all" = none) (m_bool : mg "bool" = none) (m_int : mg "int" = none) (m_str : mg "str" = none) (m_tuple : mg "tuple" = none) (m_list : mg "list" = none) : ∀ n : Nat, Has P w K mg base "_law_alike" ["told", "due"] (n + 1) (spAlk n) := by
  obtain ⟨f, fd, F, m⟩ := s
  have b : Binds K fd ["told", "due"] [] := bnd2 F fun _ _ _ _ _ _ _ _ => rfl
  intro n
  have all : FnOk P w K mg base CX0 (n + 1) f fd ["told", "due"] (spAlk n) := by
    induction n with
    | zero => exact none_alk
    | succ n ih => exact ok_alk F m_isinstance m_len m_zip m_all m_bool m_int m_str m_tuple m_list ⟨f, fd, ih, F.kp, b, m⟩
  exact ⟨f, fd, all, F.kp, b, m⟩
/-! ### _law_is_made -/
def spMade (n : Nat) : Sp := fun vs H Q _ => ∃ (f p : Addr) (x d : V) (ps : List V), vs = [.ref f, d] ∧ H f = some (.tup [x, .ref p]) ∧ H p = some (.lst ps) ∧ Al H n x d ∧ ∀ H', Same H H' → Q (.bl true) H'
theorem scMade : FnScope ["found", "due"] ["found", "due"] (defScope sMade) := ⟨rfl, rfl, rfl, by decide +kernel, rfl, by decide +kernel, by decide +kernel⟩
theorem gMade_law_alike : (defScope sMade).names.lookup (Str.ofString "_law_alike") = some .globalImplicit := by decide +kernel
theorem gMade_isinstance : (defScope sMade).names.lookup (Str.ofString "isinstance") = some .globalImplicit := by decide +kernel
theorem gMade_len : (defScope sMade).names.lookup (Str.ofString "len") = some .globalImplicit := by decide +kernel
theorem gMade_list : (defScope sMade).names.lookup (Str.ofString "list") = some .globalImplicit := by decide +kernel
theorem gMade_tuple : (defScope sMade).names.lookup (Str.ofString "tuple") = some .globalImplicit := by decide +kernel
theorem ok_made {n : Nat} {f : Addr} {fd : FuncData} (F : Fun K "_law_is_made" "_law_is_made" sMade f fd) (m_isinstance : mg "isinstance" = none) (m_len : mg "len" = none) (m_tuple : mg "tuple" = none) (m_list : mg "list" = none) (AL : Has P w K mg base "_law_alike" ["told", "due"] (n + 1) (spAlk n)) : FnOk P w K mg base CX0 (n + 2) f fd ["found", "due"] (spMade n) := by
  refine F.ok scMade (fun vs H Q E h => ?_) (fun cdv A outer s H vs Q E hr h => ?_)
  · obtain ⟨f, p, x, d, ps, rfl, _⟩ := h
    rfl
  · obtain ⟨f, p, x, d, ps, rfl, hf, hp, al, q⟩ := h
    refine goL ⟨_, (L3.cons (L3.ifs (L3.tw (L3.or2 (L3.nt (L3.tval (L3.callB L3.c_isT gMade_isinstance m_isinstance (by decide +kernel) (L3.k (L3.v 0) (L3.k (L3.bltn (w := .ty "tuple") gMade_tuple m_tuple (by decide +kernel) rfl) L3.n))))) (L3.or2 (L3.cmp L3.o_ne (L3.callB L3.c_len gMade_len m_len PySem.boot_len (L3.k (L3.v 0) L3.n)) L3.int) (L3.or1 (L3.nt (L3.tval (L3.callB L3.c_isT gMade_isinstance m_isinstance (by decide +kernel) (L3.k (L3.ix L3.ixT (L3.v 0) L3.int) (L3.k (L3.bltn (w := .ty "list") gMade_list m_list (by decide +kernel) rfl) L3.n))))))))) (L3.one (L3.ret L3.bl)) L3.nil)
      (L3.one (L3.ret (L3.own AL hr gMade_law_alike (L3.k (L3.ix L3.ixT (L3.v 0) L3.int) (L3.k (L3.v 1) L3.n)))))), ?_⟩
    refine cut1 fun Rk kR => ?_
    refine ⟨_, rfl, .inl ⟨_, "tuple", _, true, rfl, TyOf.tup hf, rfl, _, rfl, iteF' rfl ?_⟩⟩
    refine ⟨_, rfl, f, _, rfl, .inr (SqT.of hf), rfl, _, rfl, iteF' (show (!decide (V.int 2 = V.int 2)) = false by decide) ?_⟩
    refine ⟨_, rfl, f, _, _, _, rfl, rfl, SqT.of hf, rfl, .inl ⟨_, "list", _, true, rfl, TyOf.lst hp, rfl, _, rfl, iteF' rfl ?_⟩⟩
    refine kR _ _ ?_
    exact ⟨_, rfl, f, _, _, _, rfl, rfl, SqT.of hf, rfl, _, rfl, x, d, rfl, al, q⟩
theorem has_made {n : Nat} (s : Src K mg "_law_is_made" sMade) (m_isinstance : mg "isinstance" = none) (m_len : mg "len" = none) (m_tuple : mg "tuple" = none) (m_list : mg "list" = none) (AL : Has P w K mg base "_law_alike" ["told", "due"] (n + 1) (spAlk n)) : Has P w K mg base "_law_is_made" ["found", "due"] (n + 2) (spMade n) :=
  let ⟨f, fd, F, m⟩ := s
  ⟨f, fd, ok_made F m_isinstance m_len m_tuple m_list AL, F.kp, bnd2 F fun _ _ _ _ _ _ _ _ => rfl, m⟩
end
end TW
set_option Elab.async false
set_option linter.all false
set_option maxRecDepth 100000
set_option exponentiation.threshold 4000
set_option maxHeartbeats 1000000
namespace TW
open PySem L2
section
variable {P : Program} {w : World} {K : PySem.W.Frag} {mg : Str → Option Value} {base : Heap}
abbrev sLeads : Stmt := top 4
/-! ### leads_of -/
def spLeads : Sp := fun vs H Q _ => ∃ (v : V) (nd : Np), vs = [v] ∧ NpAt H v nd ∧ ∀ l H', Same H H' → H' l = some (.lst (nd.leads.map V.int)) → Q (.ref l) H'
theorem scLeads : FnScope ["node"] ["node"] (defScope sLeads) := ⟨rfl, rfl, rfl, by decide +kernel, rfl, by decide +kernel, by decide +kernel⟩
theorem ok_leads {f : Addr} {fd : FuncData} (F : Fun K "leads_of" "leads_of" sLeads f fd)  : FnOk P w K mg base CX0 1 f fd ["node"] spLeads := by
  refine F.ok scLeads (fun vs H Q E h => ?_) (fun cdv A outer s H vs Q E hr h => ?_)
  · obtain ⟨v, nd, rfl, _⟩ := h
    rfl
  · obtain ⟨v, nd, rfl, hn, q⟩ := h
    refine goL ⟨_, (L3.cons (L3.ifs (L3.cmp L3.o_eq (L3.ix L3.ixT (L3.v 0) L3.int) L3.str) (L3.one (L3.ret (L3.lst L3.n))) L3.nil)
      (L3.cons (L3.ifs (L3.cmp L3.o_eq (L3.ix L3.ixT (L3.v 0) L3.int) L3.str) (L3.one (L3.ret (L3.lst (L3.k (L3.ix L3.ixT (L3.v 0) L3.int) L3.n)))) L3.nil)
      (L3.cons (L3.ifs (L3.cmp L3.o_in (L3.ix L3.ixT (L3.v 0) L3.int) (L3.tup (L3.k L3.str (L3.k L3.str L3.n))) (by rfl)) (L3.one (L3.ret (L3.lst (L3.k (L3.ix L3.ixT (L3.v 0) L3.int) L3.n)))) L3.nil)
      (L3.one (L3.ret (L3.lst (L3.k (L3.ix L3.ixT (L3.v 0) L3.int) (L3.k (L3.ix L3.ixT (L3.v 0) L3.int) L3.n)))))))), ?_⟩
    cases nd with
    | fin =>
      obtain ⟨x, rfl, hx⟩ := hn
      refine ⟨_, rfl, x, _, _, _, rfl, rfl, SqT.of hx, rfl, rfl, _, rfl, ?_⟩
      refine ite2 (fun _ => ?_) (fun c => absurd (decide_eq_true rfl) c)
      exact ⟨(by show 0 ≤ sizeLine; decide), fun l hl => q l _ (same_new hl _) upd_same⟩
    | put nm e n =>
      obtain ⟨u, ⟨x, rfl, hx⟩, eu⟩ := hn
      refine ⟨_, rfl, x, _, _, _, rfl, rfl, SqT.of hx, rfl, rfl, _, rfl, ?_⟩
      refine ite2 (fun c => absurd (of_decide_eq_true c) (by decide)) (fun _ => ?_)
      refine ⟨_, rfl, x, _, _, _, rfl, rfl, SqT.of hx, rfl, rfl, _, rfl, ?_⟩
      refine ite2 (fun _ => ?_) (fun c => absurd (decide_eq_true rfl) c)
      exact ⟨_, rfl, x, _, _, _, rfl, rfl, SqT.of hx, rfl, (by show 1 ≤ sizeLine; decide), fun l hl => q l _ (same_new hl _) upd_same⟩
    | say e n =>
      obtain ⟨u, ⟨x, rfl, hx⟩, eu⟩ := hn
      refine ⟨_, rfl, x, _, _, _, rfl, rfl, SqT.of hx, rfl, rfl, _, rfl, ?_⟩
      refine ite2 (fun c => absurd (of_decide_eq_true c) (by decide)) (fun _ => ?_)
      refine ⟨_, rfl, x, _, _, _, rfl, rfl, SqT.of hx, rfl, rfl, _, rfl, ?_⟩
      refine ite2 (fun c => absurd (of_decide_eq_true c) (by decide)) (fun _ => ?_)
      refine ⟨_, rfl, x, _, _, _, rfl, rfl, SqT.of hx, rfl, (by show 2 ≤ sizeLine; decide), fun t0 ht0 => ⟨t0, _, rfl, .inr (SqT.of upd_same), rfl, rfl, _, rfl, ?_⟩⟩
      have s0 := same_new ht0 (.tup [.str "say", .str "pick"])
      generalize upd H t0 (.tup [.str "say", .str "pick"]) = H0 at s0 ⊢
      have hx := s0 _ _ hx
      refine ite2 (fun _ => ?_) (fun c => absurd (show inV (.str "say") _ = true by decide) c)
      exact ⟨_, rfl, x, _, _, _, rfl, rfl, SqT.of hx, rfl, (by show 1 ≤ sizeLine; decide), fun l hl => q l _ (same_trans s0 (same_new hl _)) upd_same⟩
    | pick nm n =>
      obtain ⟨x, rfl, hx⟩ := hn
      refine ⟨_, rfl, x, _, _, _, rfl, rfl, SqT.of hx, rfl, rfl, _, rfl, ?_⟩
      refine ite2 (fun c => absurd (of_decide_eq_true c) (by decide)) (fun _ => ?_)
      refine ⟨_, rfl, x, _, _, _, rfl, rfl, SqT.of hx, rfl, rfl, _, rfl, ?_⟩
      refine ite2 (fun c => absurd (of_decide_eq_true c) (by decide)) (fun _ => ?_)
      refine ⟨_, rfl, x, _, _, _, rfl, rfl, SqT.of hx, rfl, (by show 2 ≤ sizeLine; decide), fun t0 ht0 => ⟨t0, _, rfl, .inr (SqT.of upd_same), rfl, rfl, _, rfl, ?_⟩⟩
      have s0 := same_new ht0 (.tup [.str "say", .str "pick"])
      generalize upd H t0 (.tup [.str "say", .str "pick"]) = H0 at s0 ⊢
      have hx := s0 _ _ hx
      refine ite2 (fun _ => ?_) (fun c => absurd (show inV (.str "pick") _ = true by decide) c)
      exact ⟨_, rfl, x, _, _, _, rfl, rfl, SqT.of hx, rfl, (by show 1 ≤ sizeLine; decide), fun l hl => q l _ (same_trans s0 (same_new hl _)) upd_same⟩
    | test c n o =>
      obtain ⟨u, ⟨x, rfl, hx⟩, eu⟩ := hn
      refine ⟨_, rfl, x, _, _, _, rfl, rfl, SqT.of hx, rfl, rfl, _, rfl, ?_⟩
      refine ite2 (fun c => absurd (of_decide_eq_true c) (by decide)) (fun _ => ?_)
      refine ⟨_, rfl, x, _, _, _, rfl, rfl, SqT.of hx, rfl, rfl, _, rfl, ?_⟩
      refine ite2 (fun c => absurd (of_decide_eq_true c) (by decide)) (fun _ => ?_)
      refine ⟨_, rfl, x, _, _, _, rfl, rfl, SqT.of hx, rfl, (by show 2 ≤ sizeLine; decide), fun t0 ht0 => ⟨t0, _, rfl, .inr (SqT.of upd_same), rfl, rfl, _, rfl, ?_⟩⟩
      have s0 := same_new ht0 (.tup [.str "say", .str "pick"])
      generalize upd H t0 (.tup [.str "say", .str "pick"]) = H0 at s0 ⊢
      have hx := s0 _ _ hx
      refine ite2 (fun c => absurd c (by decide)) (fun _ => ?_)
      exact ⟨_, rfl, x, _, _, _, rfl, rfl, SqT.of hx, rfl, _, rfl, x, _, _, _, rfl, rfl, SqT.of hx, rfl, (by show 2 ≤ sizeLine; decide), fun l hl => q l _ (same_trans s0 (same_new hl _)) upd_same⟩
theorem has_leads (s : Src K mg "leads_of" sLeads)  : Has P w K mg base "leads_of" ["node"] 1 spLeads :=
  let ⟨f, fd, F, m⟩ := s
  ⟨f, fd, ok_leads F , F.kp, bnd1 F fun _ _ _ _ _ _ _ => rfl, m⟩
/-! ### trees whose parts may lie at the top level -/
def TpK (K : PySem.W.Frag) (H : Hp) (v : V) (xs : List V) : Prop := ∃ p, v = .ref p ∧ (H p = some (.tup xs) ∨ ∀ H', SqT K H' p xs)
theorem TpK.keep {K : PySem.W.Frag} {H H' : Hp} {v : V} {xs : List V} (k : TK H H') (h : TpK K H v xs) : TpK K H' v xs := let ⟨p, e, z⟩ := h; ⟨p, e, z.elim (fun z => .inl (k _ _ z)) .inr⟩
theorem TpK.sq {K : PySem.W.Frag} {H : Hp} {v : V} {xs : List V} (h : TpK K H v xs) : ∃ p, v = .ref p ∧ SqT K H p xs := let ⟨p, e, z⟩ := h; ⟨p, e, z.elim SqT.of (fun z => z H)⟩
theorem Tp.k {K : PySem.W.Frag} {H : Hp} {v : V} {xs : List V} (h : Tp H v xs) : TpK K H v xs := let ⟨p, e, z⟩ := h; ⟨p, e, .inl z⟩
def EK (K : PySem.W.Frag) (H : Hp) : V → E → Prop
  | v, .num n => TpK K H v [.str "number", .int n]
  | v, .box t x => Tp H v [.str t, .str x]
  | v, .yes => TpK K H v [.str "yes"]
  | v, .nt a => ∃ x, TpK K H v [.str "not", x] ∧ EK K H x a
  | v, .two k a b => ∃ x y, TpK K H v [.str k.str, x, y] ∧ EK K H x a ∧ EK K H y b
theorem EK.keep {K : PySem.W.Frag} {H H' : Hp} (k : TK H H') : ∀ {e : E} {v : V}, EK K H v e → EK K H' v e
  | .num _, _, h => TpK.keep k h
  | .box _ _, _, h => Tp.keep k h
  | .yes, _, h => TpK.keep k h
  | .nt _, _, ⟨x, h, a⟩ => ⟨x, h.keep k, EK.keep k a⟩
  | .two _ _ _, _, ⟨x, y, h, a, b⟩ => ⟨x, y, h.keep k, EK.keep k a, EK.keep k b⟩
theorem EAt.ek {K : PySem.W.Frag} {H : Hp} : ∀ {e : E} {v : V}, EAt H v e → EK K H v e
  | .num _, _, h => Tp.k h
  | .box _ _, _, h => h
  | .yes, _, h => Tp.k h
  | .nt _, _, ⟨x, h, a⟩ => ⟨x, Tp.k h, EAt.ek a⟩
  | .two _ _ _, _, ⟨x, y, h, a, b⟩ => ⟨x, y, Tp.k h, EAt.ek a, EAt.ek b⟩
/-- joined by both, in some way -/
inductive Bt : E → List E → Prop
  | one (e : E) : Bt e [e]
  | two {a b : E} {xs ys : List E} : Bt a xs → Bt b ys → Bt (.two .both a b) (xs ++ ys)
theorem Bt.pos {e : E} {es : List E} (h : Bt e es) : 1 ≤ es.length := by
  induction h with
  | one e => exact Nat.le_refl _
  | two _ _ h1 h2 => rw [List.length_append]; omega
theorem Bt.dep {e : E} {es : List E} (h : Bt e es) {d : Nat} (hd : ∀ x ∈ es, x.dep ≤ d) : e.dep + 1 ≤ d + es.length := by
  induction h with
  | one e => have := hd e List.mem_cons_self; show e.dep + 1 ≤ d + 1; omega
  | @two a b xs ys p1 p2 h1 h2 =>
    have := h1 fun x hx => hd x (List.mem_append_left _ hx)
    have := h2 fun x hx => hd x (List.mem_append_right _ hx)
    have := p1.pos
    have := p2.pos
    show max a.dep b.dep + 1 + 1 ≤ d + (xs ++ ys).length
    rw [List.length_append]
    omega
abbrev sameE (x : Str) : E := .two .same (.box "mine" x) (.box "yours" x)
theorem Paired.take {α β : Type} {F : α → β → Prop} : ∀ {a : List α} {b : List β} (n : Nat), Paired F a b → Paired F (a.take n) (b.take n)
  | _, _, 0, _ => by rw [List.take_zero, List.take_zero]; exact .nil
  | _, _, _ + 1, .nil => .nil
  | _, _, n + 1, .cons r t => .cons r (Paired.take n t)
theorem Paired.drop {α β : Type} {F : α → β → Prop} : ∀ {a : List α} {b : List β} (n : Nat), Paired F a b → Paired F (a.drop n) (b.drop n)
  | _, _, 0, h => by rw [List.drop_zero, List.drop_zero]; exact h
  | _, _, _ + 1, .nil => .nil
  | _, _, n + 1, .cons _ t => Paired.drop n t
abbrev sRNN : Stmt := top 11
abbrev sLedA : Stmt := top 12
abbrev sWithN : Stmt := top 13
abbrev sJoined : Stmt := top 7
abbrev sAllOf : Stmt := top 8
abbrev sBoxS : Stmt := top 14
abbrev sAllS : Stmt := top 15
abbrev sLevE : Stmt := top 16
/-! ### what told_over needs -/
def spRNN : Sp := fun vs H Q _ => ∃ (p l B I N : Addr) (vn : List V) (hs : List Int), vs = [.ref p, .ref l] ∧ H p = some (.tup [.ref B, .ref I, .ref N]) ∧ H N = some (.lst vn) ∧ H l = some (.lst (hs.map V.int)) ∧ (∀ h ∈ hs, 0 ≤ h ∧ h < (vn.length : Int)) ∧ Q .non H
theorem scRNN : FnScope ["program", "numbers", "number"] ["program", "numbers"] (defScope sRNN) := ⟨rfl, rfl, rfl, by decide +kernel, rfl, by decide +kernel, by decide +kernel⟩
theorem gRNN_len : (defScope sRNN).names.lookup (Str.ofString "len") = some .globalImplicit := by decide +kernel
theorem ok_rNN {f : Addr} {fd : FuncData} (F : Fun K "refuse_no_nodes" "refuse_no_nodes" sRNN f fd) (m_len : mg "len" = none) : FnOk P w K mg base CX0 1 f fd ["program", "numbers"] spRNN := by
  refine F.ok scRNN (fun vs H Q E h => ?_) (fun cdv A outer s H vs Q E hr h => ?_)
  · obtain ⟨p, l, B, I, N, vn, h0, rfl, _⟩ := h
    rfl
  · obtain ⟨p, l, B, I, N, vn, hs, rfl, hp, hN, hl, hh, q⟩ := h
    refine goL ⟨_, (L3.one (L3.for_ (L3.iL (L3.v 1)) (L3.gn 2 scRNN.nd) (L3.one (L3.ifs (L3.tw (L3.or2 (L3.cmp L3.o_lt (L3.v 2) L3.int) (L3.or1 (L3.cmp L3.o_ge (L3.v 2) (L3.callB L3.c_len gRNN_len m_len PySem.boot_len (L3.k (L3.ix L3.ixT (L3.v 0) L3.int) L3.n)))))) L3.never L3.nil)))), ?_⟩
    refine ⟨_, rfl, l, rfl, ⟨_, SqL.of hl⟩, ?_⟩
    refine for_list (xs := hs.map V.int) (fun i σ Hx => (∃ o, σ = [some (.ref p), some (.ref l), o]) ∧ Hx = H) ⟨⟨_, rfl⟩, rfl⟩ (fun i σ Hx _ z => by rw [z.2]; exact SqL.of hl) (fun i x0 σ Hx hx z => ?_) (fun σ Hx z => by rw [z.2]; exact q)
    obtain ⟨⟨o, rfl⟩, rfl⟩ := z
    obtain ⟨h0, hx0, rfl⟩ := map_get hx
    have hh2 := hh h0 (List.mem_of_getElem? hx0)
    refine gn_go ?_
    refine ⟨_, rfl, _, _, rfl, rfl, _, rfl, iteF' (decide_eq_false (by omega)) ?_⟩
    refine ⟨_, rfl, _, rfl, p, _, _, _, rfl, rfl, SqT.of hp, rfl, N, _, rfl, .inl (SqL.of hN), _, _, rfl, rfl, _, rfl, iteF' (decide_eq_false (by omega)) ?_⟩
    exact ⟨⟨_, rfl⟩, rfl⟩
theorem has_rNN (s : Src K mg "refuse_no_nodes" sRNN) (m_len : mg "len" = none) : Has P w K mg base "refuse_no_nodes" ["program", "numbers"] 1 spRNN :=
  let ⟨f, fd, F, m⟩ := s
  ⟨f, fd, ok_rNN F m_len, F.kp, bnd2 F fun _ _ _ _ _ _ _ _ => rfl, m⟩
theorem cut_hi (xs : List V) (k : Nat) (h : k ≤ xs.length) : cutV xs none (some (k : Int)) = xs.take k := by
  unfold cutV
  have e2 : HT.sIx xs.length xs.length (some ((k : Nat) : Int)) = min k xs.length := HT.sIx_nat _ _ _
  rw [e2, HT.sIx_none, List.drop_zero, Nat.sub_zero, Nat.min_eq_left h]
def spLedA : Sp := fun vs H Q _ => ∃ (v : V) (l : Addr) (e : Np) (ls : List Int), vs = [v, .ref l] ∧ NpAt H v e ∧ H l = some (.lst (ls.map V.int)) ∧ ls.length = e.leads.length ∧ ∀ (v' : V) (H' : Hp), Same H H' → NpAt H' v' (e.led ls) → Q v' H'
/-- a node's tuple: what is ahead of its leads -/
theorem NpAt.parts {H : Hp} : ∀ {e : Np} {v : V}, NpAt H v e → ∃ (p : Addr) (as : List V), v = .ref p ∧ H p = some (.tup (as ++ e.leads.map V.int)) ∧ as ≠ [] ∧ as.length ≤ 3 ∧ ∀ (ls : List Int) (H' : Hp) (p' : Addr), TK H H' → ls.length = e.leads.length → H' p' = some (.tup (as ++ ls.map V.int)) → NpAt H' (.ref p') (e.led ls)
  | .put x s n, _, ⟨u, ⟨p, rfl, h⟩, a⟩ => ⟨p, [.str "put", .str x, u], rfl, h, (fun z => nomatch z), (by show 3 ≤ 3; decide), fun ls H' p' k hl h' => by
    match ls, hl with
    | [m], _ => exact ⟨u, ⟨p', rfl, h'⟩, a.keep k⟩⟩
  | .say s n, _, ⟨u, ⟨p, rfl, h⟩, a⟩ => ⟨p, [.str "say", u], rfl, h, (fun z => nomatch z), (by show 2 ≤ 3; decide), fun ls H' p' k hl h' => by
    match ls, hl with
    | [m], _ => exact ⟨u, ⟨p', rfl, h'⟩, a.keep k⟩⟩
  | .test c n o, _, ⟨u, ⟨p, rfl, h⟩, a⟩ => ⟨p, [.str "test", u], rfl, h, (fun z => nomatch z), (by show 2 ≤ 3; decide), fun ls H' p' k hl h' => by
    match ls, hl with
    | [m, m2], _ => exact ⟨u, ⟨p', rfl, h'⟩, a.keep k⟩⟩
  | .pick x n, _, ⟨p, rfl, h⟩ => ⟨p, [.str "pick", .str x], rfl, h, (fun z => nomatch z), (by show 2 ≤ 3; decide), fun ls H' p' k hl h' => by
    match ls, hl with
    | [m], _ => exact ⟨p', rfl, h'⟩⟩
  | .fin, _, ⟨p, rfl, h⟩ => ⟨p, [.str "end"], rfl, h, (fun z => nomatch z), by decide, fun ls H' p' k hl h' => by
    match ls, hl with
    | [], _ => exact ⟨p', rfl, h'⟩⟩
theorem Np.leads2 : ∀ e : Np, e.leads.length ≤ 2
  | .put _ _ _ => (by decide : 1 ≤ 2) | .say _ _ => (by decide : 1 ≤ 2) | .test _ _ _ => (by decide : 2 ≤ 2) | .pick _ _ => (by decide : 1 ≤ 2) | .fin => (by decide : 0 ≤ 2)
theorem scLedA : FnScope ["node", "leads"] ["node", "leads"] (defScope sLedA) := ⟨rfl, rfl, rfl, by decide +kernel, rfl, by decide +kernel, by decide +kernel⟩
theorem gLedA_len : (defScope sLedA).names.lookup (Str.ofString "len") = some .globalImplicit := by decide +kernel
theorem gLedA_tuple : (defScope sLedA).names.lookup (Str.ofString "tuple") = some .globalImplicit := by decide +kernel
theorem ok_ledA {f : Addr} {fd : FuncData} (F : Fun K "led_anew" "led_anew" sLedA f fd) (m_len : mg "len" = none) (m_tuple : mg "tuple" = none) : FnOk P w K mg base CX0 1 f fd ["node", "leads"] spLedA := by
  refine F.ok scLedA (fun vs H Q E h => ?_) (fun cdv A outer s H vs Q E hr h => ?_)
  · obtain ⟨v, l, e, ls, rfl, _⟩ := h
    rfl
  · obtain ⟨v, l, e, ls, rfl, na, hl, ll, q⟩ := h
    obtain ⟨p, as, rfl, hp, asn, as3, mk⟩ := na.parts
    have e2 := e.leads2
    have lt : (as ++ e.leads.map V.int).length = as.length + e.leads.length := by rw [List.length_append, List.length_map]
    refine goL ⟨_, (L3.one (L3.ret (L3.op L3.o_catT (L3.slA2 (L3.v 0) (L3.op L3.o_sub (L3.callB L3.c_len gLedA_len m_len PySem.boot_len (L3.k (L3.v 0) L3.n)) (L3.callB L3.c_len gLedA_len m_len PySem.boot_len (L3.k (L3.v 1) L3.n)))) (L3.callT L3.c_tuple gLedA_tuple m_tuple (by decide +kernel) (L3.k (L3.v 1) L3.n))))), ?_⟩
    refine ⟨_, rfl, _, rfl, p, _, rfl, .inr (SqT.of hp), _, rfl, l, _, rfl, .inl (SqL.of hl), _, _, rfl, rfl, _, rfl, ?_⟩
    have ek : (((as ++ e.leads.map V.int).length : Int) - ((ls.map V.int).length : Int)) = ((as.length : Nat) : Int) := by rw [lt, List.length_map, ll]; omega
    rw [ek]
    have ec : cutV (as ++ e.leads.map V.int) none (some ((as.length : Nat) : Int)) = as := by rw [cut_hi _ _ (by omega), List.take_left]
    have i1 : HT.sIx (as ++ e.leads.map V.int).length (as ++ e.leads.map V.int).length (some ((as.length : Nat) : Int)) = min as.length (as ++ e.leads.map V.int).length := HT.sIx_nat _ _ _
    have last : ∀ (a1 : Addr) (H1 : Hp), Same H H1 → H1 a1 = some (.tup as) → ∃ p1 ys, [V.ref l] = [.ref p1] ∧ SqL K H1 p1 ys ∧ ∀ t1, H1 t1 = none → rCatT K (.ref a1) (.ref t1) (upd H1 t1 (.tup ys)) Q := fun a1 H1 s1 g1 => by
      refine ⟨l, _, rfl, SqL.of (s1 _ _ hl), fun t1 ht1 => ?_⟩
      have s2 := same_new ht1 (.tup (ls.map V.int))
      have g2 : (upd H1 t1 (.tup (ls.map V.int))) t1 = some (.tup (ls.map V.int)) := upd_same
      generalize upd H1 t1 (.tup (ls.map V.int)) = H2 at s2 g2 ⊢
      refine ⟨a1, t1, _, _, rfl, rfl, SqT.of (s2 _ _ g1), SqT.of g2, asn, Nat.le_trans (show _ ≤ 1000 by rw [List.length_map]; omega) (by decide), fun z => ?_, fun _ p' hp' => ?_⟩
      · refine q _ _ (same_trans s1 s2) (mk ls H2 a1 (Same.tk (same_trans s1 s2)) ll ?_)
        rw [z, List.append_nil]
        exact s2 _ _ g1
      · exact q _ _ (same_add (same_trans s1 s2) hp') (mk ls _ p' (Same.tk (same_add (same_trans s1 s2) hp')) ll upd_same)
    by_cases hw : e.leads = []
    · refine .inr ⟨p, _, rfl, SqT.of hp, ⟨rfl, ?_⟩, ?_⟩
      · rw [i1, lt, hw]
        show min as.length (as.length + 0) = as.length + 0
        omega
      · have hp2 : H p = some (.tup as) := by rw [hp, hw]; simp
        exact ⟨_, rfl, last p H (same_refl _) hp2⟩
    · refine .inl ⟨p, _, rfl, SqT.of hp, fun z => ?_, fun a1 ha1 => ?_⟩
      · have z2 := z.2
        have : 0 < e.leads.length := by
          cases h : e.leads with
          | nil => exact absurd h hw
          | cons a l => exact Nat.succ_pos _
        rw [i1, lt] at z2
        omega
      · rw [ec]
        exact ⟨_, rfl, last a1 _ (same_new ha1 _) upd_same⟩
theorem has_ledA (s : Src K mg "led_anew" sLedA) (m_len : mg "len" = none) (m_tuple : mg "tuple" = none) : Has P w K mg base "led_anew" ["node", "leads"] 1 spLedA :=
  let ⟨f, fd, F, m⟩ := s
  ⟨f, fd, ok_ledA F m_len m_tuple, F.kp, bnd2 F fun _ _ _ _ _ _ _ _ => rfl, m⟩
def spWithN : Sp := fun vs H Q _ => ∃ (p n B I N : Addr) (vb vi : List V), vs = [.ref p, .ref n] ∧ H p = some (.tup [.ref B, .ref I, .ref N]) ∧ H B = some (.lst vb) ∧ H I = some (.lst vi) ∧ ∀ (p' B' I' : Addr) (H' : Hp), Same H H' → H' p' = some (.tup [.ref B', .ref I', .ref n]) → H' B' = some (.lst vb) → H' I' = some (.lst vi) → H B' = none → H I' = none → B' ≠ I' → Q (.ref p') H'
theorem scWithN : FnScope ["program", "nodes"] ["program", "nodes"] (defScope sWithN) := ⟨rfl, rfl, rfl, by decide +kernel, rfl, by decide +kernel, by decide +kernel⟩
theorem gWithN_list : (defScope sWithN).names.lookup (Str.ofString "list") = some .globalImplicit := by decide +kernel
theorem ok_withN {f : Addr} {fd : FuncData} (F : Fun K "with_nodes" "with_nodes" sWithN f fd) (m_list : mg "list" = none) : FnOk P w K mg base CX0 1 f fd ["program", "nodes"] spWithN := by
  refine F.ok scWithN (fun vs H Q E h => ?_) (fun cdv A outer s H vs Q E hr h => ?_)
  · obtain ⟨p, n, B, I, N, vb, vi, rfl, _⟩ := h
    rfl
  · obtain ⟨p, n, B, I, N, vb, vi, rfl, hp, hB, hI, q⟩ := h
    refine goL ⟨_, (L3.one (L3.ret (L3.tup (L3.k (L3.callT L3.c_list gWithN_list m_list (by decide +kernel) (L3.k (L3.ix L3.ixT (L3.v 0) L3.int) L3.n)) (L3.k (L3.callT L3.c_list gWithN_list m_list (by decide +kernel) (L3.k (L3.ix L3.ixT (L3.v 0) L3.int) L3.n)) (L3.k (L3.v 1) L3.n)))))), ?_⟩
    refine ⟨_, rfl, p, _, _, _, rfl, rfl, SqT.of hp, rfl, B, _, rfl, .inl (SqL.of hB), fun B' hB' => ?_⟩
    have sb : Same H (upd H B' (.lst vb)) := same_new hB' _
    have gb : (upd H B' (.lst vb)) B' = some (.lst vb) := upd_same
    generalize upd H B' (.lst vb) = H1 at sb gb ⊢
    refine ⟨_, rfl, p, _, _, _, rfl, rfl, SqT.of (sb _ _ hp), rfl, I, _, rfl, .inl (SqL.of (sb _ _ hI)), fun I' hI' => ?_⟩
    have si : Same H1 (upd H1 I' (.lst vi)) := same_new hI' _
    have gi : (upd H1 I' (.lst vi)) I' = some (.lst vi) := upd_same
    generalize upd H1 I' (.lst vi) = H2 at si gi ⊢
    refine ⟨_, rfl, (by show 3 ≤ sizeLine; decide), fun p' hp' => ?_⟩
    have s3 := same_new hp' (.tup [.ref B', .ref I', .ref n])
    exact q p' B' I' _ (same_trans sb (same_trans si s3)) upd_same (s3 _ _ (si _ _ gb)) (s3 _ _ gi) hB' (none_of_same sb hI') (ne_of_none gb hI')
theorem has_withN (s : Src K mg "with_nodes" sWithN) (m_list : mg "list" = none) : Has P w K mg base "with_nodes" ["program", "nodes"] 1 spWithN :=
  let ⟨f, fd, F, m⟩ := s
  ⟨f, fd, ok_withN F m_list, F.kp, bnd2 F fun _ _ _ _ _ _ _ _ => rfl, m⟩
def spJoin (K : PySem.W.Frag) (n : Nat) : Sp := fun vs H Q _ => ∃ (l : Addr) (us : List V) (es : List E), vs = [.str "both", .ref l] ∧ H l = some (.lst us) ∧ Paired (EK K H) us es ∧ 1 ≤ us.length ∧ us.length < n ∧ n ≤ 900 ∧ ∀ (v : V) (e : E) (H' : Hp), Same H H' → EK K H' v e → Bt e es → Q v H'
theorem none_joined {f : Addr} {fd : FuncData} : FnOk P w K mg base CX0 1 f fd ["word", "parts"] ((spJoin K) 0) := by
  have no : ∀ vs H Q E, ¬ (spJoin K) 0 vs H Q E := fun vs H Q E h => by
    obtain ⟨l, us, es, _, _, _, _, h, _⟩ := h
    omega
  exact ⟨fun vs H Q E h => absurd h (no vs H Q E), fun A outer s H args us vs Q E _ _ _ _ h => absurd h (no vs H Q E)⟩
theorem scJoined : FnScope ["word", "parts", "half"] ["word", "parts"] (defScope sJoined) := ⟨rfl, rfl, rfl, by decide +kernel, rfl, by decide +kernel, by decide +kernel⟩
theorem gJoined_joined_by : (defScope sJoined).names.lookup (Str.ofString "joined_by") = some .globalImplicit := by decide +kernel
theorem gJoined_len : (defScope sJoined).names.lookup (Str.ofString "len") = some .globalImplicit := by decide +kernel
theorem cut_lo (xs : List V) (k : Nat) (h : k ≤ xs.length) : cutV xs (some (k : Int)) none = xs.drop k := by
  unfold cutV
  have e2 : HT.sIx xs.length 0 (some ((k : Nat) : Int)) = min k xs.length := HT.sIx_nat _ _ _
  rw [e2, HT.sIx_none, Nat.min_eq_left h, List.take_of_length_le (by rw [List.length_drop]; omega)]
theorem ok_joined {n : Nat} {f : Addr} {fd : FuncData} (F : Fun K "joined_by" "joined_by" sJoined f fd) (m_len : mg "len" = none) (G : Has P w K mg base "joined_by" ["word", "parts"] (n + 1) (spJoin K n)) : FnOk P w K mg base CX0 (n + 1 + 1) f fd ["word", "parts"] (spJoin K (n + 1)) := by
  refine F.ok scJoined (fun vs H Q E h => ?_) (fun cdv A outer s H vs Q E hr h => ?_)
  · obtain ⟨l, us, es, rfl, _⟩ := h
    rfl
  · obtain ⟨l, us, es, rfl, hl, pe, l1, ln, n9, q⟩ := h
    refine goL ⟨_, (L3.cons (L3.ifs (L3.cmp L3.o_eq (L3.callB L3.c_len gJoined_len m_len PySem.boot_len (L3.k (L3.v 1) L3.n)) L3.int) (L3.one (L3.ret (L3.ix L3.ixL (L3.v 1) L3.int))) L3.nil)
      (L3.cons (L3.set 2 scJoined.nd (L3.op L3.o_div (L3.callB L3.c_len gJoined_len m_len PySem.boot_len (L3.k (L3.v 1) L3.n)) L3.int))
      (L3.one (L3.ret (L3.tup (L3.k (L3.v 0) (L3.k (L3.own G hr gJoined_joined_by (L3.k (L3.v 0) (L3.k (L3.slL2 (L3.v 1) (L3.v 2)) L3.n))) (L3.k (L3.own G hr gJoined_joined_by (L3.k (L3.v 0) (L3.k (L3.slL1 (L3.v 1) (L3.v 2)) L3.n))) L3.n)))))))), ?_⟩
    refine cut1 fun Rk kR => ?_
    refine ⟨_, rfl, l, _, rfl, .inl (SqL.of hl), rfl, _, rfl, ?_⟩
    refine ite2 (fun c => ?_) (fun c => ?_)
    · have c1 : us.length = 1 := by
        have := int_eq c
        omega
      match us, es, pe, hl, c1 with
      | [u], [e], .cons r .nil, hl, _ => exact ⟨_, rfl, l, _, _, _, rfl, rfl, SqL.of hl, at0, q _ e _ (same_refl _) r (.one e)⟩
    have c1 : us.length ≠ 1 := fun z => c (decide_eq_true (by rw [z]; rfl))
    refine kR _ _ ?_
    refine cut1 fun Rk kR => ?_
    refine ⟨_, rfl, l, _, rfl, .inl (SqL.of hl), _, _, rfl, rfl, ⟨by decide, by decide +kernel⟩, ?_⟩
    refine gn_go ?_
    refine kR _ _ ?_
    refine normS [some (.str "both"), some (.ref l), some (.int ((us.length / 2 : Nat) : Int))] (by show [some (V.str "both"), some (V.ref l), some (V.int ((us.length : Int) / 2))] = _; rw [show (us.length : Int) / 2 = ((us.length / 2 : Nat) : Int) by omega]) ?_
    refine ⟨_, rfl, _, rfl, _, rfl, _, rfl, _, rfl, l, _, rfl, SqL.of hl, fun a1 ha1 => ?_⟩
    rw [cut_hi _ _ (by omega)]
    have s1 := same_new ha1 (.lst (us.take (us.length / 2)))
    have g1 : (upd H a1 (.lst (us.take (us.length / 2)))) a1 = some (.lst (us.take (us.length / 2))) := upd_same
    generalize upd H a1 (.lst (us.take (us.length / 2))) = H1 at s1 g1 ⊢
    refine ⟨a1, _, es.take (us.length / 2), rfl, g1, Paired.take _ (Paired.mapP pe fun _ _ z => EK.keep (Same.tk s1) z), by rw [List.length_take]; omega, by rw [List.length_take]; omega, by omega, fun v1 e1 H2 s2 ek1 bt1 => ?_⟩
    refine ⟨_, rfl, _, rfl, _, rfl, _, rfl, l, _, rfl, SqL.of (s2 _ _ (s1 _ _ hl)), fun a2 ha2 => ?_⟩
    rw [cut_lo _ _ (by omega)]
    have s3 := same_new ha2 (.lst (us.drop (us.length / 2)))
    have g3 : (upd H2 a2 (.lst (us.drop (us.length / 2)))) a2 = some (.lst (us.drop (us.length / 2))) := upd_same
    generalize upd H2 a2 (.lst (us.drop (us.length / 2))) = H3 at s3 g3 ⊢
    refine ⟨a2, _, es.drop (us.length / 2), rfl, g3, Paired.drop _ (Paired.mapP pe fun _ _ z => EK.keep (Same.tk (same_trans s1 (same_trans s2 s3))) z), by rw [List.length_drop]; omega, by rw [List.length_drop]; omega, by omega, fun v2 e2 H4 s4 ek2 bt2 => ⟨(by show 3 ≤ sizeLine; decide), fun p hp => ?_⟩⟩
    have sp := same_new hp (.tup [.str "both", v1, v2])
    have bt := Bt.two bt1 bt2
    rw [List.take_append_drop] at bt
    exact q _ (.two .both e1 e2) _ (same_add (same_trans (same_trans s1 s2) (same_trans s3 s4)) hp) ⟨v1, v2, Tp.k ⟨p, rfl, upd_same⟩, EK.keep (Same.tk (same_trans (same_trans s3 s4) sp)) ek1, EK.keep (Same.tk sp) ek2⟩ bt
theorem has_joined (s : Src K mg "joined_by" sJoined) (m_len : mg "len" = none) : ∀ n : Nat, Has P w K mg base "joined_by" ["word", "parts"] (n + 1) ((spJoin K) n) := by
  obtain ⟨f, fd, F, m⟩ := s
  have b : Binds K fd ["word", "parts"] [] := bnd2 F fun _ _ _ _ _ _ _ _ => rfl
  intro n
  have all : FnOk P w K mg base CX0 (n + 1) f fd ["word", "parts"] ((spJoin K) n) := by
    induction n with
    | zero => exact none_joined
    | succ n ih => exact ok_joined F m_len ⟨f, fd, ih, F.kp, b, m⟩
  exact ⟨f, fd, all, F.kp, b, m⟩
def spAllOf (K : PySem.W.Frag) : Sp := fun vs H Q _ => ∃ (l : Addr) (us : List V) (es : List E), vs = [.ref l] ∧ H l = some (.lst us) ∧ Paired (EK K H) us es ∧ 1 ≤ us.length ∧ us.length ≤ 5 ∧ ∀ (v : V) (e : E) (H' : Hp), Same H H' → EK K H' v e → Bt e es → Q v H'
theorem scAllOf : FnScope ["conditions"] ["conditions"] (defScope sAllOf) := ⟨rfl, rfl, rfl, by decide +kernel, rfl, by decide +kernel, by decide +kernel⟩
theorem gAllOf_joined_by : (defScope sAllOf).names.lookup (Str.ofString "joined_by") = some .globalImplicit := by decide +kernel
theorem ok_allOf {f : Addr} {fd : FuncData} (F : Fun K "all_of" "all_of" sAllOf f fd) (J : Has P w K mg base "joined_by" ["word", "parts"] 7 (spJoin K 6)) : FnOk P w K mg base CX0 8 f fd ["conditions"] (spAllOf K) := by
  refine F.ok scAllOf (fun vs H Q E h => ?_) (fun cdv A outer s H vs Q E hr h => ?_)
  · obtain ⟨l, us, es, rfl, _⟩ := h
    rfl
  · obtain ⟨l, us, es, rfl, hl, pe, l1, l5, q⟩ := h
    refine goL ⟨_, (L3.one (L3.ret (L3.own J hr gAllOf_joined_by (L3.k L3.str (L3.k (L3.v 0) L3.n))))), ?_⟩
    exact ⟨_, rfl, l, us, es, rfl, hl, pe, l1, by omega, by decide, q⟩
theorem has_allOf (s : Src K mg "all_of" sAllOf) (J : Has P w K mg base "joined_by" ["word", "parts"] 7 (spJoin K 6)) : Has P w K mg base "all_of" ["conditions"] 8 (spAllOf K) :=
  let ⟨f, fd, F, m⟩ := s
  ⟨f, fd, ok_allOf F J, F.kp, bnd1 F fun _ _ _ _ _ _ _ => rfl, m⟩
def spBoxS (K : PySem.W.Frag) : Sp := fun vs H Q _ => ∃ (l : Addr) (ns : List Str), vs = [.ref l] ∧ H l = some (.lst (ns.map V.str)) ∧ ns.length ≤ 4 ∧ ∀ (v : V) (e : E) (H' : Hp), Same H H' → EK K H' v e → Bt e (.yes :: ns.map sameE) → Q v H'
theorem scBoxS : FnScope ["names"] ["names"] (defScope sBoxS) := ⟨rfl, rfl, rfl, by decide +kernel, rfl, by decide +kernel, by decide +kernel⟩
theorem gBoxS_YES : (defScope sBoxS).names.lookup (Str.ofString "YES") = some .globalImplicit := by decide +kernel
theorem gBoxS_all_of : (defScope sBoxS).names.lookup (Str.ofString "all_of") = some .globalImplicit := by decide +kernel
theorem ok_boxS {tY : Addr} {f : Addr} {fd : FuncData} (F : Fun K "boxes_same" "boxes_same" sBoxS f fd) (mY : mg "YES" = some (.ref tY)) (cY : ∀ H : Hp, SqT K H tY [.str "yes"]) (AO : Has P w K mg base "all_of" ["conditions"] 8 (spAllOf K)) : FnOk P w K mg base CX0 9 f fd ["names"] (spBoxS K) := by
  refine F.ok scBoxS (fun vs H Q E h => ?_) (fun cdv A outer s H vs Q E hr h => ?_)
  · obtain ⟨l, ns, rfl, _⟩ := h
    rfl
  · obtain ⟨l, ns, rfl, hl, n4, q⟩ := h
    refine goL ⟨_, (L3.one (L3.ret (L3.own AO hr gBoxS_all_of (L3.k (L3.op L3.o_cat (L3.lst (L3.k (L3.glob (w := .ref tY) gBoxS_YES mY rfl) L3.n)) (L3.lc [none] ["name"] (show CompScope _ (defScope sBoxS) from ⟨rfl, by decide +kernel, by decide +kernel, by decide +kernel⟩) (by rfl) (L3.iL (L3.v 0)) (fun _ _ _ _ _ => ⟨(L3.gn 0 (show (["name"] : List Str).Nodup from by decide +kernel)), L3.if0, (L3.tup (L3.k L3.str (L3.k (L3.tup (L3.k L3.str (L3.k (L3.v 0) L3.n))) (L3.k (L3.tup (L3.k L3.str (L3.k (L3.v 0) L3.n))) L3.n))))⟩))) L3.n)))), ?_⟩
    refine ⟨(by show 1 ≤ sizeLine; decide), fun l1 hl1 => ?_⟩
    have s1 : Same H (upd H l1 (.lst [.ref tY])) := same_new hl1 _
    have g1 : (upd H l1 (.lst [.ref tY])) l1 = some (.lst [.ref tY]) := upd_same
    generalize upd H l1 (.lst [.ref tY]) = H1 at s1 g1 ⊢
    have hl' := s1 _ _ hl
    refine ⟨_, rfl, l, rfl, ⟨_, SqL.of hl'⟩, fun D hD => ?_⟩
    refine comp_list (xs := ns.map V.str) (fun i Hx => Same H1 Hx ∧ ∃ us, Hx D = some (.lst us) ∧ us.length = i ∧ Paired (EK K Hx) us ((ns.take i).map sameE)) ⟨same_new hD _, [], upd_same, rfl, .nil⟩ (fun i Hx _ z => SqL.of (z.1 _ _ hl')) (fun i x0 Hx hx z => ?_) (fun Hx z => ?_)
    · obtain ⟨sx, us, gD, ul, pe⟩ := z
      have hil := (List.getElem?_eq_some_iff.mp hx).1
      rw [List.length_map] at hil
      obtain ⟨xn, hxn, rfl⟩ := map_get hx
      refine gn_go ?_
      refine turn0 (A := fun H5 => mApp _ D _ H5 _) ?_
      refine ⟨_, rfl, (by show 2 ≤ sizeLine; decide), fun a1 ha1 => ⟨_, rfl, (by show 2 ≤ sizeLine; decide), fun a2 ha2 => ⟨(by show 3 ≤ sizeLine; decide), fun a3 ha3 => ?_⟩⟩⟩
      have sa3 := same_new ha3 (.tup [.str "same", .ref a1, .ref a2])
      have sa2 := same_trans (same_new ha2 (.tup [.str "yours", .str xn])) sa3
      have sa := same_trans (same_new ha1 (.tup [.str "mine", .str xn])) sa2
      have gDa := sa _ _ gD
      have k1 := sa2 a1 (.tup [.str "mine", .str xn]) upd_same
      have k2 := sa3 a2 (.tup [.str "yours", .str xn]) upd_same
      have k3 : (upd (upd (upd Hx a1 (.tup [.str "mine", .str xn])) a2 (.tup [.str "yours", .str xn])) a3 (.tup [.str "same", .ref a1, .ref a2])) a3 = some (.tup [.str "same", .ref a1, .ref a2]) := upd_same
      generalize upd (upd (upd Hx a1 (.tup [.str "mine", .str xn])) a2 (.tup [.str "yours", .str xn])) a3 (.tup [.str "same", .ref a1, .ref a2]) = Hy at sa gDa k1 k2 k3 ⊢
      have tk9 : TK Hy (upd Hy D (.lst (us ++ [.ref a3]))) := TW.TK.lst gDa
      refine ⟨us, gDa, small1000 (by omega), comp_end (Pv := fun i Hx => Same H1 Hx ∧ ∃ us, Hx D = some (.lst us) ∧ us.length = i ∧ Paired (EK K Hx) us ((ns.take i).map sameE)) (by repeat' constructor) (by rw [List.length_map]; exact hil) ⟨same_put (same_trans sx sa) hD, us ++ [.ref a3], upd_same, by rw [List.length_append, ul]; rfl, ?_⟩⟩
      rw [List.take_add_one, hxn, List.map_append]
      exact Paired.snoc (Paired.mapP pe fun _ _ z => EK.keep ((Same.tk sa).trans tk9) z) ⟨_, _, Tp.k ⟨a3, rfl, tk9 _ _ k3⟩, ⟨a1, rfl, tk9 _ _ k1⟩, ⟨a2, rfl, tk9 _ _ k2⟩⟩
    obtain ⟨sx, us, gD, ul, pe⟩ := z
    rw [List.length_map] at ul
    rw [List.length_map, List.take_length] at pe
    refine ⟨l1, D, _, _, rfl, rfl, sx _ _ g1, gD, small (by rw [List.length_singleton]; omega), fun r hr2 => ?_⟩
    have sr := same_new hr2 (.lst ([.ref tY] ++ us))
    refine ⟨r, _, .yes :: ns.map sameE, rfl, upd_same, .cons ⟨tY, rfl, .inr cY⟩ (Paired.mapP pe fun _ _ z => EK.keep (Same.tk sr) z), by rw [List.length_append, List.length_singleton]; omega, by rw [List.length_append, List.length_singleton]; omega, fun v e H' s' ek bt => ?_⟩
    exact q v e H' (same_trans (same_add (same_trans s1 sx) hr2) s') ek bt
theorem has_boxS {tY : Addr} (s : Src K mg "boxes_same" sBoxS) (mY : mg "YES" = some (.ref tY)) (cY : ∀ H : Hp, SqT K H tY [.str "yes"]) (AO : Has P w K mg base "all_of" ["conditions"] 8 (spAllOf K)) : Has P w K mg base "boxes_same" ["names"] 9 (spBoxS K) :=
  let ⟨f, fd, F, m⟩ := s
  ⟨f, fd, ok_boxS F mY cY AO, F.kp, bnd1 F fun _ _ _ _ _ _ _ => rfl, m⟩
def spAllS (K : PySem.W.Frag) : Sp := fun vs H Q _ => ∃ (p B I N : Addr) (vb : List V) (bs : List (Str × Int)), vs = [.ref p] ∧ H p = some (.tup [.ref B, .ref I, .ref N]) ∧ H B = some (.lst vb) ∧ Paired (BoxAt H) vb bs ∧ bs.length ≤ 4 ∧ ∀ (v : V) (e : E) (H' : Hp), Same H H' → EK K H' v e → Bt e (.yes :: (bs.map (·.1)).map sameE) → Q v H'
theorem scAllS : FnScope ["program"] ["program"] (defScope sAllS) := ⟨rfl, rfl, rfl, by decide +kernel, rfl, by decide +kernel, by decide +kernel⟩
theorem gAllS_boxes_same : (defScope sAllS).names.lookup (Str.ofString "boxes_same") = some .globalImplicit := by decide +kernel
theorem ok_allS {f : Addr} {fd : FuncData} (F : Fun K "all_same" "all_same" sAllS f fd) (BS : Has P w K mg base "boxes_same" ["names"] 9 (spBoxS K)) : FnOk P w K mg base CX0 10 f fd ["program"] (spAllS K) := by
  refine F.ok scAllS (fun vs H Q E h => ?_) (fun cdv A outer s H vs Q E hr h => ?_)
  · obtain ⟨p, B, I, N, vb, bs, rfl, _⟩ := h
    rfl
  · obtain ⟨p, B, I, N, vb, bs, rfl, hp, hB, pb, b4, q⟩ := h
    have vl := Paired.length pb
    refine goL ⟨_, (L3.one (L3.ret (L3.own BS hr gAllS_boxes_same (L3.k (L3.lc [none, none] ["name", "size"] (show CompScope _ (defScope sAllS) from ⟨rfl, by decide +kernel, by decide +kernel, by decide +kernel⟩) (by rfl) (L3.iL (L3.ix L3.ixT (L3.v 0) L3.int)) (fun _ _ _ _ _ => ⟨(L3.gtup 2 (L3.gsk (L3.gn 0 (show (["name", "size"] : List Str).Nodup from by decide +kernel)) (L3.gsk (L3.gn 1 (show (["name", "size"] : List Str).Nodup from by decide +kernel)) L3.gsn))), L3.if0, (L3.v 0)⟩)) L3.n)))), ?_⟩
    refine ⟨_, rfl, p, _, _, _, rfl, rfl, SqT.of hp, rfl, B, rfl, ⟨_, SqL.of hB⟩, fun D hD => ?_⟩
    refine comp_list (xs := vb) (fun i Hx => Same H Hx ∧ Hx D = some (.lst (((bs.take i).map (·.1)).map V.str))) ⟨same_new hD _, upd_same⟩ (fun i Hx _ z => SqL.of (z.1 _ _ hB)) (fun i x0 Hx hx z => ?_) (fun Hx z => ?_)
    · obtain ⟨sx, gD⟩ := z
      have hil := (List.getElem?_eq_some_iff.mp hx).1
      obtain ⟨b, hbi, pp, rfl, hpp⟩ := Paired.get pb hx
      refine ⟨pp, _, rfl, SqT.of (sx _ _ hpp), rfl, _, _, rfl, _, _, rfl, rfl, ?_⟩
      refine turn0 (A := fun H5 => mApp _ D _ H5 _) ?_
      refine ⟨_, rfl, _, gD, small1000 (by rw [List.length_map, List.length_map, List.length_take]; omega), comp_end (Pv := fun i Hx => Same H Hx ∧ Hx D = some (.lst (((bs.take i).map (·.1)).map V.str))) (by repeat' constructor) hil ⟨same_put sx hD, ?_⟩⟩
      rw [upd_same, List.take_add_one, hbi, List.map_append, List.map_append]
      rfl
    obtain ⟨sx, gD⟩ := z
    rw [vl, List.take_length] at gD
    exact ⟨D, _, rfl, gD, by rw [List.length_map]; omega, fun v e H' s' ek bt => q v e H' (same_trans sx s') ek bt⟩
theorem has_allS (s : Src K mg "all_same" sAllS) (BS : Has P w K mg base "boxes_same" ["names"] 9 (spBoxS K)) : Has P w K mg base "all_same" ["program"] 10 (spAllS K) :=
  let ⟨f, fd, F, m⟩ := s
  ⟨f, fd, ok_allS F BS, F.kp, bnd1 F fun _ _ _ _ _ _ _ => rfl, m⟩
def Np.hd : Np → Str
  | .put _ _ _ => "put" | .say _ _ => "say" | .test _ _ _ => "test" | .pick _ _ => "pick" | .fin => "end"
theorem NpAt.head {H : Hp} : ∀ {e : Np} {v : V}, NpAt H v e → ∃ (p : Addr) (as : List V), v = .ref p ∧ H p = some (.tup (.str e.hd :: as))
  | .put _ _ _, _, ⟨_, ⟨p, h, a⟩, _⟩ => ⟨p, _, h, a⟩
  | .say _ _, _, ⟨_, ⟨p, h, a⟩, _⟩ => ⟨p, _, h, a⟩
  | .test _ _ _, _, ⟨_, ⟨p, h, a⟩, _⟩ => ⟨p, _, h, a⟩
  | .pick _ _, _, ⟨p, h, a⟩ => ⟨p, _, h, a⟩
  | .fin, _, ⟨p, h, a⟩ => ⟨p, _, h, a⟩
/-- an entry by which both step, or end -/
def LvAt (tO : Addr) (H : Hp) (v u : V) (e : Int × Int × Str) : Prop := Tp H v [.int e.1, .int e.2.1, u, .str (if e.2.2 = "end" then "end" else "both"), .ref tO]
theorem LvAt.keep {tO : Addr} {H H' : Hp} (k : TK H H') {v u : V} {e : Int × Int × Str} (h : LvAt tO H v u e) : LvAt tO H' v u e := Tp.keep k h
def spLevE (tO : Addr) : Sp := fun vs H Q _ => ∃ (p B I N : Addr) (vn : List V) (e : Np) (j : Nat) (n : Int) (u x : V), vs = [.ref p, .int (j : Int), .int n, u] ∧ H p = some (.tup [.ref B, .ref I, .ref N]) ∧ H N = some (.lst vn) ∧ vn[j]? = some x ∧ NpAt H x e ∧ ∀ (v : V) (H' : Hp), Same H H' → LvAt tO H' v u ((j : Int), n, e.hd) → Q v H'
theorem scLevE : FnScope ["program", "place", "new_place", "condition", "who"] ["program", "place", "new_place", "condition"] (defScope sLevE) := ⟨rfl, rfl, rfl, by decide +kernel, rfl, by decide +kernel, by decide +kernel⟩
theorem gLevE_NOUGHT : (defScope sLevE).names.lookup (Str.ofString "NOUGHT") = some .globalImplicit := by decide +kernel
theorem ok_levE {tO : Addr} {f : Addr} {fd : FuncData} (F : Fun K "level_entry" "level_entry" sLevE f fd) (mO : mg "NOUGHT" = some (.ref tO)) : FnOk P w K mg base CX0 1 f fd ["program", "place", "new_place", "condition"] (spLevE tO) := by
  refine F.ok scLevE (fun vs H Q E h => ?_) (fun cdv A outer s H vs Q E hr h => ?_)
  · obtain ⟨p, B, I, N, vn, e, j, n, u, x, rfl, _⟩ := h
    rfl
  · obtain ⟨p, B, I, N, vn, e, j, n, u, x, rfl, hp, hN, hx, na, q⟩ := h
    obtain ⟨px, as, rfl, hpx⟩ := na.head
    refine goL ⟨_, (L3.cons (L3.set 4 scLevE.nd (L3.ifE (L3.cmp L3.o_eq (L3.ix L3.ixT (L3.ix L3.ixL (L3.ix L3.ixT (L3.v 0) L3.int) (L3.v 1)) L3.int) L3.str) L3.str L3.str))
      (L3.one (L3.ret (L3.tup (L3.k (L3.v 1) (L3.k (L3.v 2) (L3.k (L3.v 3) (L3.k (L3.v 4) (L3.k (L3.glob (w := .ref tO) gLevE_NOUGHT mO rfl) L3.n))))))))), ?_⟩
    refine cut1 fun Rk kR => ?_
    refine ⟨_, rfl, p, _, _, _, rfl, rfl, SqT.of hp, rfl, _, rfl, N, _, _, _, rfl, rfl, SqL.of hN, atI_nat hx, px, _, _, _, rfl, rfl, SqT.of hpx, at0, rfl, _, rfl, ?_⟩
    have fin : Rk [some (.ref p), some (.int (j : Int)), some (.int n), some u, some (.str (if e.hd = "end" then "end" else "both"))] H := by
      refine kR _ _ ?_
      exact ⟨_, rfl, _, rfl, _, rfl, _, rfl, (by show 5 ≤ sizeLine; decide), fun p5 hp5 => q _ _ (same_new hp5 _) ⟨p5, rfl, upd_same⟩⟩
    refine ite2 (fun c => ?_) (fun c => ?_)
    · have c : e.hd = "end" := by
        have := of_decide_eq_true c
        injection this
      rw [if_pos c] at fin
      refine gn_go ?_
      exact fin
    · have c : ¬ e.hd = "end" := fun z => c (decide_eq_true (congrArg V.str z))
      rw [if_neg c] at fin
      refine gn_go ?_
      exact fin
theorem has_levE {tO : Addr} (s : Src K mg "level_entry" sLevE) (mO : mg "NOUGHT" = some (.ref tO)) : Has P w K mg base "level_entry" ["program", "place", "new_place", "condition"] 1 (spLevE tO) :=
  let ⟨f, fd, F, m⟩ := s
  ⟨f, fd, ok_levE F mO, F.kp, bnd4 F fun _ _ _ _ _ _ _ _ _ _ => rfl, m⟩
end
end TW
set_option Elab.async false
set_option linter.all false
set_option maxRecDepth 100000
set_option exponentiation.threshold 4000
set_option maxHeartbeats 1000000
namespace TW
open PySem L2
section
variable {P : Program} {w : World} {K : PySem.W.Frag} {mg : Str → Option Value} {base : Heap}
abbrev sSpl : Stmt := top 17
/-! ### split_node -/
def spL (m nd l : Int) : Int := if l = nd then m else l
def spE (m nd : Int) (named : List Int) (x : Int) (e : Np) : Np := e.led (if x ∈ named then e.leads.map (spL m nd) else e.leads)
def spAt (m nd : Nat) (j : Nat) : Int := if j = m then (nd : Int) else (j : Int)
def spS (nds : List Np) (nd : Nat) (a : Np) (named : List Int) : List Np := (nds ++ [a]).mapIdx fun j e => spE (nds.length : Int) (nd : Int) named (spAt nds.length nd j) e
def spV (nds : List Np) (nd : Nat) (a : Np) : List (Int × Int × Str) := (nds.mapIdx fun j e => ((j : Int), (j : Int), e.hd)) ++ [((nd : Int), (nds.length : Int), a.hd)]
structure Pt4 (H : Hp) (B I N : Addr) (vb vn : List V) (bs : List (Str × Int)) (ins : List Str) (nds : List Np) : Prop where
  hB : H B = some (.lst vb)
  hI : H I = some (.lst (ins.map V.str))
  hN : H N = some (.lst vn)
  pb : Paired (BoxAt H) vb bs
  pn : Paired (NpAt H) vn nds
/-- what split_node tells -/
structure Told (K : PySem.W.Frag) (tO : Addr) (H H' : Hp) (p' P' B' I' N' : Addr) (vb vn' : List V) (bs : List (Str × Int)) (ins : List Str) (nds' : List Np) (sm : V) (se : E) (ps : List V) (lv : List (Int × Int × Str)) : Prop where
  s : Same H H'
  hp : H' p' = some (.tup [.ref B', .ref I', .ref N'])
  pt : Pt4 H' B' I' N' vb vn' bs ins nds'
  hP : H' P' = some (.lst ps)
  ek : EK K H' sm se
  bt : Bt se (.yes :: (bs.map (·.1)).map sameE)
  pp : Paired (fun v e => LvAt tO H' v sm e) ps lv
  nB : H B' = none
  nI : H I' = none
  nN : H N' = none
  nP : H P' = none
  BI : B' ≠ I'
  BN : B' ≠ N'
  IN : I' ≠ N'
  PB : P' ≠ B'
  PI : P' ≠ I'
  PN : P' ≠ N'
theorem inV_ints (x : Int) : ∀ named : List Int, inV (.int x) (named.map V.int) = decide (x ∈ named)
  | [] => by simp [inV]
  | y :: r => by
    have ih := inV_ints x r
    unfold inV at ih ⊢
    rw [List.map_cons, List.any_cons, ih]
    by_cases e : x = y
    · subst e
      simp [eqV]
    · have e2 : ¬ y = x := fun z => e z.symm
      simp [eqV, e, e2]
theorem iteT1 {c : Prop} [Decidable c] {a b : Prop} (h : c) (x : a) : if c then a else b := by rw [if_pos h]; exact x
theorem leads_2 : ∀ e : Np, e.leads.length ≤ 2
  | .put _ _ _ => Nat.le_succ 1 | .say _ _ => Nat.le_succ 1 | .test _ _ _ => Nat.le_refl 2 | .pick _ _ => Nat.le_succ 1 | .fin => Nat.zero_le 2
theorem flat_ints (xs : List Int) : (xs.map V.int).all flatV = true := by
  rw [List.all_eq_true]
  intro v hv
  obtain ⟨x, _, rfl⟩ := List.mem_map.mp hv
  rfl
def spSplit (K : PySem.W.Frag) (tO : Addr) : Sp := fun vs H Q _ => ∃ (p B I N l : Addr) (vb vn : List V) (bs : List (Str × Int)) (ins : List Str) (nds : List Np) (nd : Nat) (a : Np) (named : List Int), vs = [.ref p, .int (nd : Int), .ref l] ∧ H p = some (.tup [.ref B, .ref I, .ref N]) ∧ Pt4 H B I N vb vn bs ins nds ∧ bs.length ≤ 4 ∧ nds.length ≤ 40 ∧ nds[nd]? = some a ∧ H l = some (.lst (named.map V.int)) ∧ named.length ≤ 200 ∧ (∀ x ∈ named, 0 ≤ x ∧ x < (nds.length : Int)) ∧
  ∀ (q p' P' B' I' N' : Addr) (vn' : List V) (sm : V) (se : E) (ps : List V) (H' : Hp), H' q = some (.tup [.ref p', .ref P']) → Told K tO H H' p' P' B' I' N' vb vn' bs ins (spS nds nd a named) sm se ps (spV nds nd a) → Q (.ref q) H'
theorem scSpl : FnScope ["program", "node", "named", "nodes", "same", "copied", "told", "number", "old", "leads", "paper"] ["program", "node", "named"] (defScope sSpl) := ⟨rfl, rfl, rfl, by decide +kernel, rfl, by decide +kernel, by decide +kernel⟩
theorem gSpl_all_same : (defScope sSpl).names.lookup (Str.ofString "all_same") = some .globalImplicit := by decide +kernel
theorem gSpl_enumerate : (defScope sSpl).names.lookup (Str.ofString "enumerate") = some .globalImplicit := by decide +kernel
theorem gSpl_leads_of : (defScope sSpl).names.lookup (Str.ofString "leads_of") = some .globalImplicit := by decide +kernel
theorem gSpl_led_anew : (defScope sSpl).names.lookup (Str.ofString "led_anew") = some .globalImplicit := by decide +kernel
theorem gSpl_len : (defScope sSpl).names.lookup (Str.ofString "len") = some .globalImplicit := by decide +kernel
theorem gSpl_level_entry : (defScope sSpl).names.lookup (Str.ofString "level_entry") = some .globalImplicit := by decide +kernel
theorem gSpl_range : (defScope sSpl).names.lookup (Str.ofString "range") = some .globalImplicit := by decide +kernel
theorem gSpl_refuse_no_nodes : (defScope sSpl).names.lookup (Str.ofString "refuse_no_nodes") = some .globalImplicit := by decide +kernel
theorem gSpl_with_nodes : (defScope sSpl).names.lookup (Str.ofString "with_nodes") = some .globalImplicit := by decide +kernel
theorem ok_spl {tO : Addr} {f : Addr} {fd : FuncData} (F : Fun K "split_node" "split_node" sSpl f fd) (m_len : mg "len" = none) (m_range : mg "range" = none) (m_enumerate : mg "enumerate" = none) (RN0 : Has P w K mg base "refuse_no_nodes" ["program", "numbers"] 1 spRNN) (AS : Has P w K mg base "all_same" ["program"] 10 (spAllS K)) (LE0 : Has P w K mg base "leads_of" ["node"] 1 spLeads) (LD0 : Has P w K mg base "led_anew" ["node", "leads"] 1 spLedA) (LV0 : Has P w K mg base "level_entry" ["program", "place", "new_place", "condition"] 1 (spLevE tO)) (WN0 : Has P w K mg base "with_nodes" ["program", "nodes"] 1 spWithN) : FnOk P w K mg base CX0 11 f fd ["program", "node", "named"] (spSplit K tO) := by
  refine F.ok scSpl (fun vs H Q E h => ?_) (fun cdv A outer s H vs Q E hr h => ?_)
  · obtain ⟨p, B, I, N, l, vb, vn, bs, ins, nds, nd, a, named, rfl, _⟩ := h
    rfl
  · obtain ⟨p, B, I, N, l, vb, vn, bs, ins, nds, nd, a, named, rfl, hp, pt, b4, n40, hnd, hl, nl, hn, q⟩ := h
    have RNN := RN0.mono (show 1 ≤ 10 by decide)
    have LE := LE0.mono (show 1 ≤ 10 by decide)
    have LD := LD0.mono (show 1 ≤ 10 by decide)
    have LV := LV0.mono (show 1 ≤ 10 by decide)
    have WN := WN0.mono (show 1 ≤ 10 by decide)
    have vnl := Paired.length pt.pn
    have ndl : nd < nds.length := (List.getElem?_eq_some_iff.mp hnd).1
    have big : 1000 ≤ sizeLine := by decide
    refine goL ⟨_, (L3.cons (L3.ex (L3.own RNN hr gSpl_refuse_no_nodes (L3.k (L3.v 0) (L3.k (L3.op L3.o_cat (L3.lst (L3.k (L3.v 1) L3.n)) (L3.v 2)) L3.n))))
      (L3.cons (L3.asg (L3.tup (L3.k (L3.ix L3.ixT (L3.v 0) L3.int) (L3.k (L3.own AS hr gSpl_all_same (L3.k (L3.v 0) L3.n)) L3.n))) (L3.gtup 2 (L3.gsk (L3.gn 3 scSpl.nd) (L3.gsk (L3.gn 4 scSpl.nd) L3.gsn))))
      (L3.cons (L3.asg (L3.tup (L3.k (L3.callB L3.c_len gSpl_len m_len PySem.boot_len (L3.k (L3.v 3) L3.n)) (L3.k (L3.lst L3.n) L3.n))) (L3.gtup 2 (L3.gsk (L3.gn 5 scSpl.nd) (L3.gsk (L3.gn 6 scSpl.nd) L3.gsn))))
      (L3.cons (L3.for_ (L3.iE gSpl_enumerate m_enumerate (L3.k (L3.op L3.o_cat (L3.v 3) (L3.lst (L3.k (L3.ix L3.ixL (L3.v 3) (L3.v 1)) L3.n))) L3.n)) (L3.gtup 2 (L3.gsk (L3.gn 7 scSpl.nd) (L3.gsk (L3.gn 8 scSpl.nd) L3.gsn))) (L3.cons (L3.set 9 scSpl.nd (L3.own LE hr gSpl_leads_of (L3.k (L3.v 8) L3.n)))
      (L3.cons (L3.ifs (L3.cmp L3.o_in (L3.ifE (L3.cmp L3.o_eq (L3.v 7) (L3.v 5)) (L3.v 1) (L3.v 7)) (L3.v 2) (by rfl)) (L3.one (L3.slc (i := 9) [none, some 5, some 1] ["lead", "copied", "node"] (show CompScope _ (defScope sSpl) from ⟨rfl, by decide +kernel, by decide +kernel, by decide +kernel⟩) (by rfl) (L3.iL (L3.v 9)) (fun _ _ _ _ _ => ⟨(L3.gn 0 (show (["lead", "copied", "node"] : List Str).Nodup from by decide +kernel)), L3.if0, (L3.ifE (L3.cmp L3.o_eq (L3.v 0) (L3.v 2)) (L3.v 1) (L3.v 0))⟩) scSpl.nd)) L3.nil)
      (L3.one (L3.ex (L3.append (L3.v 6) (L3.k (L3.own LD hr gSpl_led_anew (L3.k (L3.v 8) (L3.k (L3.v 9) L3.n))) L3.n)))))))
      (L3.cons (L3.slc (i := 10) [none, some 0, some 4] ["place", "program", "same"] (show CompScope _ (defScope sSpl) from ⟨rfl, by decide +kernel, by decide +kernel, by decide +kernel⟩) (by rfl) (L3.iR gSpl_range m_range (L3.k (L3.v 5) L3.n)) (fun _ _ _ _ _ => ⟨(L3.gn 0 (show (["place", "program", "same"] : List Str).Nodup from by decide +kernel)), L3.if0, (L3.own LV hr (by rfl) (L3.k (L3.v 1) (L3.k (L3.v 0) (L3.k (L3.v 0) (L3.k (L3.v 2) L3.n)))))⟩) scSpl.nd)
      (L3.cons (L3.ex (L3.append (L3.v 10) (L3.k (L3.own LV hr gSpl_level_entry (L3.k (L3.v 0) (L3.k (L3.v 1) (L3.k (L3.v 5) (L3.k (L3.v 4) L3.n))))) L3.n)))
      (L3.one (L3.ret (L3.tup (L3.k (L3.own WN hr gSpl_with_nodes (L3.k (L3.v 0) (L3.k (L3.v 6) L3.n))) (L3.k (L3.v 10) L3.n))))))))))), ?_⟩
    refine cut1 fun Rk kR => ?_
    refine ⟨_, rfl, _, rfl, (by show 1 ≤ sizeLine; decide), fun l1 hl1 => ?_⟩
    have s1 := same_new hl1 (.lst [.int (nd : Int)])
    have g1 : (upd H l1 (.lst [.int (nd : Int)])) l1 = some (.lst [.int (nd : Int)]) := upd_same
    generalize upd H l1 (.lst [.int (nd : Int)]) = H1 at s1 g1 ⊢
    refine ⟨_, rfl, l1, l, _, _, rfl, rfl, g1, s1 _ _ hl, (by rw [List.length_map]; show 1 + _ ≤ _; omega), fun l2 hl2 => ?_⟩
    have s2 := same_new hl2 (.lst ([.int (nd : Int)] ++ named.map V.int))
    have g2 : (upd H1 l2 (.lst ([.int (nd : Int)] ++ named.map V.int))) l2 = some (.lst (((nd : Int) :: named).map V.int)) := upd_same
    generalize upd H1 l2 (.lst ([.int (nd : Int)] ++ named.map V.int)) = H2 at s2 g2 ⊢
    have s12 := same_trans s1 s2
    refine ⟨p, l2, B, I, N, vn, (nd : Int) :: named, rfl, s12 _ _ hp, s12 _ _ pt.hN, g2, (fun x hx => ?_), ?_⟩
    · rcases List.mem_cons.mp hx with rfl | hx
      · exact ⟨by omega, by omega⟩
      · have := hn x hx
        exact ⟨this.1, by omega⟩
    refine kR _ _ ?_
    clear kR
    refine cut1 fun Rk kR => ?_
    refine ⟨_, rfl, p, _, _, _, rfl, rfl, SqT.of (s12 _ _ hp), rfl, _, rfl, p, B, I, N, vb, bs, rfl, s12 _ _ hp, s12 _ _ pt.hB, (Paired.mapP pt.pb fun _ _ z => Tp.keep (Same.tk s12) z), b4, fun sm se H3 s3 ek bt => ⟨(by show 2 ≤ sizeLine; decide), fun q2 hq2 => ?_⟩⟩
    have s4 := same_new hq2 (.tup [.ref N, sm])
    have g4 : (upd H3 q2 (.tup [.ref N, sm])) q2 = some (.tup [.ref N, sm]) := upd_same
    generalize upd H3 q2 (.tup [.ref N, sm]) = H4 at s4 g4 ⊢
    refine ⟨q2, _, rfl, SqT.of g4, rfl, _, _, rfl, _, _, rfl, rfl, ?_⟩
    refine kR _ _ ?_
    clear kR
    refine normS [some (.ref p), some (.int (nd : Int)), some (.ref l), some (.ref N), some sm, none, none, none, none, none, none] rfl ?_
    refine cut1 fun Rk kR => ?_
    have s14 := same_trans s12 (same_trans s3 s4)
    refine ⟨_, rfl, N, _, rfl, .inl (SqL.of (s14 _ _ pt.hN)), (by show 0 ≤ sizeLine; decide), fun T hT => ?_⟩
    have sT := same_new hT (.lst [])
    have gT : (upd H4 T (.lst [])) T = some (.lst []) := upd_same
    have nT := none_of_same s14 hT
    generalize upd H4 T (.lst []) = H5 at sT gT ⊢
    refine ⟨(by show 2 ≤ sizeLine; decide), fun q3 hq3 => ?_⟩
    have s6 := same_new hq3 (.tup [.int (vn.length : Int), .ref T])
    have g6 : (upd H5 q3 (.tup [.int (vn.length : Int), .ref T])) q3 = some (.tup [.int (vn.length : Int), .ref T]) := upd_same
    generalize upd H5 q3 (.tup [.int (vn.length : Int), .ref T]) = H6 at s6 g6 ⊢
    refine ⟨q3, _, rfl, SqT.of g6, rfl, _, _, rfl, _, _, rfl, rfl, ?_⟩
    refine kR _ _ ?_
    clear kR
    refine normS [some (.ref p), some (.int (nd : Int)), some (.ref l), some (.ref N), some sm, some (.int (nds.length : Int)), some (.ref T), none, none, none, none] (by rw [← vnl]; rfl) ?_
    refine cut1 fun Rk kR => ?_
    have s06 := same_trans s14 (same_trans sT s6)
    have ek6 := EK.keep (Same.tk (same_trans s4 (same_trans sT s6))) ek
    have gT6 := s6 _ _ gT
    clear g1 g2 g4 g6 s1 s2 s3 s4 s6 sT gT s12 s14 ek hq2 hq3 hT hl1 hl2
    obtain ⟨xa, hxa⟩ : ∃ xa, vn[nd]? = some xa := ⟨vn[nd]'(by omega), List.getElem?_eq_getElem (by omega)⟩
    obtain ⟨a', ha', naa⟩ := Paired.get pt.pn hxa
    cases hnd.symm.trans ha'
    refine ⟨_, rfl, _, rfl, _, rfl, N, _, _, _, rfl, rfl, SqL.of (s06 _ _ pt.hN), atI_nat hxa, (by show 1 ≤ sizeLine; decide), fun l3 hl3 => ?_⟩
    have s7 := same_new hl3 (.lst [xa])
    have g7 : (upd H6 l3 (.lst [xa])) l3 = some (.lst [xa]) := upd_same
    generalize upd H6 l3 (.lst [xa]) = H7 at s7 g7 ⊢
    refine ⟨N, l3, _, _, rfl, rfl, s7 _ _ (s06 _ _ pt.hN), g7, (by show _ + 1 ≤ _; omega), fun l4 hl4 => ?_⟩
    have s8 := same_new hl4 (.lst (vn ++ [xa]))
    have g8 : (upd H7 l4 (.lst (vn ++ [xa]))) l4 = some (.lst (vn ++ [xa])) := upd_same
    generalize upd H7 l4 (.lst (vn ++ [xa])) = H8 at s8 g8 ⊢
    have s68 := same_trans s7 s8
    have s08 := same_trans s06 s68
    have pn8 : Paired (NpAt H8) (vn ++ [xa]) (nds ++ [a]) := Paired.mapP (Paired.snoc pt.pn naa) fun _ _ z => NpAt.keep (Same.tk s08) z
    have ek8 := EK.keep (Same.tk s68) ek6
    have gT8 := s68 _ _ gT6
    have pl8 := Paired.length pn8
    have l4T : l4 ≠ T := (ne_of_none (s7 _ _ gT6) hl4).symm
    refine ⟨l4, rfl, ⟨_, SqL.of g8⟩, ?_⟩
    refine for_enum (xs := vn ++ [xa]) (fun j σ Hx => (∃ o7 o8 o9 o10, σ = [some (.ref p), some (.int (nd : Int)), some (.ref l), some (.ref N), some sm, some (.int (nds.length : Int)), some (.ref T), o7, o8, o9, o10]) ∧ (Same H Hx ∧ ∀ b o, b ≠ T → H8 b = some o → Hx b = some o) ∧ ∃ us, Hx T = some (.lst us) ∧ us.length = j ∧ Paired (NpAt Hx) us ((spS nds nd a named).take j)) ⟨⟨_, _, _, _, rfl⟩, ⟨s08, fun _ _ _ z => z⟩, [], gT8, rfl, by rw [List.take_zero]; exact .nil⟩ (fun j σ Hx _ z => SqL.of (z.2.1.2 _ _ l4T g8)) (fun j x0 pp σ Hx hx z hpp => ?_) (fun σ Hx z => ?_)
    · obtain ⟨⟨o7, o8, o9, o10, rfl⟩, ⟨sx, k8⟩, us, gT, ul, pu⟩ := z
      have hjl : j < (vn ++ [xa]).length := (List.getElem?_eq_some_iff.mp hx).1
      rw [List.length_append] at hjl
      have hjl : j < vn.length + 1 := hjl
      obtain ⟨e, he, ne⟩ := Paired.get pn8 hx
      have tk8 : TK H8 Hx := fun b xs z => k8 b _ (ne_of z gT8 (fun z => nomatch z)) z
      have sp := same_new hpp (.tup [.int (j : Nat), x0])
      have gp : (upd Hx pp (.tup [.int (j : Nat), x0])) pp = some (.tup [.int (j : Nat), x0]) := upd_same
      generalize upd Hx pp (.tup [.int (j : Nat), x0]) = Ha at sp gp ⊢
      refine ⟨pp, _, rfl, SqT.of gp, rfl, _, _, rfl, _, _, rfl, rfl, ?_⟩
      refine normS [some (.ref p), some (.int (nd : Int)), some (.ref l), some (.ref N), some sm, some (.int (nds.length : Int)), some (.ref T), some (.int (j : Nat)), some x0, o9, o10] rfl ?_
      refine cut1 fun Rk kR => ?_
      refine ⟨_, rfl, x0, e, rfl, NpAt.keep (tk8.trans (Same.tk sp)) ne, fun ll Hb sb gl => ?_⟩
      refine gn_go ?_
      refine kR _ _ ?_
      clear kR
      refine normS [some (.ref p), some (.int (nd : Int)), some (.ref l), some (.ref N), some sm, some (.int (nds.length : Int)), some (.ref T), some (.int (j : Nat)), some x0, some (.ref ll), o10] rfl ?_
      refine cut1 fun Rk kR => ?_
      have sab := same_trans sp sb
      have sb8 := same_trans sx sab
      have og : (spS nds nd a named)[j]? = some (spE (nds.length : Int) (nd : Int) named (spAt nds.length nd j) e) := by
        unfold spS
        rw [List.getElem?_mapIdx, he]
        rfl
      have fin : ∀ (l' : Addr) (ls : List Int) (Hc : Hp), Same Hb Hc → Hc l' = some (.lst (ls.map V.int)) → ls.length = e.leads.length → ls = (if spAt nds.length nd j ∈ named then e.leads.map (spL (nds.length : Int) (nd : Int)) else e.leads) → Rk [some (.ref p), some (.int (nd : Int)), some (.ref l), some (.ref N), some sm, some (.int (nds.length : Int)), some (.ref T), some (.int (j : Nat)), some x0, some (.ref l'), o10] Hc := fun l' ls Hc sc gl' lsl els => by
        have sac := same_trans sab sc
        refine kR _ _ ?_
        refine ⟨_, rfl, .inl ⟨rfl, _, SqL.of (sac _ _ gT)⟩, _, rfl, _, rfl, x0, l', e, ls, rfl, NpAt.keep (tk8.trans (Same.tk sac)) ne, gl', lsl, fun v' Hd sd nv => ?_⟩
        have sad := same_trans sac sd
        have gTd := sad _ _ gT
        have tkT : TK Hd (upd Hd T (.lst (us ++ [v']))) := TW.TK.lst gTd
        refine ⟨T, _, _, rfl, rfl, gTd, small1000 (by omega), ⟨_, _, _, _, rfl⟩, ⟨same_put (same_trans sx sad) nT, fun b o nb z => by rw [upd_ne nb]; exact sad _ _ (k8 b o nb z)⟩, us ++ [v'], upd_same, by rw [List.length_append, ul]; rfl, ?_⟩
        rw [List.take_add_one, og]
        refine Paired.snoc (Paired.mapP pu fun _ _ z => NpAt.keep ((Same.tk sad).trans tkT) z) (NpAt.keep tkT ?_)
        show NpAt Hd v' (e.led _)
        rw [← els]
        exact nv
      refine ⟨_, rfl, _, rfl, rfl, _, rfl, ?_⟩
      by_cases hj : j = nds.length
      · have at1 : spAt nds.length nd j = (nd : Int) := if_pos hj
        refine iteT1 (decide_eq_true (by rw [hj])) ?_
        refine ⟨_, rfl, _, rfl, l, _, rfl, .inl (SqL.of (sb8 _ _ hl)), rfl, flat_ints named, _, rfl, ?_⟩
        show if inV (.int (nd : Int)) (named.map V.int) = true then _ else _
        rw [inV_ints]
        refine ite2 (fun c => ?_) (fun c => ?_)
        · have c := of_decide_eq_true c
          refine ⟨_, rfl, ll, rfl, ⟨_, SqL.of gl⟩, fun C hC => ?_⟩
          refine comp_list (xs := e.leads.map V.int) (fun (x : Nat) Hz => Same Hb Hz ∧ Hz C = some (.lst (((e.leads.map (spL (nds.length : Int) (nd : Int))).take x).map V.int))) ⟨same_new hC _, upd_same⟩ (fun x Hz _ z => SqL.of (z.1 _ _ gl)) (fun x y0 Hz hy z => ?_) (fun Hz z => ?_)
          · obtain ⟨sz, gC⟩ := z
            obtain ⟨y, hy0, rfl⟩ := map_get hy
            have hyl : x < e.leads.length := (List.getElem?_eq_some_iff.mp hy0).1
            have l2 : e.leads.length ≤ 2 := leads_2 e
            have hxl : x < (e.leads.map V.int).length := by rw [List.length_map]; exact hyl
            have hg : (e.leads.map (spL (nds.length : Int) (nd : Int)))[x]? = some (spL (nds.length : Int) (nd : Int) y) := by rw [List.getElem?_map, hy0]; rfl
            have bd : (((e.leads.map (spL (nds.length : Int) (nd : Int))).take x).map V.int).length ≤ 900 := by rw [List.length_map, List.length_take, List.length_map]; omega
            refine gn_go ?_
            refine turn0 (A := fun H5 => mApp _ C _ H5 _) ?_
            refine ⟨_, rfl, _, rfl, rfl, _, rfl, ?_⟩
            refine ite2 (fun c1 => ?_) (fun c1 => ?_)
            · have c1 : y = (nd : Int) := by
                have := of_decide_eq_true c1
                injection this
              refine ⟨_, rfl, _, gC, small1000 (by omega), comp_end (Pv := fun (x : Nat) Hz => Same Hb Hz ∧ Hz C = some (.lst (((e.leads.map (spL (nds.length : Int) (nd : Int))).take x).map V.int))) (by repeat' constructor) hxl ⟨same_put sz hC, ?_⟩⟩
              rw [upd_same, List.take_add_one, hg, List.map_append]
              show _ = some (L2.HO.lst (_ ++ [V.int (if y = (nd : Int) then (nds.length : Int) else y)]))
              rw [if_pos c1]
            · have c1 : ¬ y = (nd : Int) := fun z => c1 (decide_eq_true (congrArg V.int z))
              refine ⟨_, rfl, _, gC, small1000 (by omega), comp_end (Pv := fun (x : Nat) Hz => Same Hb Hz ∧ Hz C = some (.lst (((e.leads.map (spL (nds.length : Int) (nd : Int))).take x).map V.int))) (by repeat' constructor) hxl ⟨same_put sz hC, ?_⟩⟩
              rw [upd_same, List.take_add_one, hg, List.map_append]
              show _ = some (L2.HO.lst (_ ++ [V.int (if y = (nd : Int) then (nds.length : Int) else y)]))
              rw [if_neg c1]
          · obtain ⟨sz, gC⟩ := z
            rw [List.take_of_length_le (by rw [List.length_map, List.length_map]; omega)] at gC
            refine gn_go ?_
            exact fin C (e.leads.map (spL (nds.length : Int) (nd : Int))) Hz sz gC (List.length_map _) (by rw [at1, if_pos c])
        · have c : ¬ (nd : Int) ∈ named := fun z => c (decide_eq_true z)
          exact fin ll e.leads Hb (same_refl _) gl rfl (by rw [at1, if_neg c])
      · have at1 : spAt nds.length nd j = (j : Int) := if_neg hj
        refine iteF' (decide_eq_false (fun z => hj (by injection z with z; omega))) ?_
        refine ⟨_, rfl, _, rfl, l, _, rfl, .inl (SqL.of (sb8 _ _ hl)), rfl, flat_ints named, _, rfl, ?_⟩
        show if inV (.int (j : Int)) (named.map V.int) = true then _ else _
        rw [inV_ints]
        refine ite2 (fun c => ?_) (fun c => ?_)
        · have c := of_decide_eq_true c
          refine ⟨_, rfl, ll, rfl, ⟨_, SqL.of gl⟩, fun C hC => ?_⟩
          refine comp_list (xs := e.leads.map V.int) (fun (x : Nat) Hz => Same Hb Hz ∧ Hz C = some (.lst (((e.leads.map (spL (nds.length : Int) (nd : Int))).take x).map V.int))) ⟨same_new hC _, upd_same⟩ (fun x Hz _ z => SqL.of (z.1 _ _ gl)) (fun x y0 Hz hy z => ?_) (fun Hz z => ?_)
          · obtain ⟨sz, gC⟩ := z
            obtain ⟨y, hy0, rfl⟩ := map_get hy
            have hyl : x < e.leads.length := (List.getElem?_eq_some_iff.mp hy0).1
            have l2 : e.leads.length ≤ 2 := leads_2 e
            have hxl : x < (e.leads.map V.int).length := by rw [List.length_map]; exact hyl
            have hg : (e.leads.map (spL (nds.length : Int) (nd : Int)))[x]? = some (spL (nds.length : Int) (nd : Int) y) := by rw [List.getElem?_map, hy0]; rfl
            have bd : (((e.leads.map (spL (nds.length : Int) (nd : Int))).take x).map V.int).length ≤ 900 := by rw [List.length_map, List.length_take, List.length_map]; omega
            refine gn_go ?_
            refine turn0 (A := fun H5 => mApp _ C _ H5 _) ?_
            refine ⟨_, rfl, _, rfl, rfl, _, rfl, ?_⟩
            refine ite2 (fun c1 => ?_) (fun c1 => ?_)
            · have c1 : y = (nd : Int) := by
                have := of_decide_eq_true c1
                injection this
              refine ⟨_, rfl, _, gC, small1000 (by omega), comp_end (Pv := fun (x : Nat) Hz => Same Hb Hz ∧ Hz C = some (.lst (((e.leads.map (spL (nds.length : Int) (nd : Int))).take x).map V.int))) (by repeat' constructor) hxl ⟨same_put sz hC, ?_⟩⟩
              rw [upd_same, List.take_add_one, hg, List.map_append]
              show _ = some (L2.HO.lst (_ ++ [V.int (if y = (nd : Int) then (nds.length : Int) else y)]))
              rw [if_pos c1]
            · have c1 : ¬ y = (nd : Int) := fun z => c1 (decide_eq_true (congrArg V.int z))
              refine ⟨_, rfl, _, gC, small1000 (by omega), comp_end (Pv := fun (x : Nat) Hz => Same Hb Hz ∧ Hz C = some (.lst (((e.leads.map (spL (nds.length : Int) (nd : Int))).take x).map V.int))) (by repeat' constructor) hxl ⟨same_put sz hC, ?_⟩⟩
              rw [upd_same, List.take_add_one, hg, List.map_append]
              show _ = some (L2.HO.lst (_ ++ [V.int (if y = (nd : Int) then (nds.length : Int) else y)]))
              rw [if_neg c1]
          · obtain ⟨sz, gC⟩ := z
            rw [List.take_of_length_le (by rw [List.length_map, List.length_map]; omega)] at gC
            refine gn_go ?_
            exact fin C (e.leads.map (spL (nds.length : Int) (nd : Int))) Hz sz gC (List.length_map _) (by rw [at1, if_pos c])
        · have c : ¬ (j : Int) ∈ named := fun z => c (decide_eq_true z)
          exact fin ll e.leads Hb (same_refl _) gl rfl (by rw [at1, if_neg c])
    · obtain ⟨⟨o7, o8, o9, o10, rfl⟩, ⟨sx, k8⟩, us, gT, ul, pu⟩ := z
      have spl : (spS nds nd a named).length = nds.length + 1 := by
        unfold spS
        rw [List.length_mapIdx, List.length_append]
        rfl
      rw [List.take_of_length_le (by rw [spl, pl8, List.length_append]; exact Nat.le_refl _)] at pu
      have tk8 : TK H8 Hx := fun b xs z => k8 b _ (ne_of z gT8 (fun z => nomatch z)) z
      have ekx := EK.keep tk8 ek8
      refine kR _ _ ?_
      clear kR
      refine cut1 fun Rk kR => ?_
      refine ⟨_, rfl, (nds.length : Int), rfl, by omega, by omega, fun R hR => ?_⟩
      refine comp_range (lo := 0) (n := (nds.length : Int).toNat) (fun (x : Nat) Hz => Same Hx Hz ∧ ∃ ps, Hz R = some (.lst ps) ∧ ps.length = x ∧ Paired (fun v e => LvAt tO Hz v sm e) ps ((nds.mapIdx fun j e => ((j : Int), (j : Int), e.hd)).take x)) ⟨same_new hR _, [], upd_same, rfl, by rw [List.take_zero]; exact .nil⟩ (fun x Hz hx z => ?_) (fun Hz z => ?_)
      · obtain ⟨sz, ps, gR, pl, pp⟩ := z
        have hx2 : x < nds.length := by omega
        obtain ⟨xv, hxv⟩ : ∃ xv, vn[x]? = some xv := ⟨vn[x]'(by omega), List.getElem?_eq_getElem (by omega)⟩
        obtain ⟨e, he, ne⟩ := Paired.get pt.pn hxv
        have s0z := same_trans sx sz
        refine gn_go ?_
        refine turn0 (A := fun H5 => mApp _ R _ H5 _) ?_
        refine ⟨_, rfl, _, rfl, _, rfl, _, rfl, p, B, I, N, vn, e, x, (x : Int), sm, xv, (by rw [Int.zero_add]; rfl), s0z _ _ hp, s0z _ _ pt.hN, hxv, NpAt.keep (Same.tk s0z) ne, fun v Hd sd lv => ?_⟩
        have gRd := sd _ _ gR
        have tkR : TK Hd (upd Hd R (.lst (ps ++ [v]))) := TW.TK.lst gRd
        refine ⟨_, gRd, small1000 (by omega), comp_end (Pv := fun (x : Nat) Hz => Same Hx Hz ∧ ∃ ps, Hz R = some (.lst ps) ∧ ps.length = x ∧ Paired (fun v e => LvAt tO Hz v sm e) ps ((nds.mapIdx fun j e => ((j : Int), (j : Int), e.hd)).take x)) (by repeat' constructor) hx ⟨same_put (same_trans sz sd) hR, ps ++ [v], upd_same, by rw [List.length_append, pl]; rfl, ?_⟩⟩
        rw [List.take_add_one, List.getElem?_mapIdx, he]
        exact Paired.snoc (Paired.mapP pp fun _ _ z => LvAt.keep ((Same.tk sd).trans tkR) z) (LvAt.keep tkR lv)
      obtain ⟨sz, ps, gR, pl, pp⟩ := z
      rw [Int.toNat_natCast] at pl pp
      rw [List.take_of_length_le (by rw [List.length_mapIdx]; exact Nat.le_refl _)] at pp
      refine gn_go ?_
      refine kR _ _ ?_
      clear kR
      refine normS [some (.ref p), some (.int (nd : Int)), some (.ref l), some (.ref N), some sm, some (.int (nds.length : Int)), some (.ref T), o7, o8, o9, some (.ref R)] rfl ?_
      refine cut1 fun Rk kR => ?_
      have s0z := same_trans sx sz
      have nR := none_of_same sx hR
      refine ⟨_, rfl, .inl ⟨rfl, _, SqL.of gR⟩, _, rfl, _, rfl, _, rfl, _, rfl, p, B, I, N, vn, a, nd, (nds.length : Int), sm, xa, rfl, s0z _ _ hp, s0z _ _ pt.hN, hxa, NpAt.keep (Same.tk s0z) naa, fun v Hd sd lv => ?_⟩
      have gRd := sd _ _ gR
      have tkR : TK Hd (upd Hd R (.lst (ps ++ [v]))) := TW.TK.lst gRd
      refine ⟨R, _, _, rfl, rfl, gRd, small1000 (by omega), ?_⟩
      have sxe := same_put (o := .lst (ps ++ [v])) (same_trans sz sd) hR
      have gRe : (upd Hd R (.lst (ps ++ [v]))) R = some (.lst (ps ++ [v])) := upd_same
      generalize upd Hd R (.lst (ps ++ [v])) = He at tkR sxe gRe ⊢
      have ppe : Paired (fun v e => LvAt tO He v sm e) (ps ++ [v]) (spV nds nd a) := Paired.snoc (Paired.mapP pp fun _ _ z => LvAt.keep ((Same.tk sd).trans tkR) z) (LvAt.keep tkR lv)
      have s0e := same_trans sx sxe
      refine kR _ _ ?_
      clear kR
      refine ⟨_, rfl, _, rfl, p, T, B, I, N, vb, _, rfl, s0e _ _ hp, s0e _ _ pt.hB, s0e _ _ pt.hI, fun p' B' I' Hf sf g1 g2 g3 n1 n2 n3 => ?_⟩
      have gTf := sf _ _ (sxe _ _ gT)
      have gRf := sf _ _ gRe
      refine ⟨_, rfl, (by show 2 ≤ sizeLine; decide), fun q0 hq0 => ?_⟩
      have s9 := same_new hq0 (.tup [.ref p', .ref R])
      have sf9 := same_trans sf s9
      have tke := (Same.tk sf9)
      have TR : T ≠ R := ne_of_none gT hR
      exact q q0 p' R B' I' T us sm se (ps ++ [v]) _ upd_same ⟨same_trans s0e sf9, s9 _ _ g1, ⟨s9 _ _ g2, s9 _ _ g3, s9 _ _ gTf, Paired.mapP pt.pb fun _ _ z => Tp.keep (Same.tk (same_trans s0e sf9)) z, Paired.mapP pu fun _ _ z => NpAt.keep (Same.tk (same_trans sxe sf9)) z⟩, s9 _ _ gRf, EK.keep (Same.tk (same_trans sxe sf9)) ekx, bt, Paired.mapP ppe fun _ _ z => LvAt.keep tke z, none_of_same s0e n1, none_of_same s0e n2, nT, nR, n3, (ne_of_none (sxe _ _ gT) n1).symm, (ne_of_none (sxe _ _ gT) n2).symm, ne_of_none gRe n1, ne_of_none gRe n2, TR.symm⟩
theorem has_spl {tO : Addr} (s : Src K mg "split_node" sSpl) (m_len : mg "len" = none) (m_range : mg "range" = none) (m_enumerate : mg "enumerate" = none) (RN0 : Has P w K mg base "refuse_no_nodes" ["program", "numbers"] 1 spRNN) (AS : Has P w K mg base "all_same" ["program"] 10 (spAllS K)) (LE0 : Has P w K mg base "leads_of" ["node"] 1 spLeads) (LD0 : Has P w K mg base "led_anew" ["node", "leads"] 1 spLedA) (LV0 : Has P w K mg base "level_entry" ["program", "place", "new_place", "condition"] 1 (spLevE tO)) (WN0 : Has P w K mg base "with_nodes" ["program", "nodes"] 1 spWithN) : Has P w K mg base "split_node" ["program", "node", "named"] 11 (spSplit K tO) :=
  let ⟨f, fd, F, m⟩ := s
  ⟨f, fd, ok_spl F m_len m_range m_enumerate RN0 AS LE0 LD0 LV0 WN0, F.kp, bnd3 F fun _ _ _ _ _ _ _ _ _ => rfl, m⟩
end
end TW
set_option Elab.async false
set_option linter.all false
set_option maxRecDepth 100000
set_option exponentiation.threshold 4000
set_option maxHeartbeats 1000000
namespace TW
open PySem L2
section
variable {P : Program} {w : World} {K : PySem.W.Frag} {mg : Str → Option Value} {base : Heap}
abbrev sWo : Stmt := top 30
abbrev sHo : Stmt := top 31
abbrev sBn : Stmt := top 32
abbrev sBo : Stmt := top 41
/-! ### worths by names -/
def wOf : List (Str × Int) → List Int → Str → Int
  | b :: bs, w :: ws, x => if b.1 = x then w else wOf bs ws x
  | _, _, _ => 0
def kvW (word : Str) : List (Str × Int) → List Int → List (List Key × V)
  | b :: bs, w :: ws => ([.inr word, .inr b.1], .int w) :: kvW word bs ws
  | _, _ => []
theorem kvW_get {word : Str} : ∀ (bs : List (Str × Int)) (ws : List Int) (i : Nat) (b : Str × Int) (w : Int), bs[i]? = some b → ws[i]? = some w → (kvW word bs ws)[i]? = some ([.inr word, .inr b.1], .int w)
  | [], _, _, _, _, h, _ => by simp at h
  | _ :: _, [], _, _, _, _, h => by simp at h
  | _ :: _, _ :: _, 0, _, _, h, g => by simp at h g; subst h g; rfl
  | _ :: bs, _ :: ws, i + 1, b, w, h, g => by
    show (kvW word bs ws)[i]? = _
    exact kvW_get bs ws i b w (by simpa using h) (by simpa using g)
theorem kvW_len {word : Str} : ∀ (bs : List (Str × Int)) (ws : List Int), bs.length = ws.length → (kvW word bs ws).length = ws.length
  | [], [], _ => rfl
  | [], _ :: _, h => by simp at h
  | _ :: _, [], h => by simp at h
  | _ :: bs, _ :: ws, h => by simp [kvW]; exact kvW_len bs ws (by simpa using h)
theorem kvW_keys {word : Str} : ∀ (bs : List (Str × Int)) (ws : List Int) (k : List Key), k ∈ (kvW word bs ws).map (·.1) → ∃ x ∈ bs.map (·.1), k = [.inr word, .inr x]
  | [], _, _, h => by simp [kvW] at h
  | _ :: _, [], _, h => by simp [kvW] at h
  | b :: bs, w :: ws, k, h => by
    rcases List.mem_cons.mp h with z | z
    · exact ⟨b.1, List.mem_cons.mpr (.inl rfl), z⟩
    · obtain ⟨x, hx, e⟩ := kvW_keys bs ws k z
      exact ⟨x, List.mem_cons.mpr (.inr hx), e⟩
theorem putT_off : ∀ (kvs d : List (List Key × V)) (k : List Key), k ∉ kvs.map (·.1) → valV (putAllT d kvs) k = valV d k
  | [], _, _, _ => rfl
  | p :: r, d, k, h => by
    show valV (putAllT (putK d p.1 p.2) r) k = _
    rw [putT_off r _ k (fun z => h (List.mem_cons.mpr (.inr z))), valV_put, if_neg (fun z => h (List.mem_cons.mpr (.inl z)))]
theorem putT_val {word : Str} : ∀ (bs : List (Str × Int)) (ws : List Int) (d : List (List Key × V)) (x : Str), bs.length = ws.length → (bs.map (·.1)).Nodup → x ∈ bs.map (·.1) → valV (putAllT d (kvW word bs ws)) [.inr word, .inr x] = some (.int (wOf bs ws x))
  | [], _, _, _, _, _, h => by simp at h
  | _ :: _, [], _, _, h, _, _ => by simp at h
  | b :: bs, w :: ws, d, x, hl, nd, hx => by
    rw [List.map_cons, List.nodup_cons] at nd
    show valV (putAllT (putK d [.inr word, .inr b.1] (.int w)) (kvW word bs ws)) [.inr word, .inr x] = some (.int (if b.1 = x then w else wOf bs ws x))
    by_cases e : b.1 = x
    · rw [if_pos e, putT_off _ _ _ (fun z => by
        obtain ⟨y, hy, e2⟩ := kvW_keys bs ws _ z
        injection e2 with _ e2
        injection e2 with e2 _
        injection e2 with e2
        subst e2
        exact nd.1 (e ▸ hy)), valV_put, if_pos (by rw [e])]
    · rw [if_neg e]
      refine putT_val bs ws _ x (by simpa using hl) nd.2 ?_
      rcases List.mem_cons.mp hx with z | z
      · exact absurd z.symm e
      · exact z
/-- the dict d tells W of all P -/
def Kn (H : Hp) (d : Addr) (P : Str → Str → Prop) (W : Str → Str → Int) : Prop := ∃ kvs, H d = some (.dT kvs) ∧ ∀ t x, P t x → (t = "box" ∨ t = "mine" ∨ t = "yours") ∧ valV kvs [.inr t, .inr x] = some (.int (W t x))
theorem Kn.same {H H' : Hp} {d : Addr} {P : Str → Str → Prop} {W : Str → Str → Int} (s : Same H H') (h : Kn H d P W) : Kn H' d P W := let ⟨k, a, b⟩ := h; ⟨k, s _ _ a, b⟩
def spWo (K : PySem.W.Frag) (n : Nat) : Sp := fun vs H Q _ => ∃ (v : V) (d : Addr) (e : E) (P : Str → Str → Prop) (W : Str → Str → Int), vs = [v, .ref d] ∧ EK K H v e ∧ e.isS ∧ e.okIn P ∧ Kn H d P W ∧ e.dep < n ∧ Q (.int (e.worth W)) H
theorem none_wo {f : Addr} {fd : FuncData} : FnOk P w K mg base CX0 1 f fd ["told", "known"] ((spWo K) 0) := by
  have no : ∀ vs H Q E, ¬ (spWo K) 0 vs H Q E := fun vs H Q E h => by
    obtain ⟨v, d, e, P, W, _, _, _, _, _, h, _⟩ := h
    omega
  exact ⟨fun vs H Q E h => absurd h (no vs H Q E), fun A outer s H args us vs Q E _ _ _ _ h => absurd h (no vs H Q E)⟩
theorem scWo : FnScope ["told", "known"] ["told", "known"] (defScope sWo) := ⟨rfl, rfl, rfl, by decide +kernel, rfl, by decide +kernel, by decide +kernel⟩
theorem gWo_law_worth_of : (defScope sWo).names.lookup (Str.ofString "_law_worth_of") = some .globalImplicit := by decide +kernel
theorem ok_wo {n : Nat} {f : Addr} {fd : FuncData} (F : Fun K "_law_worth_of" "_law_worth_of" sWo f fd) (G : Has P w K mg base "_law_worth_of" ["told", "known"] (n + 1) (spWo K n)) : FnOk P w K mg base CX0 (n + 1 + 1) f fd ["told", "known"] (spWo K (n + 1)) := by
  refine F.ok scWo (fun vs H Q E h => ?_) (fun cdv A outer s H vs Q E hr h => ?_)
  · obtain ⟨v, d, e, P, W, rfl, _⟩ := h
    rfl
  · obtain ⟨v, d, e, P, W, rfl, ev, is, ok, kn, dp, q⟩ := h
    refine goL ⟨_, (L3.cons (L3.ifs (L3.cmp L3.o_eq (L3.ix L3.ixT (L3.v 0) L3.int) L3.str) (L3.one (L3.ret (L3.ix L3.ixT (L3.v 0) L3.int))) L3.nil)
      (L3.cons (L3.ifs (L3.cmp L3.o_eq (L3.ix L3.ixT (L3.v 0) L3.int) L3.str) (L3.one (L3.ret (L3.op L3.o_add (L3.own G hr gWo_law_worth_of (L3.k (L3.ix L3.ixT (L3.v 0) L3.int) (L3.k (L3.v 1) L3.n))) (L3.own G hr gWo_law_worth_of (L3.k (L3.ix L3.ixT (L3.v 0) L3.int) (L3.k (L3.v 1) L3.n)))))) L3.nil)
      (L3.cons (L3.ifs (L3.cmp L3.o_eq (L3.ix L3.ixT (L3.v 0) L3.int) L3.str) (L3.one (L3.ret (L3.op L3.o_sub (L3.own G hr gWo_law_worth_of (L3.k (L3.ix L3.ixT (L3.v 0) L3.int) (L3.k (L3.v 1) L3.n))) (L3.own G hr gWo_law_worth_of (L3.k (L3.ix L3.ixT (L3.v 0) L3.int) (L3.k (L3.v 1) L3.n)))))) L3.nil)
      (L3.one (L3.ret (L3.dget (up_ne hr _ (by decide)) (L3.v 1) (L3.v 0))))))), ?_⟩
    refine cut1 fun Rk kR => ?_
    match e, ev, is, ok, dp, q with
    | .num n, ev, is, ok, dp, q =>
      obtain ⟨p, rfl, hp⟩ := TpK.sq ev
      refine ⟨_, rfl, p, _, _, _, rfl, rfl, hp, rfl, rfl, _, rfl, iteT ?_⟩
      exact ⟨_, rfl, p, _, _, _, rfl, rfl, hp, rfl, q⟩
    | .box t x, ev, is, ok, dp, q =>
      obtain ⟨p, rfl, hx⟩ := ev
      have hp := SqT.of (K := K) hx
      obtain ⟨kvs, hd, hk⟩ := kn
      obtain ⟨ht, hv⟩ := hk t x ok
      have n1 : decide (V.str t = .str "number") = false := decide_eq_false fun z => by injection z with z; rcases ht with r | r | r <;> (rw [r] at z; exact absurd z (by decide))
      have n2 : decide (V.str t = .str "plus") = false := decide_eq_false fun z => by injection z with z; rcases ht with r | r | r <;> (rw [r] at z; exact absurd z (by decide))
      have n3 : decide (V.str t = .str "less") = false := decide_eq_false fun z => by injection z with z; rcases ht with r | r | r <;> (rw [r] at z; exact absurd z (by decide))
      refine ⟨_, rfl, p, _, _, _, rfl, rfl, hp, rfl, rfl, _, rfl, iteF' n1 (kR _ _ ?_)⟩
      clear kR
      refine cut1 fun Rk kR => ?_
      refine ⟨_, rfl, p, _, _, _, rfl, rfl, hp, rfl, rfl, _, rfl, iteF' n2 (kR _ _ ?_)⟩
      clear kR
      refine cut1 fun Rk kR => ?_
      refine ⟨_, rfl, p, _, _, _, rfl, rfl, hp, rfl, rfl, _, rfl, iteF' n3 (kR _ _ ?_)⟩
      refine ⟨_, rfl, _, rfl, d, _, rfl, ?_, q⟩
      have := DGet.t (k := [.inr t, .inr x]) hd hx
      rw [hv] at this
      exact this
    | .two .plus a b, ev, is, ok, dp, q =>
      obtain ⟨x, y, h, ea, eb⟩ := ev
      obtain ⟨p, rfl, hp⟩ := h.sq
      have dp : max a.dep b.dep + 1 < n + 1 := dp
      refine ⟨_, rfl, p, _, _, _, rfl, rfl, hp, rfl, rfl, _, rfl, iteF' (by decide) (kR _ _ ?_)⟩
      clear kR
      refine cut1 fun Rk kR => ?_
      refine ⟨_, rfl, p, _, _, _, rfl, rfl, hp, rfl, rfl, _, rfl, iteT ?_⟩
      exact ⟨_, rfl, p, _, _, _, rfl, rfl, hp, rfl, _, rfl, x, d, a, P, W, rfl, ea, is.1, ok.1, kn, by omega, _, rfl, p, _, _, _, rfl, rfl, hp, rfl, _, rfl, y, d, b, P, W, rfl, eb, is.2, ok.2, kn, by omega, _, _, rfl, rfl, q⟩
    | .two .less a b, ev, is, ok, dp, q =>
      obtain ⟨x, y, h, ea, eb⟩ := ev
      obtain ⟨p, rfl, hp⟩ := h.sq
      have dp : max a.dep b.dep + 1 < n + 1 := dp
      refine ⟨_, rfl, p, _, _, _, rfl, rfl, hp, rfl, rfl, _, rfl, iteF' (by decide) (kR _ _ ?_)⟩
      clear kR
      refine cut1 fun Rk kR => ?_
      refine ⟨_, rfl, p, _, _, _, rfl, rfl, hp, rfl, rfl, _, rfl, iteF' (by decide) (kR _ _ ?_)⟩
      clear kR
      refine cut1 fun Rk kR => ?_
      refine ⟨_, rfl, p, _, _, _, rfl, rfl, hp, rfl, rfl, _, rfl, iteT ?_⟩
      exact ⟨_, rfl, p, _, _, _, rfl, rfl, hp, rfl, _, rfl, x, d, a, P, W, rfl, ea, is.1, ok.1, kn, by omega, _, rfl, p, _, _, _, rfl, rfl, hp, rfl, _, rfl, y, d, b, P, W, rfl, eb, is.2, ok.2, kn, by omega, _, _, rfl, rfl, q⟩
theorem has_wo (s : Src K mg "_law_worth_of" sWo)  : ∀ n : Nat, Has P w K mg base "_law_worth_of" ["told", "known"] (n + 1) (spWo K n) := by
  obtain ⟨f, fd, F, m⟩ := s
  have b : Binds K fd ["told", "known"] [] := bnd2 F fun _ _ _ _ _ _ _ _ => rfl
  intro n
  have all : FnOk P w K mg base CX0 (n + 1) f fd ["told", "known"] (spWo K n) := by
    induction n with
    | zero => exact none_wo
    | succ n ih => exact ok_wo F  ⟨f, fd, ih, F.kp, b, m⟩
  exact ⟨f, fd, all, F.kp, b, m⟩
def spHo (K : PySem.W.Frag) (n : Nat) : Sp := fun vs H Q _ => ∃ (v : V) (d : Addr) (e : E) (P : Str → Str → Prop) (W : Str → Str → Int), vs = [v, .ref d] ∧ EK K H v e ∧ e.isC ∧ e.okIn P ∧ Kn H d P W ∧ e.dep < n ∧ n ≤ 20 ∧ ∀ H', Same H H' → Q (.bl (e.holds W)) H'
theorem none_ho {f : Addr} {fd : FuncData} : FnOk P w K mg base CX0 31 f fd ["told", "known"] ((spHo K) 0) := by
  have no : ∀ vs H Q E, ¬ (spHo K) 0 vs H Q E := fun vs H Q E h => by
    obtain ⟨v, d, e, P, W, _, _, _, _, _, h, _⟩ := h
    omega
  exact ⟨fun vs H Q E h => absurd h (no vs H Q E), fun A outer s H args us vs Q E _ _ _ _ h => absurd h (no vs H Q E)⟩
theorem scHo : FnScope ["told", "known", "one", "other"] ["told", "known"] (defScope sHo) := ⟨rfl, rfl, rfl, by decide +kernel, rfl, by decide +kernel, by decide +kernel⟩
theorem gHo_law_holds : (defScope sHo).names.lookup (Str.ofString "_law_holds") = some .globalImplicit := by decide +kernel
theorem gHo_law_worth_of : (defScope sHo).names.lookup (Str.ofString "_law_worth_of") = some .globalImplicit := by decide +kernel
theorem gHo_int : (defScope sHo).names.lookup (Str.ofString "int") = some .globalImplicit := by decide +kernel
theorem TpK.at {K : PySem.W.Frag} {H H' : Hp} {p : Addr} {xs : List V} (h : TpK K H (.ref p) xs) (s : Same H H') : SqT K H' p xs := by
  obtain ⟨q, e, z⟩ := h
  cases e
  exact z.elim (fun z => SqT.of (s _ _ z)) (fun z => z H')
theorem ok_ho {n : Nat} {f : Addr} {fd : FuncData} (F : Fun K "_law_holds" "_law_holds" sHo f fd) (m_int : mg "int" = none) (WO0 : Has P w K mg base "_law_worth_of" ["told", "known"] 31 (spWo K 30)) (G : Has P w K mg base "_law_holds" ["told", "known"] (n + 31) (spHo K n)) : FnOk P w K mg base CX0 (n + 1 + 31) f fd ["told", "known"] (spHo K (n + 1)) := by
  refine F.ok scHo (fun vs H Q E h => ?_) (fun cdv A outer s H vs Q E hr h => ?_)
  · obtain ⟨v, d, e, P, W, rfl, _⟩ := h
    rfl
  · obtain ⟨v, d, e, P, W, rfl, ev, is, ok, kn, dp, n20, q⟩ := h
    have WO := WO0.mono (show 31 ≤ n + 31 by omega)
    refine goL ⟨_, (L3.cons (L3.ifs (L3.cmp L3.o_eq (L3.ix L3.ixT (L3.v 0) L3.int) L3.str) (L3.one (L3.ret L3.bl)) L3.nil)
      (L3.cons (L3.ifs (L3.cmp L3.o_eq (L3.ix L3.ixT (L3.v 0) L3.int) L3.str) (L3.one (L3.ret (L3.ntE (L3.own G hr gHo_law_holds (L3.k (L3.ix L3.ixT (L3.v 0) L3.int) (L3.k (L3.v 1) L3.n)))))) L3.nil)
      (L3.cons (L3.ifs (L3.cmp L3.o_eq (L3.ix L3.ixT (L3.v 0) L3.int) L3.str) (L3.one (L3.ret (L3.andE2 (L3.own G hr gHo_law_holds (L3.k (L3.ix L3.ixT (L3.v 0) L3.int) (L3.k (L3.v 1) L3.n))) (L3.oneE (L3.own G hr gHo_law_holds (L3.k (L3.ix L3.ixT (L3.v 0) L3.int) (L3.k (L3.v 1) L3.n))))))) L3.nil)
      (L3.cons (L3.set 2 scHo.nd (L3.own WO hr gHo_law_worth_of (L3.k (L3.ix L3.ixT (L3.v 0) L3.int) (L3.k (L3.v 1) L3.n))))
      (L3.cons (L3.set 3 scHo.nd (L3.own WO hr gHo_law_worth_of (L3.k (L3.ix L3.ixT (L3.v 0) L3.int) (L3.k (L3.v 1) L3.n))))
      (L3.one (L3.ret (L3.ix L3.ixL (L3.lst (L3.k (L3.cmpE L3.o_lt (L3.v 2) (L3.v 3)) (L3.k (L3.cmpE L3.o_eq (L3.v 2) (L3.v 3)) L3.n))) (L3.callT L3.c_int gHo_int m_int (by decide +kernel) (L3.k (L3.cmpE L3.o_eq (L3.ix L3.ixT (L3.v 0) L3.int) L3.str) L3.n)))))))))), ?_⟩
    refine cut1 fun Rk kR => ?_
    match e, ev, is, ok, dp, q with
    | .yes, ev, is, ok, dp, q =>
      obtain ⟨p, rfl, hp⟩ := TpK.sq ev
      exact ⟨_, rfl, p, _, _, _, rfl, rfl, hp, rfl, rfl, _, rfl, iteT (q _ (same_refl _))⟩
    | .nt a, ev, is, ok, dp, q =>
      obtain ⟨x, h, ea⟩ := ev
      obtain ⟨p, rfl, hp⟩ := h.sq
      have dp : a.dep + 1 < n + 1 := dp
      refine ⟨_, rfl, p, _, _, _, rfl, rfl, hp, rfl, rfl, _, rfl, iteF' (by decide) (kR _ _ ?_)⟩
      clear kR
      refine cut1 fun Rk kR => ?_
      refine ⟨_, rfl, p, _, _, _, rfl, rfl, hp, rfl, rfl, _, rfl, iteT ?_⟩
      exact ⟨_, rfl, p, _, _, _, rfl, rfl, hp, rfl, _, rfl, x, d, a, P, W, rfl, ea, is, ok, kn, by omega, by omega, fun H' s' => ⟨_, rfl, q _ s'⟩⟩
    | .two .both a b, ev, is, ok, dp, q =>
      obtain ⟨x, y, h, ea, eb⟩ := ev
      obtain ⟨p, rfl, hp⟩ := h.sq
      have dp : max a.dep b.dep + 1 < n + 1 := dp
      refine ⟨_, rfl, p, _, _, _, rfl, rfl, hp, rfl, rfl, _, rfl, iteF' (by decide) (kR _ _ ?_)⟩
      clear kR
      refine cut1 fun Rk kR => ?_
      refine ⟨_, rfl, p, _, _, _, rfl, rfl, hp, rfl, rfl, _, rfl, iteF' (by decide) (kR _ _ ?_)⟩
      clear kR
      refine cut1 fun Rk kR => ?_
      refine ⟨_, rfl, p, _, _, _, rfl, rfl, hp, rfl, rfl, _, rfl, iteT ?_⟩
      refine ⟨_, rfl, p, _, _, _, rfl, rfl, hp, rfl, _, rfl, x, d, a, P, W, rfl, ea, is.1, ok.1, kn, by omega, by omega, fun H1 s1 => ⟨_, rfl, ?_⟩⟩
      have qq : ∀ H', Same H H' → Q (.bl (a.holds W && b.holds W)) H' := q
      cases ha : a.holds W with
      | false =>
        refine iteF ?_
        rw [ha] at qq
        exact qq _ s1
      | true =>
        refine iteT ?_
        rw [ha] at qq
        exact ⟨_, rfl, p, _, _, _, rfl, rfl, TpK.at h s1, rfl, _, rfl, y, d, b, P, W, rfl, EK.keep (Same.tk s1) eb, is.2, ok.2, kn.same s1, by omega, by omega, fun H2 s2 => qq _ (same_trans s1 s2)⟩
    | .two .same a b, ev, is, ok, dp, q =>
      obtain ⟨x, y, h, ea, eb⟩ := ev
      obtain ⟨p, rfl, hp⟩ := h.sq
      have dp : max a.dep b.dep + 1 < n + 1 := dp
      refine ⟨_, rfl, p, _, _, _, rfl, rfl, hp, rfl, rfl, _, rfl, iteF' (by decide) (kR _ _ ?_)⟩
      clear kR
      refine cut1 fun Rk kR => ?_
      refine ⟨_, rfl, p, _, _, _, rfl, rfl, hp, rfl, rfl, _, rfl, iteF' (by decide) (kR _ _ ?_)⟩
      clear kR
      refine cut1 fun Rk kR => ?_
      refine ⟨_, rfl, p, _, _, _, rfl, rfl, hp, rfl, rfl, _, rfl, iteF' (by decide) (kR _ _ ?_)⟩
      clear kR
      refine cut2 fun Rk kR => ?_
      refine ⟨_, rfl, p, _, _, _, rfl, rfl, hp, rfl, _, rfl, x, d, a, P, W, rfl, ea, is.1, ok.1, kn, by omega, ?_⟩
      refine gn_go ?_
      refine ⟨_, rfl, p, _, _, _, rfl, rfl, hp, rfl, _, rfl, y, d, b, P, W, rfl, eb, is.2, ok.2, kn, by omega, ?_⟩
      refine gn_go ?_
      refine kR _ _ ?_
      refine ⟨_, rfl, _, rfl, _, _, rfl, rfl, _, rfl, _, rfl, rfl, (by show 2 ≤ sizeLine; decide), fun L hL => ?_⟩
      have sL := same_new hL (.lst [.bl (decide (a.worth W < b.worth W)), .bl (decide (V.int (a.worth W) = V.int (b.worth W)))])
      have hp2 : SqT K (upd H L (.lst [.bl (decide (a.worth W < b.worth W)), .bl (decide (V.int (a.worth W) = V.int (b.worth W)))])) p _ := TpK.at h sL
      refine ⟨_, rfl, p, _, _, _, rfl, rfl, hp2, rfl, rfl, .inr ⟨_, rfl, L, _, _, _, rfl, rfl, SqL.of upd_same, rfl, ?_⟩⟩
      have e9 : decide (V.int (a.worth W) = V.int (b.worth W)) = (TW.E.two .same a b).holds W := by
        show _ = decide (a.worth W = b.worth W)
        by_cases z : a.worth W = b.worth W
        · rw [decide_eq_true z, decide_eq_true (congrArg V.int z)]
        · rw [decide_eq_false z, decide_eq_false (fun y => z (by injection y))]
      rw [e9]
      rw [e9] at sL
      exact q _ sL
    | .two .under a b, ev, is, ok, dp, q =>
      obtain ⟨x, y, h, ea, eb⟩ := ev
      obtain ⟨p, rfl, hp⟩ := h.sq
      have dp : max a.dep b.dep + 1 < n + 1 := dp
      refine ⟨_, rfl, p, _, _, _, rfl, rfl, hp, rfl, rfl, _, rfl, iteF' (by decide) (kR _ _ ?_)⟩
      clear kR
      refine cut1 fun Rk kR => ?_
      refine ⟨_, rfl, p, _, _, _, rfl, rfl, hp, rfl, rfl, _, rfl, iteF' (by decide) (kR _ _ ?_)⟩
      clear kR
      refine cut1 fun Rk kR => ?_
      refine ⟨_, rfl, p, _, _, _, rfl, rfl, hp, rfl, rfl, _, rfl, iteF' (by decide) (kR _ _ ?_)⟩
      clear kR
      refine cut2 fun Rk kR => ?_
      refine ⟨_, rfl, p, _, _, _, rfl, rfl, hp, rfl, _, rfl, x, d, a, P, W, rfl, ea, is.1, ok.1, kn, by omega, ?_⟩
      refine gn_go ?_
      refine ⟨_, rfl, p, _, _, _, rfl, rfl, hp, rfl, _, rfl, y, d, b, P, W, rfl, eb, is.2, ok.2, kn, by omega, ?_⟩
      refine gn_go ?_
      refine kR _ _ ?_
      refine ⟨_, rfl, _, rfl, _, _, rfl, rfl, _, rfl, _, rfl, rfl, (by show 2 ≤ sizeLine; decide), fun L hL => ?_⟩
      have sL := same_new hL (.lst [.bl (decide (a.worth W < b.worth W)), .bl (decide (V.int (a.worth W) = V.int (b.worth W)))])
      have hp2 : SqT K (upd H L (.lst [.bl (decide (a.worth W < b.worth W)), .bl (decide (V.int (a.worth W) = V.int (b.worth W)))])) p _ := TpK.at h sL
      refine ⟨_, rfl, p, _, _, _, rfl, rfl, hp2, rfl, rfl, .inr ⟨_, rfl, L, _, _, _, rfl, rfl, SqL.of upd_same, rfl, ?_⟩⟩
      exact q _ sL
theorem has_ho (s : Src K mg "_law_holds" sHo) (m_int : mg "int" = none) (WO0 : Has P w K mg base "_law_worth_of" ["told", "known"] 31 (spWo K 30)) : ∀ n : Nat, Has P w K mg base "_law_holds" ["told", "known"] (n + 31) (spHo K n) := by
  obtain ⟨f, fd, F, m⟩ := s
  have b : Binds K fd ["told", "known"] [] := bnd2 F fun _ _ _ _ _ _ _ _ => rfl
  intro n
  have all : FnOk P w K mg base CX0 (n + 31) f fd ["told", "known"] (spHo K n) := by
    induction n with
    | zero => exact none_ho
    | succ n ih => exact ok_ho F m_int WO0 ⟨f, fd, ih, F.kp, b, m⟩
  exact ⟨f, fd, all, F.kp, b, m⟩
def spBn : Sp := fun vs H Q _ => ∃ (p B I N wa : Addr) (word : Str) (vb : List V) (bs : List (Str × Int)) (ws : List Int), vs = [.ref p, .str word, .ref wa] ∧ H p = some (.tup [.ref B, .ref I, .ref N]) ∧ H B = some (.lst vb) ∧ Paired (BoxAt H) vb bs ∧ H wa = some (.tup (ws.map V.int)) ∧ bs.length = ws.length ∧ ws.length ≤ 4 ∧ ∀ (D : Addr) (H' : Hp), Same H H' → H D = none → H' D = some (.dT (putAllT [] (kvW word bs ws))) → Q (.ref D) H'
theorem scBn : FnScope ["program", "word", "worths"] ["program", "word", "worths"] (defScope sBn) := ⟨rfl, rfl, rfl, by decide +kernel, rfl, by decide +kernel, by decide +kernel⟩
theorem gBn_dict : (defScope sBn).names.lookup (Str.ofString "dict") = some .globalImplicit := by decide +kernel
theorem gBn_zip : (defScope sBn).names.lookup (Str.ofString "zip") = some .globalImplicit := by decide +kernel
theorem ok_bn {f : Addr} {fd : FuncData} (F : Fun K "_law_by_names" "_law_by_names" sBn f fd) (m_dict : mg "dict" = none) (m_zip : mg "zip" = none) : FnOk P w K mg base CX0 1 f fd ["program", "word", "worths"] spBn := by
  refine F.ok scBn (fun vs H Q E h => ?_) (fun cdv A outer s H vs Q E hr h => ?_)
  · obtain ⟨p, B, I, N, wa, word, vb, bs, ws, rfl, _⟩ := h
    rfl
  · obtain ⟨p, B, I, N, wa, word, vb, bs, ws, rfl, hp, hB, pb, hw, bw, w4, q⟩ := h
    have vbl := Paired.length pb
    refine goL ⟨_, (L3.one (L3.ret (L3.callT (L3.c_dictT (up_ne hr _ (by decide))) gBn_dict m_dict (by decide +kernel) (L3.k (L3.lc [none, none, some 1] ["box", "worth", "word"] (show CompScope _ (defScope sBn) from ⟨rfl, by decide +kernel, by decide +kernel, by decide +kernel⟩) (by rfl) (L3.iZA false true gBn_zip m_zip (L3.k (L3.ix L3.ixT (L3.v 0) L3.int) (L3.k (L3.v 2) L3.n))) (fun _ _ _ _ _ => ⟨(L3.gtup 2 (L3.gsk (L3.gn 0 (show (["box", "worth", "word"] : List Str).Nodup from by decide +kernel)) (L3.gsk (L3.gn 1 (show (["box", "worth", "word"] : List Str).Nodup from by decide +kernel)) L3.gsn))), L3.if0, (L3.tup (L3.k (L3.tup (L3.k (L3.v 2) (L3.k (L3.ix L3.ixT (L3.v 0) L3.int) L3.n))) (L3.k (L3.v 1) L3.n)))⟩)) L3.n)))), ?_⟩
    refine ⟨_, rfl, p, _, _, _, rfl, rfl, SqT.of hp, rfl, _, rfl, B, wa, rfl, ⟨_, SqL.of hB⟩, ⟨_, SqT.of hw⟩, fun l hl => ?_⟩
    refine comp_zipA (xs := vb) (ys := ws.map V.int) (by rw [List.length_map]; omega) (fun (i : Nat) Hx => Same H Hx ∧ ∃ xs, Hx l = some (.lst xs) ∧ Paired (PairT Hx) xs ((kvW word bs ws).take i)) ⟨same_new hl _, [], upd_same, .nil⟩ (fun i Hx _ z => ⟨SqL.of (z.1 _ _ hB), SqT.of (z.1 _ _ hw)⟩) (fun i x0 y0 pp Hx hx hy z hpp => ?_) (fun Hx z => ?_)
    · obtain ⟨sx, xs, gl, px⟩ := z
      have hil : i < vb.length := (List.getElem?_eq_some_iff.mp hx).1
      obtain ⟨b, hbi, pb0, rfl, hpb⟩ := Paired.get pb hx
      obtain ⟨w0, hw0, rfl⟩ := map_get hy
      have sp := same_new hpp (.tup [.ref pb0, .int w0])
      have gp : (upd Hx pp (.tup [.ref pb0, .int w0])) pp = some (.tup [.ref pb0, .int w0]) := upd_same
      generalize upd Hx pp (.tup [.ref pb0, .int w0]) = Hy at sp gp ⊢
      have sxy := same_trans sx sp
      refine ⟨pp, _, rfl, SqT.of gp, rfl, _, _, rfl, _, _, rfl, rfl, ?_⟩
      refine turn0 (A := fun H5 => mApp _ l _ H5 _) ?_
      refine ⟨_, rfl, _, rfl, pb0, _, _, _, rfl, rfl, SqT.of (sxy _ _ hpb), rfl, (by show 2 ≤ sizeLine; decide), fun kt hkt => ?_⟩
      have sk := same_new hkt (.tup [.str word, .str b.1])
      have gk : (upd Hy kt (.tup [.str word, .str b.1])) kt = some (.tup [.str word, .str b.1]) := upd_same
      generalize upd Hy kt (.tup [.str word, .str b.1]) = Hz at sk gk ⊢
      refine ⟨_, rfl, (by show 2 ≤ sizeLine; decide), fun pr hpr => ?_⟩
      have sr := same_new hpr (.tup [.ref kt, .int w0])
      have gr : (upd Hz pr (.tup [.ref kt, .int w0])) pr = some (.tup [.ref kt, .int w0]) := upd_same
      have gkr := sr _ _ gk
      generalize upd Hz pr (.tup [.ref kt, .int w0]) = Hw at sr gr gkr ⊢
      have glw := sr _ _ (sk _ _ (sp _ _ gl))
      have sxw := same_trans sp (same_trans sk sr)
      have hxl := Paired.length px
      rw [List.length_take] at hxl
      refine ⟨_, glw, small1000 (by omega), comp_end (Pv := fun (i : Nat) Hx => Same H Hx ∧ ∃ xs, Hx l = some (.lst xs) ∧ Paired (PairT Hx) xs ((kvW word bs ws).take i)) (by repeat' constructor) hil ⟨same_put (same_trans sx sxw) hl, xs ++ [.ref pr], upd_same, ?_⟩⟩
      have tkl : TK Hw (upd Hw l (.lst (xs ++ [.ref pr]))) := TW.TK.lst glw
      rw [List.take_add_one, kvW_get bs ws i b w0 hbi hw0]
      exact Paired.snoc (Paired.mapP px fun _ _ ⟨a, c, e1, e2, e3⟩ => ⟨a, c, e1, tkl _ _ (sxw _ _ e2), tkl _ _ (sxw _ _ e3)⟩) ⟨pr, kt, rfl, tkl _ _ gr, tkl _ _ gkr⟩
    obtain ⟨sx, xs, gl, px⟩ := z
    rw [List.take_of_length_le (by rw [kvW_len bs ws bw]; omega)] at px
    refine ⟨l, xs, _, rfl, gl, px, fun D hD => ?_⟩
    exact q D _ (same_add sx hD) (none_of_same sx hD) upd_same
theorem has_bn (s : Src K mg "_law_by_names" sBn) (m_dict : mg "dict" = none) (m_zip : mg "zip" = none) : Has P w K mg base "_law_by_names" ["program", "word", "worths"] 1 spBn :=
  let ⟨f, fd, F, m⟩ := s
  ⟨f, fd, ok_bn F m_dict m_zip, F.kp, bnd3 F fun _ _ _ _ _ _ _ _ _ => rfl, m⟩
/-- the worths of both -/
def W2 (bs : List (Str × Int)) (ms ys : List Int) : Str → Str → Int := fun t x => if t = "mine" then wOf bs ms x else wOf bs ys x
def P2 (bs : List (Str × Int)) : Str → Str → Prop := fun t x => (t = "mine" ∨ t = "yours") ∧ x ∈ bs.map (·.1)
/-- a program's boxes lie so -/
structure Bx (H : Hp) (p : Addr) (bs : List (Str × Int)) : Prop where
  ex : ∃ (B I N : Addr) (vb : List V), H p = some (.tup [.ref B, .ref I, .ref N]) ∧ H B = some (.lst vb) ∧ Paired (BoxAt H) vb bs
theorem Bx.same {H H' : Hp} {p : Addr} {bs : List (Str × Int)} (s : Same H H') (h : Bx H p bs) : Bx H' p bs := let ⟨B, I, N, vb, a, b, c⟩ := h.ex; ⟨B, I, N, vb, s _ _ a, s _ _ b, Paired.mapP c fun _ _ z => Tp.keep (Same.tk s) z⟩
theorem kn_both {bs : List (Str × Int)} {ms ys : List Int} {H : Hp} {D : Addr} (nd : (bs.map (·.1)).Nodup) (l1 : bs.length = ms.length) (l2 : bs.length = ys.length) (h : H D = some (.dT (putAllT (putAllT [] (kvW "mine" bs ms)) (kvW "yours" bs ys)))) : Kn H D (P2 bs) (W2 bs ms ys) := by
  refine ⟨_, h, fun t x ⟨ht, hx⟩ => ⟨.inr ht, ?_⟩⟩
  rcases ht with rfl | rfl
  · rw [putT_off _ _ _ (fun z => by
      obtain ⟨y, _, e⟩ := kvW_keys bs ys _ z
      injection e with e _
      injection e with e
      exact absurd e (by decide)), putT_val bs ms [] x l1 nd hx]
    rfl
  · rw [putT_val bs ys _ x l2 nd hx]
    rfl
theorem putT_new : ∀ (kvs d : List (List Key × V)), (kvs.map (·.1)).Nodup → (∀ k ∈ kvs.map (·.1), valV d k = none) → putAllT d kvs = d ++ kvs
  | [], d, _, _ => (List.append_nil d).symm
  | p :: r, d, nd, h => by
    rw [List.map_cons, List.nodup_cons] at nd
    show putAllT (putK d p.1 p.2) r = _
    rw [putT_new r _ nd.2 (fun k hk => by
      rw [valV_put, if_neg (fun (z : k = p.1) => nd.1 (z ▸ hk))]
      exact h k (List.mem_cons.mpr (.inr hk))), putK_new p.2 (h p.1 (List.mem_cons.mpr (.inl rfl))), List.append_assoc]
    rfl
theorem kvW_nodup {word : Str} : ∀ (bs : List (Str × Int)) (ws : List Int), (bs.map (·.1)).Nodup → ((kvW word bs ws).map (·.1)).Nodup
  | [], _, _ => List.nodup_nil
  | _ :: _, [], _ => List.nodup_nil
  | b :: bs, w :: ws, nd => by
    rw [List.map_cons, List.nodup_cons] at nd
    show ([.inr word, .inr b.1] :: (kvW word bs ws).map (·.1)).Nodup
    refine List.nodup_cons.mpr ⟨fun z => ?_, kvW_nodup bs ws nd.2⟩
    obtain ⟨x, hx, e⟩ := kvW_keys bs ws _ z
    injection e with _ e
    injection e with e _
    injection e with e
    exact nd.1 (e ▸ hx)
theorem kvW_put {word : Str} (bs : List (Str × Int)) (ws : List Int) (_ : bs.length = ws.length) (nd : (bs.map (·.1)).Nodup) : putAllT [] (kvW word bs ws) = kvW word bs ws := putT_new _ [] (kvW_nodup bs ws nd) (fun _ _ => rfl)
def spBo : Sp := fun vs H Q _ => ∃ (p p2 wa wb : Addr) (bs : List (Str × Int)) (ms ys : List Int), vs = [.ref p, .ref p2, .ref wa, .ref wb] ∧ Bx H p bs ∧ Bx H p2 bs ∧ H wa = some (.tup (ms.map V.int)) ∧ H wb = some (.tup (ys.map V.int)) ∧ bs.length = ms.length ∧ bs.length = ys.length ∧ bs.length ≤ 4 ∧ (bs.map (·.1)).Nodup ∧ ∀ (D : Addr) (H' : Hp), Same H H' → H D = none → Kn H' D (P2 bs) (W2 bs ms ys) → Q (.ref D) H'
theorem scBo : FnScope ["one", "other", "mine", "yours", "known"] ["one", "other", "mine", "yours"] (defScope sBo) := ⟨rfl, rfl, rfl, by decide +kernel, rfl, by decide +kernel, by decide +kernel⟩
theorem gBo_law_by_names : (defScope sBo).names.lookup (Str.ofString "_law_by_names") = some .globalImplicit := by decide +kernel
theorem ok_bo {f : Addr} {fd : FuncData} (F : Fun K "_law_both" "_law_both" sBo f fd) (BN : Has P w K mg base "_law_by_names" ["program", "word", "worths"] 1 spBn) : FnOk P w K mg base CX0 2 f fd ["one", "other", "mine", "yours"] spBo := by
  refine F.ok scBo (fun vs H Q E h => ?_) (fun cdv A outer s H vs Q E hr h => ?_)
  · obtain ⟨p, p2, wa, wb, bs, ms, ys, rfl, _⟩ := h
    rfl
  · obtain ⟨p, p2, wa, wb, bs, ms, ys, rfl, bx, bx2, hw, hw2, l1, l2, l4, nd, q⟩ := h
    obtain ⟨B, I, N, vb, hp, hB, pb⟩ := bx.ex
    refine goL ⟨_, (L3.cons (L3.set 4 scBo.nd (L3.own BN hr gBo_law_by_names (L3.k (L3.v 0) (L3.k L3.str (L3.k (L3.v 2) L3.n)))))
      (L3.cons (L3.ex (L3.update (up_ne hr _ (by decide)) (L3.v 4) (L3.own BN hr gBo_law_by_names (L3.k (L3.v 1) (L3.k L3.str (L3.k (L3.v 3) L3.n))))))
      (L3.one (L3.ret (L3.v 4))))), ?_⟩
    refine cut1 fun Rk kR => ?_
    refine ⟨_, rfl, _, rfl, p, B, I, N, wa, "mine", vb, bs, ms, rfl, hp, hB, pb, hw, l1, by omega, fun D H1 s1 nD gD => ?_⟩
    refine gn_go ?_
    refine kR _ _ ?_
    refine normS [some (.ref p), some (.ref p2), some (.ref wa), some (.ref wb), some (.ref D)] rfl ?_
    refine cut1 fun Rk kR => ?_
    obtain ⟨B2, I2, N2, vb2, hp2, hB2, pb2⟩ := (bx2.same s1).ex
    refine ⟨_, rfl, D, rfl, .inr ⟨_, .inl gD⟩, _, rfl, _, rfl, p2, B2, I2, N2, wb, "yours", vb2, bs, ys, rfl, hp2, hB2, pb2, s1 _ _ hw2, l2, by omega, fun D2 H2 s2 nD2 gD2 => ?_⟩
    have DD : D ≠ D2 := ne_of_none gD nD2
    have k1 := kvW_len (word := "mine") bs ms l1
    have k2 := kvW_len (word := "yours") bs ys l2
    have gDz := s2 _ _ gD
    have n1 := kvW_put (word := "mine") bs ms l1 nd
    have n2 := kvW_put (word := "yours") bs ys l2 nd
    rw [n1] at gDz
    rw [n2] at gD2
    refine ⟨D2, _, _, rfl, gDz, gD2, DD, (by cases bs with | nil => exact .inr rfl | cons b r => cases ms with | nil => simp at l1 | cons m r2 => exact .inl (fun z => nomatch z)), ?_, ?_⟩
    · have : 1000 ≤ sizeLine := by decide
      omega
    refine kR _ _ ?_
    refine ⟨_, rfl, ?_⟩
    refine q D _ (same_put (same_trans s1 s2) nD) nD (kn_both nd l1 l2 ?_)
    rw [n1]
    exact upd_same
theorem has_bo (s : Src K mg "_law_both" sBo) (BN : Has P w K mg base "_law_by_names" ["program", "word", "worths"] 1 spBn) : Has P w K mg base "_law_both" ["one", "other", "mine", "yours"] 2 spBo :=
  let ⟨f, fd, F, m⟩ := s
  ⟨f, fd, ok_bo F BN, F.kp, bnd4 F fun _ _ _ _ _ _ _ _ _ _ => rfl, m⟩
end
end TW
set_option Elab.async false
set_option linter.all false
set_option maxRecDepth 100000
set_option exponentiation.threshold 4000
set_option maxHeartbeats 1000000
namespace TW
open PySem L2
section
variable {P : Program} {w : World} {K : PySem.W.Frag} {mg : Str → Option Value} {base : Heap}
abbrev sSt : Stmt := top 33
abbrev sBp : Stmt := top 36
abbrev sCt : Stmt := top 37
theorem for_zipA {t1 t2 : Bool} {K : PySem.W.Frag} {a b : Addr} {xs ys : List V} {g : TG} {tb : TS} {D : L2.Ends} {σ : St} {H : Hp} (hlen : xs.length = ys.length) (Pv : Nat → St → Hp → Prop) (h0 : Pv 0 σ H) (hl : ∀ i σ H, i ≤ xs.length → Pv i σ H → Sq t1 K H a xs ∧ Sq t2 K H b ys)
    (hs : ∀ i x y p σ H, xs[i]? = some x → ys[i]? = some y → Pv i σ H → H p = none → g (.ref p) σ (upd H p (.tup [x, y])) fun σ2 H2 => tb { D with nx := Pv (i + 1), ct := Pv (i + 1), bk := D.nx } σ2 H2) (hd : ∀ σ H, Pv xs.length σ H → D.nx σ H) :
    ∃ W : Nat → Nat → St → Hp → Prop, (∃ m, W 0 m σ H) ∧ ∀ i m σ H, W i m σ H →
      ((ItzA t1 t2 K a b).stop i H ∧ D.nx σ H) ∨ ((ItzA t1 t2 K a b).go i H ∧ ∃ N : St → Hp → Prop, (∀ σ' H', N σ' H' → ∃ m', m' < m ∧ W (i + 1) m' σ' H') ∧ ∀ x H', (ItzA t1 t2 K a b).yld i H x H' → g x σ H' fun σ2 H2 => tb { D with nx := N, ct := N, bk := D.nx } σ2 H2) := by
  refine ⟨fun i m σ H => m = xs.length - i ∧ i ≤ xs.length ∧ Pv i σ H, ⟨xs.length, by simp, Nat.zero_le _, h0⟩, ?_⟩
  rintro i m σ H ⟨rfl, hi, p⟩
  obtain ⟨q1, q2⟩ := hl i σ H hi p
  by_cases hlt : i < xs.length
  · refine .inr ⟨⟨xs, ys, xs[i], ys[i]'(hlen ▸ hlt), q1, q2, by simp [hlt], by simp [hlen ▸ hlt]⟩, Pv (i + 1), fun σ' H' p' => ⟨xs.length - (i + 1), by omega, rfl, hlt, p'⟩, fun x H' y => ?_⟩
    obtain ⟨pp, x1, y1, hn, rfl, rfl, k⟩ := y
    obtain ⟨k1, k2⟩ := k xs ys q1 q2
    exact hs i x1 y1 pp σ H k1 k2 p hn
  · have e : i = xs.length := by omega
    subst e
    exact .inl ⟨⟨xs, ys, q1, q2, .inl (Nat.le_refl _)⟩, hd σ H p⟩
/-! ### _law_step -/
def putW (bs : List (Str × Int)) (ws : List Int) (x : Str) (t : Int) : List Int := List.zipWith (fun b w => if b.1 = x then t % b.2 else w) bs ws
theorem putW_get {bs : List (Str × Int)} {ws : List Int} {x : Str} {t : Int} {i : Nat} {b : Str × Int} {w : Int} (h1 : bs[i]? = some b) (h2 : ws[i]? = some w) : (putW bs ws x t)[i]? = some (if b.1 = x then t % b.2 else w) := by
  unfold putW
  rw [List.getElem?_zipWith, h1, h2]
theorem putW_len {bs : List (Str × Int)} {ws : List Int} {x : Str} {t : Int} (h : bs.length = ws.length) : (putW bs ws x t).length = bs.length := by
  unfold putW
  rw [List.length_zipWith]
  omega
def wB (bs : List (Str × Int)) (ws : List Int) : Str → Str → Int := fun _ y => wOf bs ws y
/-- what is said, the place and worths behind a step; none at an end -/
def stepN (bs : List (Str × Int)) (ws : List Int) : Np → Option (List Int × Int × List Int)
  | .put x s n => some ([], n, putW bs ws x (s.worth (wB bs ws)))
  | .say s n => some ([s.worth (wB bs ws)], n, ws)
  | .test c n o => some ([], if c.holds (wB bs ws) then n else o, ws)
  | .pick _ n => some ([], n, ws)
  | .fin => none
structure NpT (ns : List Str) (e : Np) : Prop where
  is : e.isN
  td : ∀ x ∈ e.tolds, x.okIn (bxN ns) ∧ x.dep ≤ 3
/-- a program that lies so, its boxes and nodes -/
structure PgA (H : Hp) (p : Addr) (bs : List (Str × Int)) (nds : List Np) : Prop where
  ex : ∃ (B I N : Addr) (vb vn : List V) (ins : List Str), H p = some (.tup [.ref B, .ref I, .ref N]) ∧ H B = some (.lst vb) ∧ Paired (BoxAt H) vb bs ∧ H N = some (.lst vn) ∧ Paired (NpAt H) vn nds ∧ H I = some (.lst (ins.map V.str))
theorem PgA.same {H H' : Hp} {p : Addr} {bs : List (Str × Int)} {nds : List Np} (s : Same H H') (h : PgA H p bs nds) : PgA H' p bs nds :=
  let ⟨B, I, N, vb, vn, ins, a, b, c, d, e, f⟩ := h.ex
  ⟨B, I, N, vb, vn, ins, s _ _ a, s _ _ b, Paired.mapP c fun _ _ z => Tp.keep (Same.tk s) z, s _ _ d, Paired.mapP e fun _ _ z => NpAt.keep (Same.tk s) z, s _ _ f⟩
theorem PgA.bx {H : Hp} {p : Addr} {bs : List (Str × Int)} {nds : List Np} (h : PgA H p bs nds) : Bx H p bs :=
  let ⟨B, I, N, vb, _, _, a, b, c, _⟩ := h.ex
  ⟨B, I, N, vb, a, b, c⟩
structure BsT (bs : List (Str × Int)) : Prop where
  l4 : bs.length ≤ 4
  nd : (bs.map (·.1)).Nodup
  sz : ∀ b ∈ bs, 1 ≤ b.2
  s9 : ∀ b ∈ bs, b.2 ≤ 16
def spSt : Sp := fun vs H Q _ => ∃ (p wa : Addr) (j : Nat) (bs : List (Str × Int)) (nds : List Np) (ws : List Int) (e : Np), vs = [.ref p, .int (j : Int), .ref wa] ∧ PgA H p bs nds ∧ nds[j]? = some e ∧ NpT (bs.map (·.1)) e ∧ H wa = some (.tup (ws.map V.int)) ∧ bs.length = ws.length ∧ BsT bs ∧
  (stepN bs ws e = none → ∀ H', Same H H' → Q .non H') ∧ ∀ (s : List Int) (n : Int) (ws' : List Int), stepN bs ws e = some (s, n, ws') → ∀ (r l1 l2 : Addr) (H' : Hp), Same H H' → H' r = some (.tup [.ref l1, .int n, .ref l2]) → H' l1 = some (.lst (s.map V.int)) → H' l2 = some (.tup (ws'.map V.int)) → Q (.ref r) H'
theorem kn_box {bs : List (Str × Int)} {ws : List Int} {H : Hp} {D : Addr} (nd : (bs.map (·.1)).Nodup) (l1 : bs.length = ws.length) (h : H D = some (.dT (putAllT [] (kvW "box" bs ws)))) : Kn H D (bxN (bs.map (·.1))) (wB bs ws) := by
  refine ⟨_, h, fun t x hx => ?_⟩
  obtain ⟨rfl, hx⟩ := hx
  exact ⟨.inl rfl, putT_val bs ws [] x l1 nd hx⟩
theorem scSt : FnScope ["program", "place", "worths", "node", "known", "found", "name", "size", "worth"] ["program", "place", "worths"] (defScope sSt) := ⟨rfl, rfl, rfl, by decide +kernel, rfl, by decide +kernel, by decide +kernel⟩
theorem gSt_law_by_names : (defScope sSt).names.lookup (Str.ofString "_law_by_names") = some .globalImplicit := by decide +kernel
theorem gSt_law_holds : (defScope sSt).names.lookup (Str.ofString "_law_holds") = some .globalImplicit := by decide +kernel
theorem gSt_law_worth_of : (defScope sSt).names.lookup (Str.ofString "_law_worth_of") = some .globalImplicit := by decide +kernel
theorem gSt_int : (defScope sSt).names.lookup (Str.ofString "int") = some .globalImplicit := by decide +kernel
theorem gSt_tuple : (defScope sSt).names.lookup (Str.ofString "tuple") = some .globalImplicit := by decide +kernel
theorem gSt_zip : (defScope sSt).names.lookup (Str.ofString "zip") = some .globalImplicit := by decide +kernel
theorem ok_st {f : Addr} {fd : FuncData} (F : Fun K "_law_step" "_law_step" sSt f fd) (m_int : mg "int" = none) (m_zip : mg "zip" = none) (m_tuple : mg "tuple" = none) (BN0 : Has P w K mg base "_law_by_names" ["program", "word", "worths"] 1 spBn) (WO0 : Has P w K mg base "_law_worth_of" ["told", "known"] 31 (spWo K 30)) (HO : Has P w K mg base "_law_holds" ["told", "known"] 51 (spHo K 20)) : FnOk P w K mg base CX0 52 f fd ["program", "place", "worths"] spSt := by
  refine F.ok scSt (fun vs H Q E h => ?_) (fun cdv A outer s H vs Q E hr h => ?_)
  · obtain ⟨p, wa, j, bs, nds, ws, e, rfl, _⟩ := h
    rfl
  · obtain ⟨p, wa, j, bs, nds, ws, e, rfl, pg, hj, nt, hw, bw, bt, qn, qs⟩ := h
    have l4 := bt.l4
    have BN := BN0.mono (show 1 ≤ 51 by omega)
    have WO := WO0.mono (show 31 ≤ 51 by omega)
    obtain ⟨B, I, N, vb, vn, _, hp, hB, pb, hN, pn, _⟩ := pg.ex
    have hvl := Paired.length pb
    have hvn := Paired.length pn
    have hil : j < nds.length := (List.getElem?_eq_some_iff.mp hj).1
    obtain ⟨x0, hx0⟩ : ∃ x0, vn[j]? = some x0 := ⟨vn[j]'(by omega), List.getElem?_eq_getElem (by omega)⟩
    obtain ⟨e1, hj1, hnd⟩ := Paired.get pn hx0
    cases hj.symm.trans hj1
    refine goL ⟨_, (L3.cons (L3.set 3 scSt.nd (L3.ix L3.ixL (L3.ix L3.ixT (L3.v 0) L3.int) (L3.v 1)))
      (L3.cons (L3.set 4 scSt.nd (L3.own BN hr gSt_law_by_names (L3.k (L3.v 0) (L3.k L3.str (L3.k (L3.v 2) L3.n)))))
      (L3.cons (L3.ifs (L3.cmp L3.o_eq (L3.ix L3.ixT (L3.v 3) L3.int) L3.str) (L3.one (L3.ret L3.non)) L3.nil)
      (L3.cons (L3.ifs (L3.cmp L3.o_eq (L3.ix L3.ixT (L3.v 3) L3.int) L3.str) (L3.one (L3.ret (L3.tup (L3.k (L3.lst (L3.k (L3.own WO hr gSt_law_worth_of (L3.k (L3.ix L3.ixT (L3.v 3) L3.int) (L3.k (L3.v 4) L3.n))) L3.n)) (L3.k (L3.ix L3.ixT (L3.v 3) L3.int) (L3.k (L3.v 2) L3.n)))))) L3.nil)
      (L3.cons (L3.ifs (L3.cmp L3.o_eq (L3.ix L3.ixT (L3.v 3) L3.int) L3.str) (L3.one (L3.ret (L3.tup (L3.k (L3.lst L3.n) (L3.k (L3.ix L3.ixT (L3.v 3) (L3.op L3.o_sub L3.int (L3.callT L3.c_int gSt_int m_int (by decide +kernel) (L3.k (L3.own HO hr gSt_law_holds (L3.k (L3.ix L3.ixT (L3.v 3) L3.int) (L3.k (L3.v 4) L3.n))) L3.n)))) (L3.k (L3.v 2) L3.n)))))) L3.nil)
      (L3.cons (L3.set 5 scSt.nd (L3.lst L3.n))
      (L3.cons (L3.for_ (L3.iZA false true gSt_zip m_zip (L3.k (L3.ix L3.ixT (L3.v 0) L3.int) (L3.k (L3.v 2) L3.n))) (L3.gtup 2 (L3.gsk (L3.gtup 2 (L3.gsk (L3.gn 6 scSt.nd) (L3.gsk (L3.gn 7 scSt.nd) L3.gsn))) (L3.gsk (L3.gn 8 scSt.nd) L3.gsn))) (L3.cons (L3.ifs (L3.cmp L3.o_eq (L3.v 6) (L3.ix L3.ixT (L3.v 3) L3.int)) (L3.one (L3.set 8 scSt.nd (L3.op L3.o_mod (L3.own WO hr gSt_law_worth_of (L3.k (L3.ix L3.ixT (L3.v 3) L3.int) (L3.k (L3.v 4) L3.n))) (L3.v 7)))) L3.nil)
      (L3.one (L3.ex (L3.append (L3.v 5) (L3.k (L3.v 8) L3.n))))))
      (L3.one (L3.ret (L3.tup (L3.k (L3.lst L3.n) (L3.k (L3.ix L3.ixT (L3.v 3) L3.int) (L3.k (L3.callT L3.c_tuple gSt_tuple m_tuple (by decide +kernel) (L3.k (L3.v 5) L3.n)) L3.n))))))))))))), ?_⟩
    refine cut1 fun Rk kR => ?_
    refine ⟨_, rfl, p, _, _, _, rfl, rfl, SqT.of hp, rfl, _, rfl, N, _, _, _, rfl, rfl, SqL.of hN, atI_nat hx0, ?_⟩
    refine gn_go ?_
    refine kR _ _ ?_
    clear kR
    refine normS [some (.ref p), some (.int (j : Int)), some (.ref wa), some x0, none, none, none, none, none] rfl ?_
    refine cut1 fun Rk kR => ?_
    refine ⟨_, rfl, _, rfl, p, B, I, N, wa, "box", vb, bs, ws, rfl, hp, hB, pb, hw, bw, by omega, fun D H1 s1 nD gD => ?_⟩
    refine gn_go ?_
    refine kR _ _ ?_
    clear kR
    refine normS [some (.ref p), some (.int (j : Int)), some (.ref wa), some x0, some (.ref D), none, none, none, none] rfl ?_
    refine cut1 fun Rk kR => ?_
    have kn := kn_box bt.nd bw gD
    have hw1 := s1 _ _ hw
    replace hnd := NpAt.keep (Same.tk s1) hnd
    match e, hnd, nt, qn, qs with
    | .fin, hnd, nt, qn, qs =>
      obtain ⟨x, rfl, hx⟩ := hnd
      refine ⟨_, rfl, x, _, _, _, rfl, rfl, SqT.of hx, rfl, rfl, _, rfl, iteT ?_⟩
      exact qn rfl _ s1
    | .say sm n, hnd, nt, qn, qs =>
      obtain ⟨u, ⟨x, rfl, hx⟩, eu⟩ := hnd
      refine ⟨_, rfl, x, _, _, _, rfl, rfl, SqT.of hx, rfl, rfl, _, rfl, iteF' (by decide) (kR _ _ ?_)⟩
      clear kR
      refine cut1 fun Rk kR => ?_
      refine ⟨_, rfl, x, _, _, _, rfl, rfl, SqT.of hx, rfl, rfl, _, rfl, iteT ?_⟩
      have td := nt.td sm (List.mem_cons.mpr (.inl rfl))
      refine ⟨_, rfl, x, _, _, _, rfl, rfl, SqT.of hx, rfl, _, rfl, u, D, sm, _, _, rfl, eu.ek, nt.is, td.1, kn, by omega, (by show 1 ≤ sizeLine; decide), fun l1 hl1 => ?_⟩
      have s2 := same_new hl1 (.lst [.int (sm.worth (wB bs ws))])
      have g2 : (upd H1 l1 (.lst [.int (sm.worth (wB bs ws))])) l1 = some (.lst [.int (sm.worth (wB bs ws))]) := upd_same
      generalize upd H1 l1 (.lst [.int (sm.worth (wB bs ws))]) = H2 at s2 g2 ⊢
      refine ⟨_, rfl, x, _, _, _, rfl, rfl, SqT.of (s2 _ _ hx), rfl, _, rfl, (by show 3 ≤ sizeLine; decide), fun r hr => ?_⟩
      have s3 := same_new hr (.tup [.ref l1, .int n, .ref wa])
      exact qs _ _ _ rfl r l1 wa _ (same_trans s1 (same_trans s2 s3)) upd_same (s3 _ _ g2) (s3 _ _ (s2 _ _ hw1))
    | .test c n o, hnd, nt, qn, qs =>
      obtain ⟨u, ⟨x, rfl, hx⟩, eu⟩ := hnd
      refine ⟨_, rfl, x, _, _, _, rfl, rfl, SqT.of hx, rfl, rfl, _, rfl, iteF' (by decide) (kR _ _ ?_)⟩
      clear kR
      refine cut1 fun Rk kR => ?_
      refine ⟨_, rfl, x, _, _, _, rfl, rfl, SqT.of hx, rfl, rfl, _, rfl, iteF' (by decide) (kR _ _ ?_)⟩
      clear kR
      refine cut1 fun Rk kR => ?_
      refine ⟨_, rfl, x, _, _, _, rfl, rfl, SqT.of hx, rfl, rfl, _, rfl, iteT ?_⟩
      have td := nt.td c (List.mem_cons.mpr (.inl rfl))
      refine ⟨(by show 0 ≤ sizeLine; decide), fun l1 hl1 => ?_⟩
      have s2 := same_new hl1 (.lst [])
      have g2 : (upd H1 l1 (.lst [])) l1 = some (.lst []) := upd_same
      generalize upd H1 l1 (.lst []) = H2 at s2 g2 ⊢
      refine ⟨_, rfl, _, rfl, x, _, _, _, rfl, rfl, SqT.of (s2 _ _ hx), rfl, _, rfl, u, D, c, _, _, rfl, EK.keep (Same.tk s2) eu.ek, nt.is, td.1, kn.same s2, by omega, by omega, fun H3 s3 => ?_⟩
      have sw := same_trans s2 s3
      refine .inr ⟨_, rfl, _, _, rfl, rfl, ?_⟩
      have fin : ∀ z : Int, z = (if c.holds (wB bs ws) then n else o) → ∀ (r : Addr), H3 r = none → Q (.ref r) (upd H3 r (.tup [.ref l1, .int z, .ref wa])) := fun z ez r hr => by
        have s4 := same_new hr (.tup [.ref l1, .int z, .ref wa])
        subst ez
        exact qs _ _ _ rfl r l1 wa _ (same_trans s1 (same_trans sw s4)) upd_same (s4 _ _ (s3 _ _ g2)) (s4 _ _ (sw _ _ hw1))
      have hx3 := sw _ _ hx
      cases hh : c.holds (wB bs ws) with
      | true => exact ⟨x, _, _, .int n, rfl, rfl, SqT.of hx3, rfl, _, rfl, (by show 3 ≤ sizeLine; decide), fun r hr => fin n (by rw [hh]; rfl) r hr⟩
      | false => exact ⟨x, _, _, .int o, rfl, rfl, SqT.of hx3, rfl, _, rfl, (by show 3 ≤ sizeLine; decide), fun r hr => fin o (by rw [hh]; rfl) r hr⟩
    | .put y sm n, hnd, nt, qn, qs =>
      obtain ⟨u, ⟨x, rfl, hx⟩, eu⟩ := hnd
      refine ⟨_, rfl, x, _, _, _, rfl, rfl, SqT.of hx, rfl, rfl, _, rfl, iteF' (by decide) (kR _ _ ?_)⟩
      clear kR
      refine cut1 fun Rk kR => ?_
      refine ⟨_, rfl, x, _, _, _, rfl, rfl, SqT.of hx, rfl, rfl, _, rfl, iteF' (by decide) (kR _ _ ?_)⟩
      clear kR
      refine cut1 fun Rk kR => ?_
      refine ⟨_, rfl, x, _, _, _, rfl, rfl, SqT.of hx, rfl, rfl, _, rfl, iteF' (by decide) (kR _ _ ?_)⟩
      clear kR
      refine cut1 fun Rk kR => ?_
      refine ⟨(by show 0 ≤ sizeLine; decide), fun F0 hF0 => ?_⟩
      have s2 := same_new hF0 (.lst [])
      have g2 : (upd H1 F0 (.lst [])) F0 = some (.lst []) := upd_same
      generalize upd H1 F0 (.lst []) = H2x at s2 g2 ⊢
      refine gn_go ?_
      refine kR _ _ ?_
      clear kR
      refine normS [some (.ref p), some (.int (j : Int)), some (.ref wa), some (.ref x), some (.ref D), some (.ref F0), none, none, none] rfl ?_
      refine cut1 fun Rk kR => ?_
      have s12 := same_trans s1 s2
      have hx2 := s2 _ _ hx
      have tdx := nt.td _ (List.mem_cons.mpr (.inl rfl))
      have tds := nt.td sm (List.mem_cons.mpr (.inr (List.mem_cons.mpr (.inl rfl))))
      refine ⟨_, rfl, p, _, _, _, rfl, rfl, SqT.of (s12 _ _ hp), rfl, _, rfl, B, wa, rfl, ⟨_, SqL.of (s12 _ _ hB)⟩, ⟨_, SqT.of (s12 _ _ hw)⟩, ?_⟩
      refine for_zipA (xs := vb) (ys := ws.map V.int) (by rw [List.length_map]; omega) (fun i σ H2 => (∃ o6 o7 o8, σ = [some (.ref p), some (.int (j : Int)), some (.ref wa), some (.ref x), some (.ref D), some (.ref F0), o6, o7, o8]) ∧ Same H1 H2 ∧ H2 F0 = some (.lst (((putW bs ws y (sm.worth (wB bs ws))).take i).map V.int))) ⟨⟨_, _, _, rfl⟩, s2, g2⟩ (fun i σ H2 _ z => ⟨SqL.of (z.2.1 _ _ (s1 _ _ hB)), SqT.of (z.2.1 _ _ hw1)⟩) (fun i a0 b0 pr σ H2 ha hb z hpr => ?_) (fun σ H2 z => ?_)
      · obtain ⟨⟨o6, o7, o8, rfl⟩, sx, gF⟩ := z
        have hil2 : i < vb.length := (List.getElem?_eq_some_iff.mp ha).1
        obtain ⟨b, hbi, pb0, rfl, hpb⟩ := Paired.get pb ha
        obtain ⟨w0, hw0, rfl⟩ := map_get hb
        have hpos := bt.sz b (List.mem_of_getElem? hbi)
        have hg := putW_get (x := y) (t := sm.worth (wB bs ws)) hbi hw0
        have sp := same_new hpr (.tup [.ref pb0, .int w0])
        have gp : (upd H2 pr (.tup [.ref pb0, .int w0])) pr = some (.tup [.ref pb0, .int w0]) := upd_same
        generalize upd H2 pr (.tup [.ref pb0, .int w0]) = H3 at sp gp ⊢
        have s13 := same_trans sx sp
        refine ⟨pr, _, rfl, SqT.of gp, rfl, _, _, rfl, ⟨pb0, _, rfl, SqT.of (s13 _ _ (s1 _ _ hpb)), rfl, _, _, rfl, _, _, rfl, rfl, _, _, rfl, rfl, ?_⟩⟩
        refine normS [some (.ref p), some (.int (j : Int)), some (.ref wa), some (.ref x), some (.ref D), some (.ref F0), some (.str b.1), some (.int b.2), some (.int w0)] rfl ?_
        refine cut1 fun Rk kR => ?_
        have gF3 := sp _ _ gF
        have ll : (((putW bs ws y (sm.worth (wB bs ws))).take i).map V.int).length ≤ 900 := by rw [List.length_map, List.length_take, putW_len bw]; omega
        have fin : ∀ w1 : Int, w1 = (if b.1 = y then sm.worth (wB bs ws) % b.2 else w0) → Rk [some (.ref p), some (.int (j : Int)), some (.ref wa), some (.ref x), some (.ref D), some (.ref F0), some (.str b.1), some (.int b.2), some (.int w1)] H3 := fun w1 e1 => by
          refine kR _ _ ?_
          refine ⟨_, rfl, .inl ⟨rfl, _, SqL.of gF3⟩, _, rfl, F0, _, _, rfl, rfl, gF3, small1000 (by omega), ⟨_, _, _, rfl⟩, same_put (same_trans sx sp) hF0, ?_⟩
          rw [upd_same, List.take_add_one, hg, ← e1, List.map_append]
          rfl
        refine ⟨_, rfl, _, rfl, x, _, _, _, rfl, rfl, SqT.of (s13 _ _ hx), rfl, rfl, _, rfl, ?_⟩
        refine ite2 (fun c => ?_) (fun c => ?_)
        · have c : b.1 = y := by
            have := of_decide_eq_true c
            injection this
          refine ⟨_, rfl, x, _, _, _, rfl, rfl, SqT.of (s13 _ _ hx), rfl, _, rfl, u, D, sm, _, _, rfl, EK.keep (Same.tk s13) eu.ek, nt.is, tds.1, kn.same s13, by omega, _, rfl, _, _, rfl, rfl, (by show (0 : Int) < b.2; omega), ?_⟩
          refine gn_go ?_
          exact fin _ (by rw [if_pos c])
        · have c : ¬ b.1 = y := fun z => c (decide_eq_true (congrArg V.str z))
          exact fin _ (by rw [if_neg c])
      · obtain ⟨⟨o6, o7, o8, rfl⟩, sx, gF⟩ := z
        rw [hvl, ← putW_len (x := y) (t := sm.worth (wB bs ws)) bw, List.take_length] at gF
        refine kR _ _ ?_
        refine ⟨(by show 0 ≤ sizeLine; decide), fun l1 hl1 => ?_⟩
        have s3 := same_new hl1 (.lst [])
        have g3 : (upd H2 l1 (.lst [])) l1 = some (.lst []) := upd_same
        generalize upd H2 l1 (.lst []) = H3 at s3 g3 ⊢
        have s13 := same_trans sx s3
        refine ⟨_, rfl, x, _, _, _, rfl, rfl, SqT.of (s13 _ _ hx), rfl, _, rfl, F0, _, rfl, (.inl (.inl (s3 _ _ gF))), fun l2 hl2 => ?_⟩
        have s4 := same_new hl2 (.tup ((putW bs ws y (sm.worth (wB bs ws))).map V.int))
        have g4 : (upd H3 l2 (.tup ((putW bs ws y (sm.worth (wB bs ws))).map V.int))) l2 = some (.tup ((putW bs ws y (sm.worth (wB bs ws))).map V.int)) := upd_same
        generalize upd H3 l2 (.tup ((putW bs ws y (sm.worth (wB bs ws))).map V.int)) = H4 at s4 g4 ⊢
        refine ⟨(by show 3 ≤ sizeLine; decide), fun r hr => ?_⟩
        have s5 := same_new hr (.tup [.ref l1, .int n, .ref l2])
        exact qs _ _ _ rfl r l1 l2 _ (same_trans s1 (same_trans s13 (same_trans s4 s5))) upd_same (s5 _ _ (s4 _ _ g3)) (s5 _ _ g4)
    | .pick y n, hnd, nt, qn, qs => exact nt.is.elim
theorem has_st (s : Src K mg "_law_step" sSt) (m_int : mg "int" = none) (m_zip : mg "zip" = none) (m_tuple : mg "tuple" = none) (BN0 : Has P w K mg base "_law_by_names" ["program", "word", "worths"] 1 spBn) (WO0 : Has P w K mg base "_law_worth_of" ["told", "known"] 31 (spWo K 30)) (HO : Has P w K mg base "_law_holds" ["told", "known"] 51 (spHo K 20)) : Has P w K mg base "_law_step" ["program", "place", "worths"] 52 spSt :=
  let ⟨f, fd, F, m⟩ := s
  ⟨f, fd, ok_st F m_int m_zip m_tuple BN0 WO0 HO, F.kp, bnd3 F fun _ _ _ _ _ _ _ _ _ => rfl, m⟩
/-! ### the entries by their places -/
structure Ths (tO : Addr) (H : Hp) (D : Addr) (sm : V) (lv : List (Int × Int × Str)) : Prop where
  ex : ∃ kvs, H D = some (.dT kvs) ∧ kvs.length ≤ lv.length ∧ (∀ (k : List Key) (v : V), valV kvs k = some v → ∃ (l : Addr) (xs : List V) (p q : Int), k = [.inl p, .inl q] ∧ v = .ref l ∧ H l = some (.lst xs) ∧ xs ≠ [] ∧ xs.length ≤ lv.length ∧ ∀ x ∈ xs, ∃ e ∈ lv, e.1 = p ∧ e.2.1 = q ∧ LvAt tO H x sm e) ∧ (∀ e ∈ lv, ∃ v, valV kvs [.inl e.1, .inl e.2.1] = some v) ∧ ∀ k ∈ kvs.map (·.1), ∃ e ∈ lv, k = [.inl e.1, .inl e.2.1]
theorem Ths.same {tO : Addr} {H H' : Hp} {D : Addr} {sm : V} {lv : List (Int × Int × Str)} (s : Same H H') (h : Ths tO H D sm lv) : Ths tO H' D sm lv :=
  let ⟨kvs, a, b, c, d, e⟩ := h.ex
  ⟨kvs, s _ _ a, b, fun k v hv => let ⟨l, xs, p, q, e1, e2, e3, e4, e5, e6⟩ := c k v hv; ⟨l, xs, p, q, e1, e2, s _ _ e3, e4, e5, fun x hx => let ⟨f, f1, f2, f3, f4⟩ := e6 x hx; ⟨f, f1, f2, f3, LvAt.keep (Same.tk s) f4⟩⟩, d, e⟩
theorem putK_keys (kvs : List (List Key × V)) (k : List Key) (v : V) : ∀ j ∈ (putK kvs k v).map (·.1), j = k ∨ j ∈ kvs.map (·.1) := fun j hj => by
  cases h : valV kvs k with
  | none =>
    rw [putK_new v h, List.map_append] at hj
    rcases List.mem_append.mp hj with z | z
    · exact .inr z
    · exact .inl (List.mem_singleton.mp z)
  | some u =>
    by_cases e : j = k
    · exact .inl e
    · refine .inr ?_
      have : (valV (putK kvs k v) j).isSome := by
        rw [← valV_any]
        obtain ⟨p, hp, rfl⟩ := List.mem_map.mp hj
        exact List.any_eq_true.mpr ⟨p, hp, decide_eq_true rfl⟩
      rw [valV_put, if_neg e] at this
      obtain ⟨u2, hu2⟩ := Option.isSome_iff_exists.mp this
      exact valV_in hu2
def spBp (tO : Addr) : Sp := fun vs H Q _ => ∃ (P' : Addr) (ps : List V) (sm : V) (lv : List (Int × Int × Str)), vs = [.ref P'] ∧ H P' = some (.lst ps) ∧ Paired (fun v e => LvAt tO H v sm e) ps lv ∧ lv.length ≤ 900 ∧ ∀ (D : Addr) (H' : Hp), Same H H' → H D = none → Ths tO H' D sm lv → Q (.ref D) H'
theorem scBp : FnScope ["paper", "there", "entry"] ["paper"] (defScope sBp) := ⟨rfl, rfl, rfl, by decide +kernel, rfl, by decide +kernel, by decide +kernel⟩
theorem ok_bp {tO : Addr} {f : Addr} {fd : FuncData} (F : Fun K "_law_by_places" "_law_by_places" sBp f fd)  : FnOk P w K mg base CX0 1 f fd ["paper"] (spBp tO) := by
  refine F.ok scBp (fun vs H Q E h => ?_) (fun cdv A outer s H vs Q E hr h => ?_)
  · obtain ⟨P0, ps, sm, lv, rfl, _⟩ := h
    rfl
  · obtain ⟨P0, ps, sm, lv, rfl, hP, pp, l9, q⟩ := h
    have pl := Paired.length pp
    refine goL ⟨_, (L3.cons (L3.set 1 scBp.nd L3.dnewT)
      (L3.cons (L3.for_ (L3.iL (L3.v 0)) (L3.gn 2 scBp.nd) (L3.one (L3.dput (up_ne hr _ (by decide)) (L3.v 1) (L3.slT2 (L3.v 2) L3.int) (L3.op L3.o_cat (L3.dget2 (up_ne hr _ (by decide)) (L3.v 1) (L3.slT2 (L3.v 2) L3.int) (L3.lst L3.n)) (L3.lst (L3.k (L3.v 2) L3.n))))))
      (L3.one (L3.ret (L3.v 1))))), ?_⟩
    refine cut1 fun Rk kR => ?_
    refine fun D hD => ?_
    have s0 := same_new hD (.dT [])
    have gD0 : (upd H D (.dT [])) D = some (.dT []) := upd_same
    generalize upd H D (.dT []) = H0 at s0 gD0 ⊢
    refine gn_go ?_
    refine kR _ _ ?_
    clear kR
    refine normS [some (.ref P0), some (.ref D), none] rfl ?_
    refine cut1 fun Rk kR => ?_
    refine ⟨_, rfl, P0, rfl, ⟨_, SqL.of (s0 _ _ hP)⟩, ?_⟩
    refine for_list (xs := ps) (fun i σ Hx => (∃ o2, σ = [some (.ref P0), some (.ref D), o2]) ∧ Same H Hx ∧ Ths tO Hx D sm (lv.take i)) ⟨⟨_, rfl⟩, s0, ⟨[], gD0, Nat.le_refl _, (fun k v z => nomatch z), (fun e z => nomatch z), (fun k z => nomatch z)⟩⟩ (fun i σ Hx _ z => SqL.of (z.2.1 _ _ hP)) (fun i x0 σ Hx hx z => ?_) (fun σ Hx z => ?_)
    · obtain ⟨⟨o2, rfl⟩, sx, th⟩ := z
      have hil : i < ps.length := (List.getElem?_eq_some_iff.mp hx).1
      obtain ⟨e, he, le⟩ := Paired.get pp hx
      obtain ⟨pe, rfl, hpe⟩ := LvAt.keep (Same.tk sx) le
      obtain ⟨kvs, gD, kl, c1, c2, c3⟩ := th.ex
      have tl : (lv.take i).length ≤ 900 := by rw [List.length_take]; omega
      refine gn_go ?_
      refine normS [some (.ref P0), some (.ref D), some (.ref pe)] rfl ?_
      refine ⟨_, rfl, D, rfl, .inr ⟨_, .inl gD⟩, _, rfl, _, rfl, pe, _, rfl, SqT.of hpe, ?_, fun k1 hk1 => ?_⟩
      · rintro ⟨_, z⟩
        exact absurd (show HT.sIx 5 5 (some 2) = 5 from z) (by decide)
      rw [cut_2]
      have sa := same_new hk1 (.tup [.int e.1, .int e.2.1])
      have ga : (upd Hx k1 (.tup [.int e.1, .int e.2.1])) k1 = some (.tup [.int e.1, .int e.2.1]) := upd_same
      generalize upd Hx k1 (.tup [.int e.1, .int e.2.1]) = Ha at sa ga ⊢
      refine ⟨(by show 0 ≤ sizeLine; decide), fun l0 hl0 => ?_⟩
      have sb := same_new hl0 (.lst [])
      have gb : (upd Ha l0 (.lst [])) l0 = some (.lst []) := upd_same
      generalize upd Ha l0 (.lst []) = Hb at sb gb ⊢
      have sxb := same_trans sa sb
      refine ⟨_, DGet.t (k := [.inl e.1, .inl e.2.1]) (sxb _ _ gD) (sb _ _ ga), ?_⟩
      obtain ⟨lx, xs, ex, hlx, xsl, hxs⟩ : ∃ (lx : Addr) (xs : List V), (valV kvs [.inl e.1, .inl e.2.1]).getD (.ref l0) = .ref lx ∧ Hb lx = some (.lst xs) ∧ xs.length ≤ (lv.take i).length ∧ ∀ x ∈ xs, ∃ f ∈ lv.take i, f.1 = e.1 ∧ f.2.1 = e.2.1 ∧ LvAt tO Hb x sm f := by
        cases hv : valV kvs [.inl e.1, .inl e.2.1] with
        | none => exact ⟨l0, [], rfl, gb, Nat.zero_le _, fun x z => nomatch z⟩
        | some v =>
          obtain ⟨l, xs, p, q, e1, rfl, e3, e4, e5, e6⟩ := c1 _ _ hv
          injection e1 with e1 e2
          injection e2 with e2 _
          injection e1 with e1
          injection e2 with e2
          subst e1 e2
          exact ⟨l, xs, rfl, sxb _ _ e3, e5, fun x hx => let ⟨f, f1, f2, f3, f4⟩ := e6 x hx; ⟨f, f1, f2, f3, LvAt.keep (Same.tk sxb) f4⟩⟩
      rw [ex]
      refine ⟨_, rfl, (by show 1 ≤ sizeLine; decide), fun l1 hl1 => ?_⟩
      have sc := same_new hl1 (.lst [.ref pe])
      have gc : (upd Hb l1 (.lst [.ref pe])) l1 = some (.lst [.ref pe]) := upd_same
      generalize upd Hb l1 (.lst [.ref pe]) = Hc at sc gc ⊢
      have big : 1000 ≤ sizeLine := by decide
      refine ⟨lx, l1, xs, _, rfl, rfl, sc _ _ hlx, gc, (by show xs.length + 1 ≤ sizeLine; omega), fun l2 hl2 => ?_⟩
      have sd := same_new hl2 (.lst (xs ++ [.ref pe]))
      have gd : (upd Hc l2 (.lst (xs ++ [.ref pe]))) l2 = some (.lst (xs ++ [.ref pe])) := upd_same
      generalize upd Hc l2 (.lst (xs ++ [.ref pe])) = Hd at sd gd ⊢
      have sbd := same_trans sc sd
      have sxd := same_trans sxb sbd
      refine ⟨_, rfl, _, rfl, _, rfl, pe, _, rfl, SqT.of (sxd _ _ hpe), ?_, fun k2 hk2 => ?_⟩
      · rintro ⟨_, z⟩
        exact absurd (show HT.sIx 5 5 (some 2) = 5 from z) (by decide)
      rw [cut_2]
      have se := same_new hk2 (.tup [.int e.1, .int e.2.1])
      have ge : (upd Hd k2 (.tup [.int e.1, .int e.2.1])) k2 = some (.tup [.int e.1, .int e.2.1]) := upd_same
      generalize upd Hd k2 (.tup [.int e.1, .int e.2.1]) = He at se ge ⊢
      have sxe := same_trans sxd se
      have gDe := sxe _ _ gD
      refine ⟨D, _, rfl, DPut.t (k := [.inl e.1, .inl e.2.1]) gDe ge (small1000 (by omega)), ⟨_, rfl⟩, same_put (same_trans sx sxe) hD, ?_⟩
      have tkD : TK He (upd He D (.dT (putK kvs [.inl e.1, .inl e.2.1] (.ref l2)))) := fun b ys e => by rw [upd_ne (ne_of e gDe (fun z => nomatch z))]; exact e
      have tke : lv.take (i + 1) = lv.take i ++ [e] := by rw [List.take_add_one, he]; rfl
      have ne : ∀ (a : Addr) (ys : List V), He a = some (.lst ys) → (upd He D (.dT (putK kvs [.inl e.1, .inl e.2.1] (.ref l2)))) a = some (.lst ys) := fun a ys h => by
        rw [upd_ne (fun z => by subst z; rw [gDe] at h; cases h)]
        exact h
      rw [tke]
      have inl : ∀ f ∈ lv.take i, f ∈ lv.take i ++ [e] := fun f hf => List.mem_append.mpr (.inl hf)
      refine ⟨_, upd_same, ?_, fun k v hv => ?_, fun f hf => ?_, fun k hk => ?_⟩
      · have := length_putK kvs [.inl e.1, .inl e.2.1] (.ref l2)
        rw [List.length_append]
        show _ ≤ _ + 1
        omega
      · rw [valV_put] at hv
        split at hv
        · rename_i ek
          cases hv
          refine ⟨l2, _, e.1, e.2.1, ek, rfl, ne _ _ (se _ _ gd), fun z => absurd (congrArg List.length z) (by rw [List.length_append]; show ¬ (_ + 1 = 0); omega), ?_, fun x hx => ?_⟩
          · rw [List.length_append, List.length_append]
            show _ + 1 ≤ _ + 1
            omega
          · rcases List.mem_append.mp hx with z | z
            · obtain ⟨f, f1, f2, f3, f4⟩ := hxs x z
              exact ⟨f, inl f f1, f2, f3, LvAt.keep tkD (LvAt.keep (Same.tk (same_trans sbd se)) f4)⟩
            · rw [List.mem_singleton.mp z]
              exact ⟨e, List.mem_append.mpr (.inr (List.mem_singleton.mpr rfl)), rfl, rfl, LvAt.keep tkD ⟨pe, rfl, sxe _ _ hpe⟩⟩
        · obtain ⟨l, ys, p, q, e1, e2, e3, e4, e5, e6⟩ := c1 _ _ hv
          refine ⟨l, ys, p, q, e1, e2, ne _ _ (sxe _ _ e3), e4, by rw [List.length_append]; omega, fun x hx => ?_⟩
          obtain ⟨f, f1, f2, f3, f4⟩ := e6 x hx
          exact ⟨f, inl f f1, f2, f3, LvAt.keep tkD (LvAt.keep (Same.tk sxe) f4)⟩
      · rw [valV_put]
        split
        · exact ⟨_, rfl⟩
        · rename_i nk
          rcases List.mem_append.mp hf with z | z
          · exact c2 f z
          · rw [List.mem_singleton.mp z] at nk
            exact absurd rfl nk
      · rcases putK_keys _ _ _ k hk with z | z
        · exact ⟨e, List.mem_append.mpr (.inr (List.mem_singleton.mpr rfl)), z⟩
        · obtain ⟨f, f1, f2⟩ := c3 k z
          exact ⟨f, inl f f1, f2⟩
    · obtain ⟨⟨o2, rfl⟩, sx, th⟩ := z
      rw [pl, List.take_length] at th
      refine kR _ _ ?_
      exact ⟨_, rfl, q D _ sx hD th⟩
theorem has_bp {tO : Addr} (s : Src K mg "_law_by_places" sBp)  : Has P w K mg base "_law_by_places" ["paper"] 1 (spBp tO) :=
  let ⟨f, fd, F, m⟩ := s
  ⟨f, fd, ok_bp F , F.kp, bnd1 F fun _ _ _ _ _ _ _ => rfl, m⟩
/-! ### the entry that counts -/
/-- what is the same for all entries: a condition, by boxes -/
structure Cnd (K : PySem.W.Frag) (H : Hp) (sm : V) (se : E) (bs : List (Str × Int)) : Prop where
  ek : EK K H sm se
  is : se.isC
  ok : se.okIn (P2 bs)
  dp : se.dep < 20
  iff : ∀ ms ys : List Int, bs.length = ms.length → bs.length = ys.length → se.holds (W2 bs ms ys) = decide (ms = ys)
theorem Cnd.same {K : PySem.W.Frag} {H H' : Hp} {sm : V} {se : E} {bs : List (Str × Int)} (s : Same H H') (h : Cnd K H sm se bs) : Cnd K H' sm se bs := ⟨EK.keep (Same.tk s) h.ek, h.is, h.ok, h.dp, h.iff⟩
def spCt (K : PySem.W.Frag) (tO : Addr) : Sp := fun vs H Q _ => ∃ (D d : Addr) (p q : Int) (sm : V) (se : E) (lv : List (Int × Int × Str)) (bs : List (Str × Int)) (W : Str → Str → Int), vs = [.ref D, .int p, .int q, .ref d] ∧ Ths tO H D sm lv ∧ lv.length ≤ 900 ∧ Cnd K H sm se bs ∧ Kn H d (P2 bs) W ∧
  (se.holds W = true → ∀ (x : V) (e : Int × Int × Str) (H' : Hp), Same H H' → e ∈ lv → e.1 = p → e.2.1 = q → LvAt tO H' x sm e → Q x H') ∧ ((se.holds W = false ∨ ∀ e ∈ lv, e.1 = p → e.2.1 = q → False) → ∀ H', Same H H' → Q .non H')
theorem scCt : FnScope ["there", "p", "q", "known", "entry"] ["there", "p", "q", "known"] (defScope sCt) := ⟨rfl, rfl, rfl, by decide +kernel, rfl, by decide +kernel, by decide +kernel⟩
theorem gCt_law_holds : (defScope sCt).names.lookup (Str.ofString "_law_holds") = some .globalImplicit := by decide +kernel
theorem ok_ct {tO : Addr} {f : Addr} {fd : FuncData} (F : Fun K "_law_counting" "_law_counting" sCt f fd) (HO : Has P w K mg base "_law_holds" ["told", "known"] 51 (spHo K 20)) : FnOk P w K mg base CX0 52 f fd ["there", "p", "q", "known"] (spCt K tO) := by
  refine F.ok scCt (fun vs H Q E h => ?_) (fun cdv A outer s H vs Q E hr h => ?_)
  · obtain ⟨D, d, p, q, sm, se, lv, bs, W, rfl, _⟩ := h
    rfl
  · obtain ⟨D, d, p, q, sm, se, lv, bs, W, rfl, th, l9, cn, kn, q1, q0⟩ := h
    refine goL ⟨_, (L3.cons (L3.for_ (L3.iL (L3.dget2 (up_ne hr _ (by decide)) (L3.v 0) (L3.tup (L3.k (L3.v 1) (L3.k (L3.v 2) L3.n))) (L3.lst L3.n))) (L3.gn 4 scCt.nd) (L3.one (L3.ifs (L3.tval (L3.own HO hr gCt_law_holds (L3.k (L3.ix L3.ixT (L3.v 4) L3.int) (L3.k (L3.v 3) L3.n)))) (L3.one (L3.ret (L3.v 4))) L3.nil)))
      (L3.one (L3.ret L3.non))), ?_⟩
    refine cut1 fun Rk kR => ?_
    obtain ⟨kvs, gD, kl, c1, c2, c3⟩ := th.ex
    refine ⟨_, rfl, D, rfl, .inr ⟨_, .inl gD⟩, _, rfl, _, rfl, (by show 2 ≤ sizeLine; decide), fun k1 hk1 => ?_⟩
    have sa := same_new hk1 (.tup [.int p, .int q])
    have ga : (upd H k1 (.tup [.int p, .int q])) k1 = some (.tup [.int p, .int q]) := upd_same
    generalize upd H k1 (.tup [.int p, .int q]) = Ha at sa ga ⊢
    refine ⟨(by show 0 ≤ sizeLine; decide), fun l0 hl0 => ?_⟩
    have sb := same_new hl0 (.lst [])
    have gb : (upd Ha l0 (.lst [])) l0 = some (.lst []) := upd_same
    generalize upd Ha l0 (.lst []) = Hb at sb gb ⊢
    have sxb := same_trans sa sb
    refine ⟨_, DGet.t (k := [.inl p, .inl q]) (sxb _ _ gD) (sb _ _ ga), ?_⟩
    obtain ⟨lx, xs, ex, hlx, hxs, hne⟩ : ∃ (lx : Addr) (xs : List V), (valV kvs [.inl p, .inl q]).getD (.ref l0) = .ref lx ∧ Hb lx = some (.lst xs) ∧ (∀ x ∈ xs, ∃ f ∈ lv, f.1 = p ∧ f.2.1 = q ∧ LvAt tO Hb x sm f) ∧ (xs = [] → ∀ e ∈ lv, e.1 = p → e.2.1 = q → False) := by
      cases hv : valV kvs [.inl p, .inl q] with
      | none =>
        refine ⟨l0, [], rfl, gb, (fun x z => nomatch z), fun _ e he e1 e2 => ?_⟩
        obtain ⟨v, z⟩ := c2 e he
        rw [e1, e2, hv] at z
        cases z
      | some v =>
        obtain ⟨l, xs, p', q', e1, rfl, e3, e4, e5, e6⟩ := c1 _ _ hv
        injection e1 with e1 e2
        injection e2 with e2 _
        injection e1 with e1
        injection e2 with e2
        subst e1 e2
        exact ⟨l, xs, rfl, sxb _ _ e3, (fun x hx => let ⟨f, f1, f2, f3, f4⟩ := e6 x hx; ⟨f, f1, f2, f3, LvAt.keep (Same.tk sxb) f4⟩), fun z => absurd z e4⟩
    rw [ex]
    refine ⟨lx, rfl, ⟨_, SqL.of hlx⟩, ?_⟩
    refine for_list (xs := xs) (fun i σ Hx => (∃ o4, σ = [some (.ref D), some (.int p), some (.int q), some (.ref d), o4]) ∧ Same Hb Hx ∧ (i = 0 ∨ se.holds W = false)) ⟨⟨_, rfl⟩, same_refl _, .inl rfl⟩ (fun i σ Hx _ z => SqL.of (z.2.1 _ _ hlx)) (fun i x0 σ Hx hx z => ?_) (fun σ Hx z => ?_)
    · obtain ⟨⟨o4, rfl⟩, sx, _⟩ := z
      obtain ⟨f, f1, f2, f3, f4⟩ := hxs x0 (List.mem_of_getElem? hx)
      obtain ⟨pe, rfl, hpe⟩ := f4
      have sH := same_trans sxb sx
      refine gn_go ?_
      refine normS [some (.ref D), some (.int p), some (.int q), some (.ref d), some (.ref pe)] rfl ?_
      refine ⟨_, rfl, pe, _, _, _, rfl, rfl, SqT.of (sx _ _ hpe), rfl, _, rfl, sm, d, se, _, W, rfl, EK.keep (Same.tk sH) cn.ek, cn.is, cn.ok, kn.same sH, cn.dp, by omega, fun H2 s2 => ⟨_, rfl, ?_⟩⟩
      cases hh : se.holds W with
      | true =>
        refine iteT ?_
        exact ⟨_, rfl, q1 hh _ f _ (same_trans sH s2) f1 f2 f3 ⟨pe, rfl, s2 _ _ (sx _ _ hpe)⟩⟩
      | false =>
        refine iteF ?_
        exact ⟨⟨_, rfl⟩, same_trans sx s2, .inr rfl⟩
    · obtain ⟨⟨o4, rfl⟩, sx, ho⟩ := z
      refine kR _ _ ?_
      refine q0 ?_ _ (same_trans sxb sx)
      rcases ho with ho | ho
      · exact .inr (hne (List.length_eq_zero_iff.mp ho))
      · exact .inl ho
theorem has_ct {tO : Addr} (s : Src K mg "_law_counting" sCt) (HO : Has P w K mg base "_law_holds" ["told", "known"] 51 (spHo K 20)) : Has P w K mg base "_law_counting" ["there", "p", "q", "known"] 52 (spCt K tO) :=
  let ⟨f, fd, F, m⟩ := s
  ⟨f, fd, ok_ct F HO, F.kp, bnd4 F fun _ _ _ _ _ _ _ _ _ _ => rfl, m⟩
end
end TW
set_option Elab.async false
set_option linter.all false
set_option maxRecDepth 100000
set_option exponentiation.threshold 4000
set_option maxHeartbeats 1000000
namespace TW
open PySem L2
section
variable {P : Program} {w : World} {K : PySem.W.Frag} {mg : Str → Option Value} {base : Heap}
theorem bnd7 {x qual : Str} {st : Stmt} {f : Addr} {fd : FuncData} {p0 p1 p2 p3 p4 p5 p6 : Str} (F : Fun K x qual st f fd) (h : ∀ (kV doc pm : Value) (an : Option Addr) (cdv ct u0 u1 u2 u3 u4 u5 u6 : Value), bindArgs (PySem.W.fnOf x qual (defArgs st) (defBody st) (defScope st) .none kV doc pm an cdv ct) ⟨[u0, u1, u2, u3, u4, u5, u6], []⟩ = pure (([p0, p1, p2, p3, p4, p5, p6] : List Str).zip [u0, u1, u2, u3, u4, u5, u6])) : Binds K fd [p0, p1, p2, p3, p4, p5, p6] [] := F.binds fun kV doc pm an cdv ct us hl => match us, hl with | [u0, u1, u2, u3, u4, u5, u6], _ => h kV doc pm an cdv ct u0 u1 u2 u3 u4 u5 u6
abbrev sWe : Stmt := top 38
/-! ### what is the same of both programs -/
structure Sims (nds nds' : List Np) (lv : List (Int × Int × Str)) : Prop where
  hat : ∀ e ∈ lv, ∃ (p q : Nat) (a : Np) (ls : List Int), e.1 = (p : Int) ∧ e.2.1 = (q : Int) ∧ nds[p]? = some a ∧ nds'[q]? = some (a.led ls) ∧ e.2.2 = a.hd ∧ ls.length = a.leads.length ∧ ∀ (i : Nat) (l l' : Int), a.leads[i]? = some l → ls[i]? = some l' → ∃ f ∈ lv, f.1 = l ∧ f.2.1 = l'
  zero : ∃ f ∈ lv, f.1 = 0 ∧ f.2.1 = 0
structure Sit (K : PySem.W.Frag) (tO : Addr) (H : Hp) (p1 p2 D : Addr) (sm : V) (se : E) (bs : List (Str × Int)) (nds nds' : List Np) (lv : List (Int × Int × Str)) : Prop where
  g1 : PgA H p1 bs nds
  g2 : PgA H p2 bs nds'
  nt : ∀ e ∈ nds, NpT (bs.map (·.1)) e
  th : Ths tO H D sm lv
  l9 : lv.length ≤ 900
  cn : Cnd K H sm se bs
  sim : Sims nds nds' lv
  bt : BsT bs
theorem Sit.same {K : PySem.W.Frag} {tO : Addr} {H H' : Hp} {p1 p2 D : Addr} {sm : V} {se : E} {bs : List (Str × Int)} {nds nds' : List Np} {lv : List (Int × Int × Str)} (s : Same H H') (h : Sit K tO H p1 p2 D sm se bs nds nds' lv) : Sit K tO H' p1 p2 D sm se bs nds nds' lv :=
  ⟨h.g1.same s, h.g2.same s, h.nt, h.th.same s, h.l9, h.cn.same s, h.sim, h.bt⟩
theorem led_isN : ∀ (a : Np) (ls : List Int), a.isN → (a.led ls).isN
  | .put _ _ _, _, h => h | .say _ _, _, h => h | .test _ _ _, _, h => h | .pick _ _, _, h => h | .fin, _, h => h
theorem led_tolds : ∀ (a : Np) (ls : List Int), (a.led ls).tolds = a.tolds
  | .put _ _ _, _ => rfl | .say _ _, _ => rfl | .test _ _ _, _ => rfl | .pick _ _, _ => rfl | .fin, _ => rfl
theorem NpT.led {ns : List Str} {a : Np} (h : NpT ns a) (ls : List Int) : NpT ns (a.led ls) := ⟨led_isN a ls h.is, by rw [led_tolds]; exact h.td⟩
/-- steps of both -/
theorem step_led {bs : List (Str × Int)} {ws : List Int} {P : Int → Int → Prop} : ∀ (a : Np) (ls : List Int), ls.length = a.leads.length → (∀ (i : Nat) (l l' : Int), a.leads[i]? = some l → ls[i]? = some l' → P l l') → a.hd ≠ "end" → ∃ s n n' ws', stepN bs ws a = some (s, n, ws') ∧ stepN bs ws (a.led ls) = some (s, n', ws') ∧ P n n' ∧ s.length ≤ 1
  | .put x s n, [m], _, h, _ => ⟨_, n, m, _, rfl, rfl, h 0 n m rfl rfl, Nat.zero_le _⟩
  | .say s n, [m], _, h, _ => ⟨_, n, m, _, rfl, rfl, h 0 n m rfl rfl, Nat.le_refl _⟩
  | .pick x n, [m], _, h, _ => ⟨_, n, m, _, rfl, rfl, h 0 n m rfl rfl, Nat.zero_le _⟩
  | .test c n o, [m, m'], _, h, _ => by
    have h0 := h 0 n m rfl rfl
    have h1 := h 1 o m' rfl rfl
    refine ⟨[], if c.holds (wB bs ws) then n else o, if c.holds (wB bs ws) then m else m', ws, rfl, rfl, ?_, Nat.zero_le _⟩
    split
    · exact h0
    · exact h1
  | .fin, _, _, _, h => absurd rfl h
theorem step_len {bs : List (Str × Int)} {ws : List Int} (hl : bs.length = ws.length) : ∀ {a : Np} {s n ws'}, stepN bs ws a = some (s, n, ws') → bs.length = ws'.length
  | .put x s n, _, _, _, h => by cases h; rw [putW_len hl]
  | .say s n, _, _, _, h => by cases h; exact hl
  | .test c n o, _, _, _, h => by cases h; exact hl
  | .pick x n, _, _, _, h => by cases h; exact hl
theorem iteT' {c : Prop} [Decidable c] {a b : Prop} (h : c) (x : a) : if c then a else b := by rw [if_pos h]; exact x
theorem V.ref_non (a : Addr) : decide (V.ref a = V.non) = false := decide_eq_false fun z => nomatch z
def spWe (K : PySem.W.Frag) (tO : Addr) : Sp := fun vs H Q _ => ∃ (p1 p2 D wa wb kn : Addr) (x sm : V) (se : E) (bs : List (Str × Int)) (nds nds' : List Np) (lv : List (Int × Int × Str)) (e : Int × Int × Str) (ws : List Int) (W : Str → Str → Int), vs = [.ref p1, .ref p2, .ref D, x, .ref wa, .ref wb, .ref kn] ∧ Sit K tO H p1 p2 D sm se bs nds nds' lv ∧ e ∈ lv ∧ LvAt tO H x sm e ∧ H wa = some (.tup (ws.map V.int)) ∧ H wb = some (.tup (ws.map V.int)) ∧ bs.length = ws.length ∧ Kn H kn (P2 bs) W ∧ ∀ H', Same H H' → Q (.bl true) H'
theorem scWe : FnScope ["one", "other", "there_are", "entry", "mine", "yours", "known", "p", "q", "condition", "who", "wait", "left", "here", "there", "later"] ["one", "other", "there_are", "entry", "mine", "yours", "known"] (defScope sWe) := ⟨rfl, rfl, rfl, by decide +kernel, rfl, by decide +kernel, by decide +kernel⟩
theorem gWe_law_by_names : (defScope sWe).names.lookup (Str.ofString "_law_by_names") = some .globalImplicit := by decide +kernel
theorem gWe_law_counting : (defScope sWe).names.lookup (Str.ofString "_law_counting") = some .globalImplicit := by decide +kernel
theorem gWe_law_step : (defScope sWe).names.lookup (Str.ofString "_law_step") = some .globalImplicit := by decide +kernel
theorem gWe_law_worth_of : (defScope sWe).names.lookup (Str.ofString "_law_worth_of") = some .globalImplicit := by decide +kernel
theorem ok_we {tO : Addr} {f : Addr} {fd : FuncData} (F : Fun K "_law_well" "_law_well" sWe f fd) (hO : ∀ H, SqT K H tO [.str "number", .int 0]) (BN0 : Has P w K mg base "_law_by_names" ["program", "word", "worths"] 1 spBn) (WO0 : Has P w K mg base "_law_worth_of" ["told", "known"] 31 (spWo K 30)) (ST : Has P w K mg base "_law_step" ["program", "place", "worths"] 52 spSt) (CT : Has P w K mg base "_law_counting" ["there", "p", "q", "known"] 52 (spCt K tO)) : FnOk P w K mg base CX0 53 f fd ["one", "other", "there_are", "entry", "mine", "yours", "known"] (spWe K tO) := by
  refine F.ok scWe (fun vs H Q E h => ?_) (fun cdv A outer s H vs Q E hr h => ?_)
  · obtain ⟨p1, p2, D, wa, wb, kn, x, sm, se, bs, nds, nds', lv, e, ws, W, rfl, _⟩ := h
    rfl
  · obtain ⟨p1, p2, D, wa, wb, kn, x, sm, se, bs, nds, nds', lv, e, ws, W, rfl, st, hel, le, hwa, hwb, hl, hk, q⟩ := h
    obtain ⟨pe, rfl, hpe⟩ := le
    have WO := WO0.mono (show 31 ≤ 52 by omega)
    have BN := BN0.mono (show 1 ≤ 52 by omega)
    obtain ⟨p, p', a, ls, ep, ep', ha, hb, eh, lls, sl⟩ := st.sim.hat e hel
    have na := st.nt a (List.mem_of_getElem? ha)
    have l4 := st.bt.l4
    rw [ep, ep'] at hpe
    refine goL ⟨_, (L3.cons (L3.asg (L3.v 3) (L3.gtup 5 (L3.gsk (L3.gn 7 scWe.nd) (L3.gsk (L3.gn 8 scWe.nd) (L3.gsk (L3.gn 9 scWe.nd) (L3.gsk (L3.gn 10 scWe.nd) (L3.gsk (L3.gn 11 scWe.nd) L3.gsn)))))))
      (L3.cons (L3.set 12 scWe.nd (L3.own WO hr gWe_law_worth_of (L3.k (L3.v 11) (L3.k (L3.v 6) L3.n))))
      (L3.cons (L3.set 13 scWe.nd (L3.own ST hr gWe_law_step (L3.k (L3.v 0) (L3.k (L3.v 7) (L3.k (L3.v 4) L3.n)))))
      (L3.cons (L3.set 14 scWe.nd (L3.own ST hr gWe_law_step (L3.k (L3.v 1) (L3.k (L3.v 8) (L3.k (L3.v 5) L3.n)))))
      (L3.cons (L3.ifs (L3.tw (L3.or2 (L3.cmp L3.o_lt (L3.v 12) L3.int) (L3.or1 (L3.cmp L3.o_eq (L3.v 10) L3.str)))) (L3.one (L3.ret (L3.andE2 (L3.cmpE L3.o_ge (L3.v 12) L3.int) (L3.andE2 (L3.cmpE L3.o_isN (L3.v 13) L3.non) (L3.oneE (L3.cmpE L3.o_isN (L3.v 14) L3.non)))))) L3.nil)
      (L3.cons (L3.ifs (L3.tw (L3.and2 (L3.cmp L3.o_eq (L3.v 10) L3.str) (L3.and1 (L3.tw (L3.or2 (L3.cmp L3.o_isN (L3.v 13) L3.non) (L3.or2 (L3.cmp L3.o_isN (L3.v 14) L3.non) (L3.or1 (L3.cmp (L3.o_neD (m := 2) (up_ne hr _ (by decide))) (L3.ix L3.ixT (L3.v 13) L3.int) (L3.ix L3.ixT (L3.v 14) L3.int))))))))) (L3.one (L3.ret L3.bl)) L3.nil)
      (L3.cons (L3.ifs (L3.cmp L3.o_eq (L3.v 10) L3.str) (L3.cons (L3.set 14 scWe.nd (L3.tup (L3.k (L3.lst L3.n) (L3.k (L3.v 8) (L3.k (L3.v 5) L3.n)))))
      (L3.one (L3.ifs (L3.tw (L3.or2 (L3.cmp L3.o_isN (L3.v 13) L3.non) (L3.or1 (L3.cmp (L3.o_neD (m := 2) (up_ne hr _ (by decide))) (L3.ix L3.ixT (L3.v 13) L3.int) (L3.lst L3.n))))) (L3.one (L3.ret L3.bl)) L3.nil))) L3.nil)
      (L3.cons (L3.ifs (L3.cmp L3.o_eq (L3.v 10) L3.str) (L3.cons (L3.set 13 scWe.nd (L3.tup (L3.k (L3.lst L3.n) (L3.k (L3.v 7) (L3.k (L3.v 4) L3.n)))))
      (L3.one (L3.ifs (L3.tw (L3.or2 (L3.cmp L3.o_isN (L3.v 14) L3.non) (L3.or1 (L3.cmp (L3.o_neD (m := 2) (up_ne hr _ (by decide))) (L3.ix L3.ixT (L3.v 14) L3.int) (L3.lst L3.n))))) (L3.one (L3.ret L3.bl)) L3.nil))) L3.nil)
      (L3.cons (L3.set 6 scWe.nd (L3.own BN hr gWe_law_by_names (L3.k (L3.v 0) (L3.k L3.str (L3.k (L3.ix L3.ixT (L3.v 13) L3.int) L3.n)))))
      (L3.cons (L3.ex (L3.update (up_ne hr _ (by decide)) (L3.v 6) (L3.own BN hr gWe_law_by_names (L3.k (L3.v 1) (L3.k L3.str (L3.k (L3.ix L3.ixT (L3.v 14) L3.int) L3.n))))))
      (L3.cons (L3.set 15 scWe.nd (L3.own CT hr gWe_law_counting (L3.k (L3.v 2) (L3.k (L3.ix L3.ixT (L3.v 13) L3.int) (L3.k (L3.ix L3.ixT (L3.v 14) L3.int) (L3.k (L3.v 6) L3.n))))))
      (L3.one (L3.ret (L3.andE2 (L3.cmpE L3.o_notN (L3.v 15) L3.non) (L3.oneE (L3.orE2 (L3.cmpE L3.o_eq (L3.v 10) L3.str) (L3.oneE (L3.cmpE L3.o_lt (L3.own WO hr gWe_law_worth_of (L3.k (L3.ix L3.ixT (L3.v 15) L3.int) (L3.k (L3.v 6) L3.n))) (L3.v 12))))))))))))))))))), ?_⟩
    refine cut1 fun Rk kR => ?_
    refine ⟨_, rfl, pe, _, rfl, SqT.of hpe, rfl, _, _, rfl, _, _, rfl, _, _, rfl, _, _, rfl, _, _, rfl, rfl, ?_⟩
    refine kR _ _ ?_
    clear kR
    generalize hwho : (if e.2.2 = "end" then "end" else "both" : Str) = who
    refine normS [some (.ref p1), some (.ref p2), some (.ref D), some (.ref pe), some (.ref wa), some (.ref wb), some (.ref kn), some (.int (p : Int)), some (.int (p' : Int)), some sm, some (.str who), some (.ref tO), none, none, none, none] rfl ?_
    refine cut1 fun Rk kR => ?_
    refine ⟨_, rfl, _, rfl, .ref tO, kn, .num 0, _, W, rfl, ⟨tO, rfl, .inr hO⟩, trivial, (by show (0 : Int).natAbs < 2 ^ 100; decide), hk, (by show 0 < 30; omega), ?_⟩
    refine gn_go ?_
    refine kR _ _ ?_
    clear kR
    refine normS [some (.ref p1), some (.ref p2), some (.ref D), some (.ref pe), some (.ref wa), some (.ref wb), some (.ref kn), some (.int (p : Int)), some (.int (p' : Int)), some sm, some (.str who), some (.ref tO), some (.int 0), none, none, none] rfl ?_
    refine cut1 fun Rk kR => ?_
    have g1 := st.g1
    have g2 := st.g2
    by_cases he : a.hd = "end"
    · have ea : a = .fin := by
        cases a with
        | fin => rfl
        | put _ _ _ => exact absurd (show ("put" : Str) = "end" from he) (by decide)
        | say _ _ => exact absurd (show ("say" : Str) = "end" from he) (by decide)
        | test _ _ _ => exact absurd (show ("test" : Str) = "end" from he) (by decide)
        | pick _ _ => exact absurd (show ("pick" : Str) = "end" from he) (by decide)
      subst ea
      rw [eh, if_pos he] at hwho
      subst hwho
      refine ⟨_, rfl, _, rfl, _, rfl, p1, wa, p, bs, nds, ws, .fin, rfl, g1, ha, na, hwa, hl, st.bt, fun _ H1 s1 => ?_, fun _ _ _ z => nomatch z⟩
      refine gn_go ?_
      refine kR _ _ ?_
      clear kR
      refine normS [some (.ref p1), some (.ref p2), some (.ref D), some (.ref pe), some (.ref wa), some (.ref wb), some (.ref kn), some (.int (p : Int)), some (.int (p' : Int)), some sm, some (.str ("end")), some (.ref tO), some (.int 0), some .non, none, none] rfl ?_
      refine cut1 fun Rk kR => ?_
      refine ⟨_, rfl, _, rfl, _, rfl, p2, wb, p', bs, nds', ws, .fin, rfl, g2.same s1, hb, na, s1 _ _ hwb, hl, st.bt, fun _ H2 s2 => ?_, fun _ _ _ z => nomatch z⟩
      refine gn_go ?_
      refine kR _ _ ?_
      clear kR
      refine normS [some (.ref p1), some (.ref p2), some (.ref D), some (.ref pe), some (.ref wa), some (.ref wb), some (.ref kn), some (.int (p : Int)), some (.int (p' : Int)), some sm, some (.str ("end")), some (.ref tO), some (.int 0), some .non, some .non, none] rfl ?_
      refine cut1 fun Rk kR => ?_
      refine ⟨_, rfl, _, _, rfl, rfl, _, rfl, iteF' (by decide) ⟨_, rfl, rfl, _, rfl, ?_⟩⟩
      refine iteT ?_
      refine ⟨_, rfl, _, _, rfl, rfl, _, rfl, iteT' (by decide) ⟨_, rfl, rfl, _, rfl, iteT' (by decide) ⟨_, rfl, rfl, ?_⟩⟩⟩
      rw [decide_eq_true (show V.non = V.non from rfl)]
      exact q _ (same_trans s1 s2)
    · rw [eh, if_neg he] at hwho
      subst hwho
      obtain ⟨sd, n, n', ws', hs1, hs2, nn, sd1⟩ := step_led (bs := bs) (ws := ws) (P := fun l l' => ∃ f ∈ lv, f.1 = l ∧ f.2.1 = l') a ls lls sl he
      obtain ⟨f1, hf1, en, en'⟩ := nn
      have hl' := step_len hl hs1
      refine ⟨_, rfl, _, rfl, _, rfl, p1, wa, p, bs, nds, ws, a, rfl, g1, ha, na, hwa, hl, st.bt, (fun z => by rw [hs1] at z; cases z), fun s0 n0 w0 z r l1 l2 H1 s1 gr gl1 gl2 => ?_⟩
      rw [hs1] at z
      cases z
      refine gn_go ?_
      refine kR _ _ ?_
      clear kR
      refine normS [some (.ref p1), some (.ref p2), some (.ref D), some (.ref pe), some (.ref wa), some (.ref wb), some (.ref kn), some (.int (p : Int)), some (.int (p' : Int)), some sm, some (.str ("both")), some (.ref tO), some (.int 0), some (.ref r), none, none] rfl ?_
      refine cut1 fun Rk kR => ?_
      refine ⟨_, rfl, _, rfl, _, rfl, p2, wb, p', bs, nds', ws, a.led ls, rfl, g2.same s1, hb, na.led ls, s1 _ _ hwb, hl, st.bt, (fun z => by rw [hs2] at z; cases z), fun s0 n0 w0 z r' l1' l2' H2 s2 gr' gl1' gl2' => ?_⟩
      rw [hs2] at z
      cases z
      refine gn_go ?_
      refine kR _ _ ?_
      clear kR
      refine normS [some (.ref p1), some (.ref p2), some (.ref D), some (.ref pe), some (.ref wa), some (.ref wb), some (.ref kn), some (.int (p : Int)), some (.int (p' : Int)), some sm, some (.str ("both")), some (.ref tO), some (.int 0), some (.ref r), some (.ref r'), none] rfl ?_
      refine cut1 fun Rk kR => ?_
      have s12 := same_trans s1 s2
      replace gr := s2 _ _ gr
      replace gl1 := s2 _ _ gl1
      replace gl2 := s2 _ _ gl2
      refine ⟨_, rfl, _, _, rfl, rfl, _, rfl, iteF' (by decide) ⟨_, rfl, rfl, _, rfl, iteF' (by decide) (kR _ _ ?_)⟩⟩
      clear kR
      refine cut1 fun Rk kR => ?_
      refine ⟨_, rfl, rfl, _, rfl, iteT' (by decide) ⟨_, rfl, rfl, _, rfl, ?_⟩⟩
      rw [V.ref_non]
      refine iteF ⟨_, rfl, rfl, _, rfl, ?_⟩
      rw [V.ref_non]
      refine iteF ⟨_, rfl, r, _, _, _, rfl, rfl, SqT.of gr, rfl, _, rfl, r', _, _, _, rfl, rfl, SqT.of gr', rfl, true, RB.lst (SqL.of gl1) (SqL.of gl1') rfl (fun j x y hx hy => ?_), _, rfl, iteF (kR _ _ ?_)⟩
      · rw [hx] at hy
        cases hy
        obtain ⟨i0, _, rfl⟩ := map_get hx
        exact ET.refl (.inl rfl)
      clear kR
      refine cut1 fun Rk kR => ?_
      refine ⟨_, rfl, rfl, _, rfl, iteF' (by decide) (kR _ _ ?_)⟩
      clear kR
      refine cut1 fun Rk kR => ?_
      refine ⟨_, rfl, rfl, _, rfl, iteF' (by decide) (kR _ _ ?_)⟩
      clear kR
      refine cut1 fun Rk kR => ?_
      obtain ⟨B, I, N, vb, hp, hB, pb⟩ := (g1.bx.same s12).ex
      obtain ⟨B2, I2, N2, vb2, hp2, hB2, pb2⟩ := (g2.bx.same s12).ex
      refine ⟨_, rfl, _, rfl, r, _, _, _, rfl, rfl, SqT.of gr, rfl, p1, B, I, N, l2, "mine", vb, bs, ws', rfl, hp, hB, pb, gl2, hl', by omega, fun D1 H3 s3 nD gD => ?_⟩
      refine gn_go ?_
      refine kR _ _ ?_
      clear kR
      refine normS [some (.ref p1), some (.ref p2), some (.ref D), some (.ref pe), some (.ref wa), some (.ref wb), some (.ref D1), some (.int (p : Int)), some (.int (p' : Int)), some sm, some (.str ("both")), some (.ref tO), some (.int 0), some (.ref r), some (.ref r'), none] rfl ?_
      refine cut1 fun Rk kR => ?_
      refine ⟨_, rfl, D1, rfl, .inr ⟨_, .inl gD⟩, _, rfl, _, rfl, r', _, _, _, rfl, rfl, SqT.of (s3 _ _ gr'), rfl, p2, B2, I2, N2, l2', "yours", vb2, bs, ws', rfl, s3 _ _ hp2, s3 _ _ hB2, (Paired.mapP pb2 fun _ _ z => Tp.keep (Same.tk s3) z), s3 _ _ gl2', hl', (by omega), fun D2 H4 s4 nD2 gD2 => ?_⟩
      have DD : D1 ≠ D2 := ne_of_none gD nD2
      have k1 := kvW_len (word := "mine") bs ws' hl'
      have k2 := kvW_len (word := "yours") bs ws' hl'
      have gDz := s4 _ _ gD
      have n1 := kvW_put (word := "mine") bs ws' hl' st.bt.nd
      have n2 := kvW_put (word := "yours") bs ws' hl' st.bt.nd
      rw [n1] at gDz
      rw [n2] at gD2
      refine ⟨D2, _, _, rfl, gDz, gD2, DD, (by cases bs with | nil => exact .inr rfl | cons b r => cases ws' with | nil => simp at hl' | cons m r2 => exact .inl (fun z => nomatch z)), ?_, ?_⟩
      · have : 1000 ≤ sizeLine := by decide
        omega
      have s24 := same_put (o := .dT (putAllT (kvW "mine" bs ws') (kvW "yours" bs ws'))) (same_trans s3 s4) nD
      have kn2 := kn_both (H := upd H4 D1 (.dT (putAllT (kvW "mine" bs ws') (kvW "yours" bs ws')))) (D := D1) st.bt.nd hl' hl' (by rw [n1]; exact upd_same)
      generalize upd H4 D1 (.dT (putAllT (kvW "mine" bs ws') (kvW "yours" bs ws'))) = H5 at s24 kn2 ⊢
      refine kR _ _ ?_
      clear kR
      refine cut1 fun Rk kR => ?_
      have s15 := same_trans s12 s24
      have st5 := st.same s15
      have hh : se.holds (W2 bs ws' ws') = true := by rw [st.cn.iff ws' ws' hl' hl']; exact decide_eq_true rfl
      refine ⟨_, rfl, _, rfl, r, _, _, _, rfl, rfl, SqT.of (s24 _ _ gr), rfl, _, rfl, r', _, _, _, rfl, rfl, SqT.of (s24 _ _ gr'), rfl, _, rfl, D, D1, n, n', sm, se, lv, bs, _, rfl, st5.th, st.l9, st5.cn, kn2, fun _ x6 e6 H6 s6 he6 _ _ le6 => ?_, fun z => ?_⟩
      · obtain ⟨pe6, rfl, hpe6⟩ := le6
        refine gn_go ?_
        refine kR _ _ ?_
        refine ⟨_, rfl, rfl, _, rfl, ?_⟩
        rw [V.ref_non]
        refine iteT ?_
        refine ⟨_, rfl, rfl, _, rfl, iteT' (by decide) ?_⟩
        exact q _ (same_trans s15 s6)
      · rcases z with z | z
        · rw [hh] at z
          cases z
        · exact (z f1 hf1 en en').elim
theorem has_we {tO : Addr} (s : Src K mg "_law_well" sWe) (hO : ∀ H, SqT K H tO [.str "number", .int 0]) (BN0 : Has P w K mg base "_law_by_names" ["program", "word", "worths"] 1 spBn) (WO0 : Has P w K mg base "_law_worth_of" ["told", "known"] 31 (spWo K 30)) (ST : Has P w K mg base "_law_step" ["program", "place", "worths"] 52 spSt) (CT : Has P w K mg base "_law_counting" ["there", "p", "q", "known"] 52 (spCt K tO)) : Has P w K mg base "_law_well" ["one", "other", "there_are", "entry", "mine", "yours", "known"] 53 (spWe K tO) :=
  let ⟨f, fd, F, m⟩ := s
  ⟨f, fd, ok_we F hO BN0 WO0 ST CT, F.kp, bnd7 F fun _ _ _ _ _ _ _ _ _ _ _ _ _ => rfl, m⟩
end
end TW
set_option Elab.async false
set_option linter.all false
set_option maxRecDepth 100000
set_option exponentiation.threshold 4000
set_option maxHeartbeats 1000000
namespace TW
open PySem L2
section
variable {P : Program} {w : World} {K : PySem.W.Frag} {mg : Str → Option Value} {base : Heap}
abbrev sIe : Stmt := top 40
abbrev sBe : Stmt := top 35
abbrev sEv : Stmt := top 34
/-! ### an entry's form -/
def spIe (tO : Addr) : Sp := fun vs H Q _ => ∃ (p1 p2 B I N B2 I2 N2 : Addr) (x sm : V) (vn vn2 : List V) (e : Int × Int × Str), vs = [.ref p1, .ref p2, x] ∧ H p1 = some (.tup [.ref B, .ref I, .ref N]) ∧ H p2 = some (.tup [.ref B2, .ref I2, .ref N2]) ∧ H N = some (.lst vn) ∧ H N2 = some (.lst vn2) ∧ LvAt tO H x sm e ∧ 0 ≤ e.1 ∧ e.1 < (vn.length : Int) ∧ 0 ≤ e.2.1 ∧ e.2.1 < (vn2.length : Int) ∧ ∀ H', Same H H' → Q (.bl true) H'
theorem scIe : FnScope ["one", "other", "entry", "number"] ["one", "other", "entry"] (defScope sIe) := ⟨rfl, rfl, rfl, by decide +kernel, rfl, by decide +kernel, by decide +kernel⟩
theorem gIe_bool : (defScope sIe).names.lookup (Str.ofString "bool") = some .globalImplicit := by decide +kernel
theorem gIe_int : (defScope sIe).names.lookup (Str.ofString "int") = some .globalImplicit := by decide +kernel
theorem gIe_isinstance : (defScope sIe).names.lookup (Str.ofString "isinstance") = some .globalImplicit := by decide +kernel
theorem gIe_len : (defScope sIe).names.lookup (Str.ofString "len") = some .globalImplicit := by decide +kernel
theorem gIe_str : (defScope sIe).names.lookup (Str.ofString "str") = some .globalImplicit := by decide +kernel
theorem gIe_tuple : (defScope sIe).names.lookup (Str.ofString "tuple") = some .globalImplicit := by decide +kernel
theorem ok_ie {tO : Addr} {f : Addr} {fd : FuncData} (F : Fun K "_law_is_entry" "_law_is_entry" sIe f fd) (m_isinstance : mg "isinstance" = none) (m_len : mg "len" = none) (m_bool : mg "bool" = none) (m_int : mg "int" = none) (m_str : mg "str" = none) (m_tuple : mg "tuple" = none) : FnOk P w K mg base CX0 1 f fd ["one", "other", "entry"] (spIe tO) := by
  refine F.ok scIe (fun vs H Q E h => ?_) (fun cdv A outer s H vs Q E hr h => ?_)
  · obtain ⟨p1, p2, B, I, N, B2, I2, N2, x, sm, vn, vn2, e, rfl, _⟩ := h
    rfl
  · obtain ⟨p1, p2, B, I, N, B2, I2, N2, x, sm, vn, vn2, e, rfl, hp, hp2, hN, hN2, le, z1, z2, z3, z4, q⟩ := h
    obtain ⟨pe, rfl, hpe⟩ := le
    generalize hwho : (if e.2.2 = "end" then "end" else "both" : Str) = who at hpe
    have wh : who = "end" ∨ who = "both" := by
      rw [← hwho]
      split
      · exact .inl rfl
      · exact .inr rfl
    refine goL ⟨_, (L3.cons (L3.ifs (L3.tw (L3.or2 (L3.nt (L3.tval (L3.callB L3.c_isT gIe_isinstance m_isinstance (by decide +kernel) (L3.k (L3.v 2) (L3.k (L3.bltn (w := .ty "tuple") gIe_tuple m_tuple (by decide +kernel) rfl) L3.n))))) (L3.or2 (L3.cmp L3.o_ne (L3.callB L3.c_len gIe_len m_len PySem.boot_len (L3.k (L3.v 2) L3.n)) L3.int) (L3.or1 (L3.nt (L3.tval (L3.callB L3.c_isT gIe_isinstance m_isinstance (by decide +kernel) (L3.k (L3.ix L3.ixT (L3.v 2) L3.int) (L3.k (L3.bltn (w := .ty "str") gIe_str m_str (by decide +kernel) rfl) L3.n))))))))) (L3.one (L3.ret L3.bl)) L3.nil)
      (L3.cons (L3.for_ (L3.iT (L3.slT2 (L3.v 2) L3.int)) (L3.gn 3 scIe.nd) (L3.one (L3.ifs (L3.tw (L3.or2 (L3.nt (L3.tval (L3.callB L3.c_isT gIe_isinstance m_isinstance (by decide +kernel) (L3.k (L3.v 3) (L3.k (L3.bltn (w := .ty "int") gIe_int m_int (by decide +kernel) rfl) L3.n))))) (L3.or1 (L3.tval (L3.callB L3.c_isT gIe_isinstance m_isinstance (by decide +kernel) (L3.k (L3.v 3) (L3.k (L3.bltn (w := .ty "bool") gIe_bool m_bool (by decide +kernel) rfl) L3.n))))))) (L3.one (L3.ret L3.bl)) L3.nil)))
      (L3.cons (L3.ifs (L3.cmp L3.o_notIn (L3.ix L3.ixT (L3.v 2) L3.int) (L3.tup (L3.k L3.str (L3.k L3.str (L3.k L3.str (L3.k L3.str L3.n))))) (by rfl)) (L3.one (L3.ret L3.bl)) L3.nil)
      (L3.one (L3.ret (L3.andE2 (L3.chainE L3.o_le L3.o_lt L3.int (L3.ix L3.ixT (L3.v 2) L3.int) (L3.callB L3.c_len gIe_len m_len PySem.boot_len (L3.k (L3.ix L3.ixT (L3.v 0) L3.int) L3.n))) (L3.oneE (L3.chainE L3.o_le L3.o_lt L3.int (L3.ix L3.ixT (L3.v 2) L3.int) (L3.callB L3.c_len gIe_len m_len PySem.boot_len (L3.k (L3.ix L3.ixT (L3.v 1) L3.int) L3.n)))))))))), ?_⟩
    refine cut1 fun Rk kR => ?_
    refine ⟨_, rfl, .inl ⟨_, "tuple", _, true, rfl, TyOf.tup hpe, rfl, _, rfl, iteF' rfl ?_⟩⟩
    refine ⟨_, rfl, pe, _, rfl, .inr (SqT.of hpe), rfl, _, rfl, iteF' (show (!decide (V.int 5 = V.int 5)) = false by decide) ?_⟩
    refine ⟨_, rfl, pe, _, _, _, rfl, rfl, SqT.of hpe, rfl, .inl ⟨_, "str", _, true, rfl, TyOf.str _, rfl, _, rfl, iteF' rfl ?_⟩⟩
    refine kR _ _ ?_
    clear kR
    refine cut1 fun Rk kR => ?_
    refine ⟨_, rfl, _, rfl, pe, _, rfl, SqT.of hpe, ?_, fun k1 hk1 => ?_⟩
    · rintro ⟨_, z⟩
      exact absurd (show HT.sIx 5 5 (some 2) = 5 from z) (by decide)
    rw [cut_2]
    have s1 := same_new hk1 (.tup [.int e.1, .int e.2.1])
    have g1 : (upd H k1 (.tup [.int e.1, .int e.2.1])) k1 = some (.tup [.int e.1, .int e.2.1]) := upd_same
    generalize upd H k1 (.tup [.int e.1, .int e.2.1]) = H1 at s1 g1 ⊢
    refine ⟨k1, rfl, ⟨_, SqT.of g1⟩, ?_⟩
    refine for_tup (xs := [.int e.1, .int e.2.1]) (fun i σ Hx => (∃ o3, σ = [some (.ref p1), some (.ref p2), some (.ref pe), o3]) ∧ Hx = H1) ⟨⟨_, rfl⟩, rfl⟩ (fun i σ Hx _ z => by rw [z.2]; exact SqT.of g1) (fun i x0 σ Hx hx z => ?_) (fun σ Hx z => ?_)
    · obtain ⟨⟨o3, rfl⟩, rfl⟩ := z
      obtain ⟨n0, _, rfl⟩ : ∃ n0 : Int, True ∧ x0 = .int n0 := by
        match i, hx with
        | 0, hx => cases hx; exact ⟨_, trivial, rfl⟩
        | 1, hx => cases hx; exact ⟨_, trivial, rfl⟩
      refine gn_go ?_
      refine normS [some (.ref p1), some (.ref p2), some (.ref pe), some (.int n0)] rfl ?_
      refine ⟨_, rfl, .inl ⟨_, "int", _, true, rfl, TyOf.int _, rfl, _, rfl, iteF' rfl ?_⟩⟩
      refine ⟨_, rfl, .inl ⟨_, "bool", _, false, rfl, TyOf.int _, rfl, _, rfl, iteF' rfl ?_⟩⟩
      exact ⟨⟨_, rfl⟩, rfl⟩
    obtain ⟨⟨o3, rfl⟩, rfl⟩ := z
    refine kR _ _ ?_
    clear kR
    refine cut1 fun Rk kR => ?_
    have hpe1 := s1 _ _ hpe
    refine ⟨_, rfl, pe, _, _, _, rfl, rfl, SqT.of hpe1, rfl, (by show 4 ≤ sizeLine; decide), fun t4 ht4 => ?_⟩
    have s2 := same_new ht4 (.tup [.str "mine", .str "yours", .str "both", .str "end"])
    have g2 : (upd Hx t4 (.tup [.str "mine", .str "yours", .str "both", .str "end"])) t4 = some (.tup [.str "mine", .str "yours", .str "both", .str "end"]) := upd_same
    generalize upd Hx t4 (.tup [.str "mine", .str "yours", .str "both", .str "end"]) = H2 at s2 g2 ⊢
    refine ⟨t4, _, rfl, .inr (SqT.of g2), rfl, rfl, _, rfl, iteF' (by rcases wh with rfl | rfl <;> decide) ?_⟩
    refine kR _ _ ?_
    have s12 := same_trans s1 s2
    have hpe2 := s2 _ _ hpe1
    refine ⟨_, rfl, pe, _, _, _, rfl, rfl, SqT.of hpe2, rfl, _, _, rfl, rfl, _, rfl, iteT' (decide_eq_true z1) ⟨_, rfl, p1, _, _, _, rfl, rfl, SqT.of (s12 _ _ hp), rfl, N, _, rfl, .inl (SqL.of (s12 _ _ hN)), _, _, rfl, rfl, _, rfl, iteT' (decide_eq_true z2) ?_⟩⟩
    refine ⟨_, rfl, pe, _, _, _, rfl, rfl, SqT.of hpe2, rfl, _, _, rfl, rfl, _, rfl, iteT' (decide_eq_true z3) ⟨_, rfl, p2, _, _, _, rfl, rfl, SqT.of (s12 _ _ hp2), rfl, N2, _, rfl, .inl (SqL.of (s12 _ _ hN2)), _, _, rfl, rfl, ?_⟩⟩
    show Q (.bl (decide (e.2.1 < (vn2.length : Int)))) H2
    rw [decide_eq_true z4]
    exact q _ s12
theorem has_ie {tO : Addr} (s : Src K mg "_law_is_entry" sIe) (m_isinstance : mg "isinstance" = none) (m_len : mg "len" = none) (m_bool : mg "bool" = none) (m_int : mg "int" = none) (m_str : mg "str" = none) (m_tuple : mg "tuple" = none) : Has P w K mg base "_law_is_entry" ["one", "other", "entry"] 1 (spIe tO) :=
  let ⟨f, fd, F, m⟩ := s
  ⟨f, fd, ok_ie F m_isinstance m_len m_bool m_int m_str m_tuple, F.kp, bnd3 F fun _ _ _ _ _ _ _ _ _ => rfl, m⟩
theorem flat_strs (xs : List Str) : (xs.map V.str).all flatV = true := by
  rw [List.all_eq_true]
  intro v hv
  obtain ⟨x, _, rfl⟩ := List.mem_map.mp hv
  rfl
/-! ### _law_begins: it answers -/
def spBe : Sp := fun vs H Q _ => ∃ (p B I N wa : Addr) (vb : List V) (bs : List (Str × Int)) (ins : List Str) (ws : List Int), vs = [.ref p, .ref wa] ∧ H p = some (.tup [.ref B, .ref I, .ref N]) ∧ H B = some (.lst vb) ∧ Paired (BoxAt H) vb bs ∧ H I = some (.lst (ins.map V.str)) ∧ H wa = some (.tup (ws.map V.int)) ∧ bs.length = ws.length ∧ bs.length ≤ 4 ∧ ∀ (k : Bool) (H' : Hp), Same H H' → Q (.bl k) H'
theorem scBe : FnScope ["program", "worths"] ["program", "worths"] (defScope sBe) := ⟨rfl, rfl, rfl, by decide +kernel, rfl, by decide +kernel, by decide +kernel⟩
theorem gBe_all : (defScope sBe).names.lookup (Str.ofString "all") = some .globalImplicit := by decide +kernel
theorem gBe_zip : (defScope sBe).names.lookup (Str.ofString "zip") = some .globalImplicit := by decide +kernel
theorem ok_be {f : Addr} {fd : FuncData} (F : Fun K "_law_begins" "_law_begins" sBe f fd) (m_all : mg "all" = none) (m_zip : mg "zip" = none) : FnOk P w K mg base CX0 1 f fd ["program", "worths"] spBe := by
  refine F.ok scBe (fun vs H Q E h => ?_) (fun cdv A outer s H vs Q E hr h => ?_)
  · obtain ⟨p, B, I, N, wa, vb, bs, ins, ws, rfl, _⟩ := h
    rfl
  · obtain ⟨p, B, I, N, wa, vb, bs, ins, ws, rfl, hp, hB, pb, hI, hw, bw, l4, q⟩ := h
    have vbl := Paired.length pb
    refine goL ⟨_, (L3.one (L3.ret (L3.callB L3.c_all gBe_all m_all (by decide +kernel) (L3.k (L3.lc [none, none, some 0] ["box", "worth", "program"] (show CompScope _ (defScope sBe) from ⟨rfl, by decide +kernel, by decide +kernel, by decide +kernel⟩) (by rfl) (L3.iZA false true gBe_zip m_zip (L3.k (L3.ix L3.ixT (L3.v 0) L3.int) (L3.k (L3.v 1) L3.n))) (fun _ _ _ _ _ => ⟨(L3.gtup 2 (L3.gsk (L3.gn 0 (show (["box", "worth", "program"] : List Str).Nodup from by decide +kernel)) (L3.gsk (L3.gn 1 (show (["box", "worth", "program"] : List Str).Nodup from by decide +kernel)) L3.gsn))), L3.if0, (L3.orE2 (L3.cmpE L3.o_eq (L3.v 1) L3.int) (L3.oneE (L3.cmpE L3.o_in (L3.ix L3.ixT (L3.v 0) L3.int) (L3.ix L3.ixT (L3.v 2) L3.int) (by rfl))))⟩)) L3.n)))), ?_⟩
    refine ⟨_, rfl, p, _, _, _, rfl, rfl, SqT.of hp, rfl, _, rfl, B, wa, rfl, ⟨_, SqL.of hB⟩, ⟨_, SqT.of hw⟩, fun l hl => ?_⟩
    refine comp_zipA (xs := vb) (ys := ws.map V.int) (by rw [List.length_map]; omega) (fun (i : Nat) Hx => Same H Hx ∧ ∃ ks : List Bool, ks.length = i ∧ Hx l = some (.lst (ks.map V.bl))) ⟨same_new hl _, [], rfl, upd_same⟩ (fun i Hx _ z => ⟨SqL.of (z.1 _ _ hB), SqT.of (z.1 _ _ hw)⟩) (fun i x0 y0 pp Hx hx hy z hpp => ?_) (fun Hx z => ?_)
    · obtain ⟨sx, ks, kl, gl⟩ := z
      have hil : i < vb.length := (List.getElem?_eq_some_iff.mp hx).1
      obtain ⟨b, hbi, pb0, rfl, hpb⟩ := Paired.get pb hx
      obtain ⟨w0, hw0, rfl⟩ := map_get hy
      have sp := same_new hpp (.tup [.ref pb0, .int w0])
      have gp : (upd Hx pp (.tup [.ref pb0, .int w0])) pp = some (.tup [.ref pb0, .int w0]) := upd_same
      generalize upd Hx pp (.tup [.ref pb0, .int w0]) = Hy at sp gp ⊢
      have sxy := same_trans sx sp
      refine ⟨pp, _, rfl, SqT.of gp, rfl, _, _, rfl, _, _, rfl, rfl, ?_⟩
      refine turn0 (A := fun H5 => mApp _ l _ H5 _) ?_
      refine ⟨_, rfl, rfl, _, rfl, ?_⟩
      refine ite2 (fun c => ?_) (fun c => ?_)
      · exact ⟨_, sp _ _ gl, small1000 (by rw [List.length_map]; omega), comp_end (Pv := fun (i : Nat) Hx => Same H Hx ∧ ∃ ks : List Bool, ks.length = i ∧ Hx l = some (.lst (ks.map V.bl))) (by repeat' constructor) hil ⟨same_put sxy hl, ks ++ [_], by rw [List.length_append, kl]; rfl, by rw [upd_same, List.map_append]; rfl⟩⟩
      · refine ⟨_, rfl, pb0, _, _, _, rfl, rfl, SqT.of (sxy _ _ hpb), rfl, _, rfl, p, _, _, _, rfl, rfl, SqT.of (sxy _ _ hp), rfl, I, _, rfl, .inl (SqL.of (sxy _ _ hI)), rfl, flat_strs ins, ?_⟩
        exact ⟨_, sp _ _ gl, small1000 (by rw [List.length_map]; omega), comp_end (Pv := fun (i : Nat) Hx => Same H Hx ∧ ∃ ks : List Bool, ks.length = i ∧ Hx l = some (.lst (ks.map V.bl))) (by repeat' constructor) hil ⟨same_put sxy hl, ks ++ [_], by rw [List.length_append, kl]; rfl, by rw [upd_same, List.map_append]; rfl⟩⟩
    obtain ⟨sx, ks, kl, gl⟩ := z
    exact ⟨l, ks, rfl, SqL.of gl, q _ _ sx⟩
theorem has_be (s : Src K mg "_law_begins" sBe) (m_all : mg "all" = none) (m_zip : mg "zip" = none) : Has P w K mg base "_law_begins" ["program", "worths"] 1 spBe :=
  let ⟨f, fd, F, m⟩ := s
  ⟨f, fd, ok_be F m_all m_zip, F.kp, bnd2 F fun _ _ _ _ _ _ _ _ => rfl, m⟩
/-! ### _law_every -/
theorem prodB_app : ∀ (a b : List (Str × Int)), prodB (a ++ b) = prodB a * prodB b
  | [], b => (Int.one_mul _).symm
  | x :: a, b => by
    show x.2 * prodB (a ++ b) = x.2 * prodB a * prodB b
    rw [prodB_app a b, Int.mul_assoc]
theorem prodB_take {bs : List (Str × Int)} (h : ∀ b ∈ bs, 1 ≤ b.2) (i : Nat) : 1 ≤ prodB (bs.take i) ∧ prodB (bs.take i) ≤ prodB bs := by
  have h1 := prod_pos (bs := bs.take i) fun x hx => h x (List.mem_of_mem_take hx)
  have h2 := prod_pos (bs := bs.drop i) fun x hx => h x (List.mem_of_mem_drop hx)
  refine ⟨h1, ?_⟩
  have e := prodB_app (bs.take i) (bs.drop i)
  rw [List.take_append_drop] at e
  rw [e]
  have := Int.mul_le_mul (Int.le_refl (prodB (bs.take i))) h2 (by decide) (by omega)
  rw [Int.mul_one] at this
  exact this
def TpN (n : Nat) (H : Hp) (v : V) : Prop := ∃ ws : List Int, Tp H v (ws.map V.int) ∧ ws.length = n
theorem TpN.keep {n : Nat} {H H' : Hp} {v : V} (k : TK H H') (h : TpN n H v) : TpN n H' v := let ⟨ws, a, b⟩ := h; ⟨ws, Tp.keep k a, b⟩
def spEv : Sp := fun vs H Q _ => ∃ (p : Addr) (bs : List (Str × Int)), vs = [.ref p] ∧ Bx H p bs ∧ (∀ b ∈ bs, 1 ≤ b.2) ∧ prodB bs ≤ 800 ∧ bs.length ≤ 4 ∧ ∀ (F0 : Addr) (xs : List V) (H' : Hp), Same H H' → H F0 = none → H' F0 = some (.lst xs) → xs.length ≤ 800 → (∀ x ∈ xs, TpN bs.length H' x) → Q (.ref F0) H'
theorem scEv : FnScope ["program", "found", "name", "size", "longer", "worths"] ["program"] (defScope sEv) := ⟨rfl, rfl, rfl, by decide +kernel, rfl, by decide +kernel, by decide +kernel⟩
theorem gEv_range : (defScope sEv).names.lookup (Str.ofString "range") = some .globalImplicit := by decide +kernel
theorem ok_ev {f : Addr} {fd : FuncData} (F : Fun K "_law_every" "_law_every" sEv f fd) (m_range : mg "range" = none) : FnOk P w K mg base CX0 1 f fd ["program"] spEv := by
  refine F.ok scEv (fun vs H Q E h => ?_) (fun cdv A outer s H vs Q E hr h => ?_)
  · obtain ⟨p, bs, rfl, _⟩ := h
    rfl
  · obtain ⟨p, bs, rfl, bx, sz, pr, l4, q⟩ := h
    obtain ⟨B, I, N, vb, hp, hB, pb⟩ := bx.ex
    have vbl := Paired.length pb
    refine goL ⟨_, (L3.cons (L3.set 1 scEv.nd (L3.lst (L3.k (L3.tup L3.n) L3.n)))
      (L3.cons (L3.for_ (L3.iL (L3.ix L3.ixT (L3.v 0) L3.int)) (L3.gtup 2 (L3.gsk (L3.gn 2 scEv.nd) (L3.gsk (L3.gn 3 scEv.nd) L3.gsn))) (L3.cons (L3.set 4 scEv.nd (L3.lst L3.n))
      (L3.cons (L3.for_ (L3.iL (L3.v 1)) (L3.gn 5 scEv.nd) (L3.one (L3.ex (L3.extend (L3.v 4) (L3.k (L3.lc [none, some 5] ["worth", "worths"] (show CompScope _ (defScope sEv) from ⟨rfl, by decide +kernel, by decide +kernel, by decide +kernel⟩) (by rfl) (L3.iR gEv_range m_range (L3.k (L3.v 3) L3.n)) (fun _ _ _ _ _ => ⟨(L3.gn 0 (show (["worth", "worths"] : List Str).Nodup from by decide +kernel)), L3.if0, (L3.op L3.o_catZ (L3.v 1) (L3.tup (L3.k (L3.v 0) L3.n)))⟩)) L3.n)))))
      (L3.one (L3.set 1 scEv.nd (L3.v 4))))))
      (L3.one (L3.ret (L3.v 1))))), ?_⟩
    refine cut1 fun Rk kR => ?_
    refine ⟨(by show 0 ≤ sizeLine; decide), fun e0 he0 => ?_⟩
    have s1 := same_new he0 (.tup [])
    have g1 : (upd H e0 (.tup [])) e0 = some (.tup []) := upd_same
    generalize upd H e0 (.tup []) = H1 at s1 g1 ⊢
    refine ⟨(by show 1 ≤ sizeLine; decide), fun F0 hF0 => ?_⟩
    have s2 := same_new hF0 (.lst [.ref e0])
    have g2 : (upd H1 F0 (.lst [.ref e0])) F0 = some (.lst [.ref e0]) := upd_same
    generalize upd H1 F0 (.lst [.ref e0]) = H2 at s2 g2 ⊢
    refine gn_go ?_
    refine kR _ _ ?_
    clear kR
    refine normS [some (.ref p), some (.ref F0), none, none, none, none] rfl ?_
    refine cut1 fun Rk kR => ?_
    have s12 := same_trans s1 s2
    refine ⟨_, rfl, p, _, _, _, rfl, rfl, SqT.of (s12 _ _ hp), rfl, B, rfl, ⟨_, SqL.of (s12 _ _ hB)⟩, ?_⟩
    refine for_list (xs := vb) (fun i σ Hx => (∃ (F0 : Addr) (xs : List V) (o2 o3 o4 o5 : Option V), σ = [some (.ref p), some (.ref F0), o2, o3, o4, o5] ∧ H F0 = none ∧ Hx F0 = some (.lst xs) ∧ (xs.length : Int) = prodB (bs.take i) ∧ ∀ x ∈ xs, TpN i Hx x) ∧ Same H Hx) ⟨⟨F0, [.ref e0], none, none, none, none, rfl, none_of_same s1 hF0, g2, rfl, fun x hx => by rw [List.mem_singleton.mp hx]; exact ⟨[], ⟨e0, rfl, s2 _ _ g1⟩, rfl⟩⟩, s12⟩ (fun i σ Hx _ z => SqL.of (z.2 _ _ hB)) (fun i x0 σ Hx hx z => ?_) (fun σ Hx z => ?_)
    · obtain ⟨⟨F0, xs, o2, o3, o4, o5, rfl, nF, gF, xl, hxs⟩, sx⟩ := z
      obtain ⟨b, hbi, pb0, rfl, hpb⟩ := Paired.get pb hx
      have hb1 := sz b (List.mem_of_getElem? hbi)
      have t1 := prodB_take sz i
      have t2 := prodB_take sz (i + 1)
      have tk1 : bs.take (i + 1) = bs.take i ++ [b] := by rw [List.take_add_one, hbi]; rfl
      rw [tk1, prodB_snoc] at t2
      refine ⟨pb0, _, rfl, SqT.of (sx _ _ hpb), rfl, _, _, rfl, _, _, rfl, rfl, ?_⟩
      refine normS [some (.ref p), some (.ref F0), some (.str b.1), some (.int b.2), o4, o5] rfl ?_
      refine cut1 fun Rk kR => ?_
      refine ⟨(by show 0 ≤ sizeLine; decide), fun L hL => ?_⟩
      have s3 := same_new hL (.lst [])
      have g3 : (upd Hx L (.lst [])) L = some (.lst []) := upd_same
      generalize upd Hx L (.lst []) = H3 at s3 g3 ⊢
      refine gn_go ?_
      refine kR _ _ ?_
      clear kR
      refine normS [some (.ref p), some (.ref F0), some (.str b.1), some (.int b.2), some (.ref L), o5] rfl ?_
      refine cut1 fun Rk kR => ?_
      refine ⟨_, rfl, F0, rfl, ⟨_, SqL.of (s3 _ _ gF)⟩, ?_⟩
      refine for_list (xs := xs) (fun j σ Hy => (∃ (o5 : Option V), σ = [some (.ref p), some (.ref F0), some (.str b.1), some (.int b.2), some (.ref L), o5]) ∧ Same Hx Hy ∧ ∃ ys, Hy L = some (.lst ys) ∧ (ys.length : Int) = (j : Int) * b.2 ∧ ∀ y ∈ ys, TpN (i + 1) Hy y) ⟨⟨_, rfl⟩, s3, [], g3, (by show (0 : Int) = 0 * b.2; rw [Int.zero_mul]), fun y z => nomatch z⟩ (fun j σ Hy _ z => SqL.of (z.2.1 _ _ gF)) (fun j w0 σ Hy hw z => ?_) (fun σ Hy z => ?_)
      · obtain ⟨⟨o5, rfl⟩, sy, ys, gL, yl, hys⟩ := z
        have hjl : j < xs.length := (List.getElem?_eq_some_iff.mp hw).1
        obtain ⟨ws, ⟨pw, rfl, hpw⟩, wl⟩ := TpN.keep (Same.tk sy) (hxs w0 (List.mem_of_getElem? hw))
        refine gn_go ?_
        refine normS [some (.ref p), some (.ref F0), some (.str b.1), some (.int b.2), some (.ref L), some (.ref pw)] rfl ?_
        refine ⟨_, rfl, .inl ⟨rfl, _, SqL.of gL⟩, ?_⟩
        have hil : i < vb.length := (List.getElem?_eq_some_iff.mp hx).1
        have big : 10000 ≤ sizeLine := by decide
        have hb8 : b.2 ≤ 800 := by
          have := Int.mul_le_mul t1.1 (Int.le_refl b.2) (by omega) (by omega)
          rw [Int.one_mul] at this
          omega
        refine ⟨_, rfl, b.2, rfl, by omega, by omega, fun C hC => ?_⟩
        refine comp_range (lo := 0) (n := b.2.toNat) (fun (k : Nat) Hz => Same Hy Hz ∧ ∃ zs, Hz C = some (.lst zs) ∧ zs.length = k ∧ ∀ z ∈ zs, TpN (i + 1) Hz z) ⟨same_new hC _, [], upd_same, rfl, fun _ z => nomatch z⟩ (fun k Hz hk z => ?_) (fun Hz z => ?_)
        · obtain ⟨sz3, zs, gC, zl, hzs⟩ := z
          refine gn_go ?_
          refine turn0 (A := fun H5 => mApp _ C _ H5 _) ?_
          refine ⟨_, rfl, _, rfl, (by show 1 ≤ sizeLine; decide), fun t1a ht1 => ?_⟩
          have sa := same_new ht1 (.tup [.int (0 + (k : Int))])
          have ga : (upd Hz t1a (.tup [.int (0 + (k : Int))])) t1a = some (.tup [.int (0 + (k : Int))]) := upd_same
          generalize upd Hz t1a (.tup [.int (0 + (k : Int))]) = Ha at sa ga ⊢
          refine ⟨pw, t1a, _, _, rfl, rfl, SqT.of (sa _ _ (sz3 _ _ hpw)), SqT.of ga, (fun z => nomatch z), (by rw [List.length_map]; show _ + 1 ≤ _; omega), fun z => ?_, fun _ t2a ht2 => ?_⟩
          · have w0 : ws = [] := List.map_eq_nil_iff.mp z
            rw [w0] at wl
            have sb := same_refl Ha
            have tv : TpN (i + 1) Ha (.ref t1a) := ⟨[0 + (k : Int)], ⟨t1a, rfl, ga⟩, by rw [← wl]; rfl⟩
            have gCb := sb _ _ (sa _ _ gC)
            have tkC : TK Ha (upd Ha C (.lst (zs ++ [.ref t1a]))) := TW.TK.lst gCb
            have szb := same_trans sz3 (same_trans sa sb)
            refine ⟨_, gCb, small1000 (by omega), comp_end (Pv := fun (k : Nat) Hz => Same Hy Hz ∧ ∃ zs, Hz C = some (.lst zs) ∧ zs.length = k ∧ ∀ z ∈ zs, TpN (i + 1) Hz z) (by repeat' constructor) hk ⟨same_put szb hC, zs ++ [.ref t1a], upd_same, by rw [List.length_append, zl]; rfl, fun y hy => ?_⟩⟩
            rcases List.mem_append.mp hy with z | z
            · exact TpN.keep ((Same.tk (same_trans sa sb)).trans tkC) (hzs y z)
            · rw [List.mem_singleton.mp z]; exact TpN.keep tkC tv
          · have sb := same_new ht2 (.tup (ws.map V.int ++ [.int (0 + (k : Int))]))
            have tv : TpN (i + 1) (upd Ha t2a (.tup (ws.map V.int ++ [.int (0 + (k : Int))]))) (.ref t2a) := ⟨ws ++ [0 + (k : Int)], ⟨t2a, rfl, by rw [upd_same, List.map_append]; rfl⟩, by rw [List.length_append, wl]; rfl⟩
            generalize upd Ha t2a (.tup (ws.map V.int ++ [.int (0 + (k : Int))])) = Hb at sb tv ⊢
            have gCb := sb _ _ (sa _ _ gC)
            have tkC : TK Hb (upd Hb C (.lst (zs ++ [.ref t2a]))) := TW.TK.lst gCb
            have szb := same_trans sz3 (same_trans sa sb)
            refine ⟨_, gCb, small1000 (by omega), comp_end (Pv := fun (k : Nat) Hz => Same Hy Hz ∧ ∃ zs, Hz C = some (.lst zs) ∧ zs.length = k ∧ ∀ z ∈ zs, TpN (i + 1) Hz z) (by repeat' constructor) hk ⟨same_put szb hC, zs ++ [.ref t2a], upd_same, by rw [List.length_append, zl]; rfl, fun y hy => ?_⟩⟩
            rcases List.mem_append.mp hy with z | z
            · exact TpN.keep ((Same.tk (same_trans sa sb)).trans tkC) (hzs y z)
            · rw [List.mem_singleton.mp z]; exact TpN.keep tkC tv
        obtain ⟨sz3, zs, gC, zl, hzs⟩ := z
        have ub : (ys.length : Int) + b.2 ≤ 800 := by
          rw [yl]
          have h1 : ((j : Int) + 1) * b.2 ≤ prodB (bs.take i) * b.2 := Int.mul_le_mul_of_nonneg_right (by omega) (by omega)
          rw [Int.add_mul, Int.one_mul] at h1
          omega
        refine ⟨L, C, _, _, rfl, rfl, sz3 _ _ gL, gC, by omega, ⟨_, rfl⟩, same_put (same_trans sy sz3) hL, ys ++ zs, upd_same, ?_, fun y hy => ?_⟩
        · rw [List.length_append, Int.natCast_add, yl, zl, Int.toNat_of_nonneg (by omega), Int.natCast_add, Int.add_mul]
          show _ = _ + 1 * b.2
          rw [Int.one_mul]
        · have tkL : TK Hz (upd Hz L (.lst (ys ++ zs))) := TW.TK.lst (sz3 _ _ gL)
          rcases List.mem_append.mp hy with z | z
          · exact TpN.keep ((Same.tk sz3).trans tkL) (hys y z)
          · exact TpN.keep tkL (hzs y z)
      · obtain ⟨⟨o5, rfl⟩, sy, ys, gL, yl, hys⟩ := z
        refine kR _ _ ?_
        refine ⟨_, rfl, ?_⟩
        refine gn_go ?_
        refine ⟨⟨L, ys, _, _, _, _, rfl, none_of_same sx hL, gL, ?_, hys⟩, same_trans sx sy⟩
        rw [yl, tk1, prodB_snoc, xl]
    · obtain ⟨⟨F0, xs, o2, o3, o4, o5, rfl, nF, gF, xl, hxs⟩, sx⟩ := z
      rw [vbl] at xl hxs
      rw [List.take_length] at xl
      refine kR _ _ ?_
      exact ⟨_, rfl, q F0 xs _ sx nF gF (by omega) hxs⟩
theorem has_ev (s : Src K mg "_law_every" sEv) (m_range : mg "range" = none) : Has P w K mg base "_law_every" ["program"] 1 spEv :=
  let ⟨f, fd, F, m⟩ := s
  ⟨f, fd, ok_ev F m_range, F.kp, bnd1 F fun _ _ _ _ _ _ _ => rfl, m⟩
end
end TW
set_option Elab.async false
set_option linter.all false
set_option maxRecDepth 100000
set_option exponentiation.threshold 4000
set_option maxHeartbeats 1000000
namespace TW
open PySem L2
section
variable {P : Program} {w : World} {K : PySem.W.Frag} {mg : Str → Option Value} {base : Heap}
abbrev sWa : Stmt := top 42
/-! ### what is kept while a pot is drawn from -/
theorem ne_reel {H : Hp} {r a : Addr} {xs : List V} (h : Reel H r) (ha : H a = some (.lst xs)) (hx : ∀ i j : Int, xs ≠ [.int i, .int j]) : a ≠ r := fun e => by
  obtain ⟨i, j, h1, _⟩ := h
  rw [e, h1] at ha
  cases ha
  exact hx i j rfl
theorem paired_ne {α : Type} {R : V → α → Prop} {xs : List V} {ys : List α} (h : Paired R xs ys) (hr : ∀ (i : Int) (y : α), ¬ R (.int i) y) : ∀ i j : Int, xs ≠ [.int i, .int j] := fun i j e => by
  subst e
  cases h with
  | cons a _ => exact hr _ _ a
theorem strs_ne (xs : List Str) : ∀ i j : Int, xs.map V.str ≠ [.int i, .int j] := fun i j e => by
  cases xs with
  | nil => cases e
  | cons a l => cases e
theorem np_ref {H : Hp} (i : Int) : ∀ e : Np, ¬ NpAt H (.int i) e
  | .put _ _ _, ⟨_, ⟨_, e, _⟩, _⟩ => nomatch e
  | .say _ _, ⟨_, ⟨_, e, _⟩, _⟩ => nomatch e
  | .test _ _ _, ⟨_, ⟨_, e, _⟩, _⟩ => nomatch e
  | .pick _ _, ⟨_, e, _⟩ => nomatch e
  | .fin, ⟨_, e, _⟩ => nomatch e
theorem PgA.rl {H H' : Hp} {r p : Addr} {bs : List (Str × Int)} {nds : List Np} (hr : Reel H r) (l : Rl r H H') (h : PgA H p bs nds) : PgA H' p bs nds :=
  let ⟨B, I, N, vb, vn, ins, a, b, c, d, e, f⟩ := h.ex
  have tk := Rl.tk hr l
  ⟨B, I, N, vb, vn, ins, tk _ _ a, l.k _ _ (ne_reel hr b (paired_ne c fun _ _ ⟨_, z, _⟩ => nomatch z)) b, Paired.mapP c fun _ _ z => Tp.keep tk z, l.k _ _ (ne_reel hr d (paired_ne e np_ref)) d, Paired.mapP e fun _ _ z => NpAt.keep tk z, l.k _ _ (ne_reel hr f (strs_ne ins)) f⟩
theorem Ths.rl {tO : Addr} {H H' : Hp} {r D : Addr} {sm : V} {lv : List (Int × Int × Str)} (hr : Reel H r) (l : Rl r H H') (h : Ths tO H D sm lv) : Ths tO H' D sm lv :=
  let ⟨kvs, a, b, c, d, e⟩ := h.ex
  have tk := Rl.tk hr l
  ⟨kvs, l.k _ _ (fun z => by obtain ⟨i, j, h1, _⟩ := hr; rw [z, h1] at a; cases a) a, b, fun k v hv => by
    obtain ⟨la, xs, p, q, e1, e2, e3, e4, e5, e6⟩ := c k v hv
    refine ⟨la, xs, p, q, e1, e2, l.k _ _ (ne_reel hr e3 fun i j z => ?_) e3, e4, e5, fun x hx => ?_⟩
    · obtain ⟨f, _, _, _, ⟨_, f4, _⟩⟩ := e6 (.int i) (by rw [z]; exact List.mem_cons.mpr (.inl rfl))
      exact nomatch f4
    · obtain ⟨f, f1, f2, f3, f4⟩ := e6 x hx
      exact ⟨f, f1, f2, f3, LvAt.keep tk f4⟩, d, e⟩
theorem Cnd.rl {K : PySem.W.Frag} {H H' : Hp} {r : Addr} {sm : V} {se : E} {bs : List (Str × Int)} (hr : Reel H r) (l : Rl r H H') (h : Cnd K H sm se bs) : Cnd K H' sm se bs := ⟨EK.keep (Rl.tk hr l) h.ek, h.is, h.ok, h.dp, h.iff⟩
theorem Sit.rl {K : PySem.W.Frag} {tO : Addr} {H H' : Hp} {r p1 p2 D : Addr} {sm : V} {se : E} {bs : List (Str × Int)} {nds nds' : List Np} {lv : List (Int × Int × Str)} (hr : Reel H r) (l : Rl r H H') (h : Sit K tO H p1 p2 D sm se bs nds nds' lv) : Sit K tO H' p1 p2 D sm se bs nds nds' lv :=
  ⟨h.g1.rl hr l, h.g2.rl hr l, h.nt, h.th.rl hr l, h.l9, h.cn.rl hr l, h.sim, h.bt⟩
def spWa (K : PySem.W.Frag) (tO : Addr) : Sp := fun vs H Q _ => ∃ (r p1 p2 D : Addr) (sm : V) (se : E) (bs : List (Str × Int)) (nds nds' : List Np) (lv : List (Int × Int × Str)), vs = [.ref r, .ref p1, .ref p2, .ref D] ∧ Reel H r ∧ Sit K tO H p1 p2 D sm se bs nds nds' lv ∧ ∀ H', Rl r H H' → Q (.bl true) H'
theorem scWa : FnScope ["pot", "one", "other", "there_are", "mine", "name", "size", "place", "turn", "known", "entry", "here", "there"] ["pot", "one", "other", "there_are"] (defScope sWa) := ⟨rfl, rfl, rfl, by decide +kernel, rfl, by decide +kernel, by decide +kernel⟩
theorem gWa_law_both : (defScope sWa).names.lookup (Str.ofString "_law_both") = some .globalImplicit := by decide +kernel
theorem gWa_law_counting : (defScope sWa).names.lookup (Str.ofString "_law_counting") = some .globalImplicit := by decide +kernel
theorem gWa_law_next : (defScope sWa).names.lookup (Str.ofString "_law_next") = some .globalImplicit := by decide +kernel
theorem gWa_law_step : (defScope sWa).names.lookup (Str.ofString "_law_step") = some .globalImplicit := by decide +kernel
theorem gWa_law_well : (defScope sWa).names.lookup (Str.ofString "_law_well") = some .globalImplicit := by decide +kernel
theorem gWa_int : (defScope sWa).names.lookup (Str.ofString "int") = some .globalImplicit := by decide +kernel
theorem gWa_range : (defScope sWa).names.lookup (Str.ofString "range") = some .globalImplicit := by decide +kernel
theorem gWa_tuple : (defScope sWa).names.lookup (Str.ofString "tuple") = some .globalImplicit := by decide +kernel
theorem ok_wa {tO : Addr} {f : Addr} {fd : FuncData} (F : Fun K "_law_walked" "_law_walked" sWa f fd) (m_int : mg "int" = none) (m_tuple : mg "tuple" = none) (m_range : mg "range" = none) (TK00 : Has P w K mg base "_law_next" ["pot", "many"] 1 spNext) (BO0 : Has P w K mg base "_law_both" ["one", "other", "mine", "yours"] 2 spBo) (ST0 : Has P w K mg base "_law_step" ["program", "place", "worths"] 52 spSt) (CT0 : Has P w K mg base "_law_counting" ["there", "p", "q", "known"] 52 (spCt K tO)) (WE : Has P w K mg base "_law_well" ["one", "other", "there_are", "entry", "mine", "yours", "known"] 53 (spWe K tO)) : FnOk P w K mg base CX0 54 f fd ["pot", "one", "other", "there_are"] (spWa K tO) := by
  refine F.ok scWa (fun vs H Q E h => ?_) (fun cdv A outer s H vs Q E hr h => ?_)
  · obtain ⟨r, p1, p2, D, sm, se, bs, nds, nds', lv, rfl, _⟩ := h
    rfl
  · obtain ⟨r, p1, p2, D, sm, se, bs, nds, nds', lv, rfl, hre, st, q⟩ := h
    have TK0 := TK00.mono (show 1 ≤ 53 by omega)
    have BO := BO0.mono (show 2 ≤ 53 by omega)
    have CT := CT0.mono (show 52 ≤ 53 by omega)
    have ST := ST0.mono (show 52 ≤ 53 by omega)
    obtain ⟨B, I, N, vb, vn, ins, hp, hB, pb, hN, pn, hI⟩ := st.g1.ex
    have vbl := Paired.length pb
    have l4 := st.bt.l4
    have Br := ne_reel hre hB (paired_ne pb fun _ _ ⟨_, z, _⟩ => nomatch z)
    have Ir := ne_reel hre hI (strs_ne ins)
    refine goL ⟨_, (L3.cons (L3.set 4 scWa.nd (L3.lst L3.n))
      (L3.cons (L3.for_ (L3.iL (L3.ix L3.ixT (L3.v 1) L3.int)) (L3.gtup 2 (L3.gsk (L3.gn 5 scWa.nd) (L3.gsk (L3.gn 6 scWa.nd) L3.gsn))) (L3.one (L3.ex (L3.append (L3.v 4) (L3.k (L3.op L3.o_mul (L3.own TK0 hr gWa_law_next (L3.k (L3.v 0) (L3.k (L3.v 6) L3.n))) (L3.callT L3.c_int gWa_int m_int (by decide +kernel) (L3.k (L3.cmpE L3.o_in (L3.v 5) (L3.ix L3.ixT (L3.v 1) L3.int) (by rfl)) L3.n))) L3.n)))))
      (L3.cons (L3.set 7 scWa.nd (L3.tup (L3.k L3.int (L3.k L3.int (L3.k (L3.callT L3.c_tuple gWa_tuple m_tuple (by decide +kernel) (L3.k (L3.v 4) L3.n)) (L3.k (L3.callT L3.c_tuple gWa_tuple m_tuple (by decide +kernel) (L3.k (L3.v 4) L3.n)) L3.n))))))
      (L3.cons (L3.for_ (L3.iR gWa_range m_range (L3.k L3.int L3.n)) (L3.gn 8 scWa.nd) (L3.cons (L3.set 9 scWa.nd (L3.own BO hr gWa_law_both (L3.k (L3.v 1) (L3.k (L3.v 2) (L3.k (L3.ix L3.ixT (L3.v 7) L3.int) (L3.k (L3.ix L3.ixT (L3.v 7) L3.int) L3.n))))))
      (L3.cons (L3.set 10 scWa.nd (L3.own CT hr gWa_law_counting (L3.k (L3.v 3) (L3.k (L3.ix L3.ixT (L3.v 7) L3.int) (L3.k (L3.ix L3.ixT (L3.v 7) L3.int) (L3.k (L3.v 9) L3.n))))))
      (L3.cons (L3.ifs (L3.cmp L3.o_isN (L3.v 10) L3.non) (L3.one (L3.ret L3.bl)) L3.nil)
      (L3.cons (L3.ifs (L3.nt (L3.tval (L3.own WE hr gWa_law_well (L3.k (L3.v 1) (L3.k (L3.v 2) (L3.k (L3.v 3) (L3.k (L3.v 10) (L3.k (L3.ix L3.ixT (L3.v 7) L3.int) (L3.k (L3.ix L3.ixT (L3.v 7) L3.int) (L3.k (L3.v 9) L3.n)))))))))) (L3.one (L3.ret L3.bl)) L3.nil)
      (L3.cons (L3.set 11 scWa.nd (L3.own ST hr gWa_law_step (L3.k (L3.v 1) (L3.k (L3.ix L3.ixT (L3.v 7) L3.int) (L3.k (L3.ix L3.ixT (L3.v 7) L3.int) L3.n)))))
      (L3.cons (L3.set 12 scWa.nd (L3.own ST hr gWa_law_step (L3.k (L3.v 2) (L3.k (L3.ix L3.ixT (L3.v 7) L3.int) (L3.k (L3.ix L3.ixT (L3.v 7) L3.int) L3.n)))))
      (L3.cons (L3.ifs (L3.cmp L3.o_eq (L3.ix L3.ixT (L3.v 10) L3.int) L3.str) (L3.one (L3.ret L3.bl)) L3.nil)
      (L3.cons (L3.ifs (L3.cmp L3.o_eq (L3.ix L3.ixT (L3.v 10) L3.int) L3.str) (L3.one (L3.set 12 scWa.nd (L3.tup (L3.k (L3.lst L3.n) (L3.k (L3.ix L3.ixT (L3.v 7) L3.int) (L3.k (L3.ix L3.ixT (L3.v 7) L3.int) L3.n)))))) L3.nil)
      (L3.cons (L3.ifs (L3.cmp L3.o_eq (L3.ix L3.ixT (L3.v 10) L3.int) L3.str) (L3.one (L3.set 11 scWa.nd (L3.tup (L3.k (L3.lst L3.n) (L3.k (L3.ix L3.ixT (L3.v 7) L3.int) (L3.k (L3.ix L3.ixT (L3.v 7) L3.int) L3.n)))))) L3.nil)
      (L3.one (L3.set 7 scWa.nd (L3.tup (L3.k (L3.ix L3.ixT (L3.v 11) L3.int) (L3.k (L3.ix L3.ixT (L3.v 12) L3.int) (L3.k (L3.ix L3.ixT (L3.v 11) L3.int) (L3.k (L3.ix L3.ixT (L3.v 12) L3.int) L3.n)))))))))))))))))
      (L3.one (L3.ret L3.bl)))))), ?_⟩
    refine cut1 fun Rk kR => ?_
    refine ⟨(by show 0 ≤ sizeLine; decide), fun M hM => ?_⟩
    have Mr := hre.ne hM
    have s1 := same_new hM (.lst [])
    have g1 : (upd H M (.lst [])) M = some (.lst []) := upd_same
    generalize upd H M (.lst []) = H1 at s1 g1 ⊢
    refine gn_go ?_
    refine kR _ _ ?_
    clear kR
    refine normS [some (.ref r), some (.ref p1), some (.ref p2), some (.ref D), some (.ref M), none, none, none, none, none, none, none, none] rfl ?_
    refine cut1 fun Rk kR => ?_
    refine ⟨_, rfl, p1, _, _, _, rfl, rfl, SqT.of (s1 _ _ hp), rfl, B, rfl, ⟨_, SqL.of (s1 _ _ hB)⟩, ?_⟩
    refine for_list (xs := vb) (fun i σ Hx => (∃ o5 o6, σ = [some (.ref r), some (.ref p1), some (.ref p2), some (.ref D), some (.ref M), o5, o6, none, none, none, none, none, none]) ∧ Rl r H Hx ∧ ∃ ms : List Int, Hx M = some (.lst (ms.map V.int)) ∧ ms.length = i) ⟨⟨none, none, rfl⟩, Rl.of hre s1, [], g1, rfl⟩ (fun i σ Hx _ z => SqL.of (z.2.1.k _ _ Br hB)) (fun i x0 σ Hx hx z => ?_) (fun σ Hx z => ?_)
    · obtain ⟨⟨o5, o6, rfl⟩, lx, ms, gM, ml⟩ := z
      have tkx := Rl.tk hre lx
      have hil : i < vb.length := (List.getElem?_eq_some_iff.mp hx).1
      obtain ⟨b, hbi, pb0, rfl, hpb⟩ := Paired.get pb hx
      have hb1 := st.bt.sz b (List.mem_of_getElem? hbi)
      have hb9 := st.bt.s9 b (List.mem_of_getElem? hbi)
      have bigp : (16 : Int) < 2 ^ 110 := by decide
      refine ⟨pb0, _, rfl, SqT.of (tkx _ _ hpb), rfl, _, _, rfl, _, _, rfl, rfl, ?_⟩
      refine normS [some (.ref r), some (.ref p1), some (.ref p2), some (.ref D), some (.ref M), some (.str b.1), some (.int b.2), none, none, none, none, none, none] rfl ?_
      refine ⟨_, rfl, .inl ⟨rfl, _, SqL.of gM⟩, _, rfl, _, rfl, r, b.2, rfl, lx.rl, by omega, by omega, fun k Hk k0 k1 lk => ?_⟩
      have lxk := lx.trans lk
      have tkk := Rl.tk hre lxk
      refine ⟨_, rfl, _, rfl, p1, _, _, _, rfl, rfl, SqT.of (tkk _ _ hp), rfl, I, _, rfl, .inl (SqL.of (lxk.k _ _ Ir hI)), rfl, flat_strs ins, .inr ⟨_, rfl, _, _, rfl, rfl, ?_⟩⟩
      have gMk := lk.k _ _ Mr gM
      refine ⟨.inl ⟨Int.lt_of_lt_of_le (by decide) k0, Int.lt_of_lt_of_le k1 (Int.le_trans hb9 (by decide))⟩, M, _, _, rfl, rfl, gMk, small1000 (by rw [List.length_map]; omega), ⟨_, _, rfl⟩, Rl.put lxk Mr hM, ms ++ [_], by rw [upd_same, List.map_append]; rfl, by rw [List.length_append, ml]; rfl⟩
    obtain ⟨⟨o5, o6, rfl⟩, lx, ms, gM, ml⟩ := z
    rw [vbl] at ml
    have stx := st.rl hre lx
    refine kR _ _ ?_
    clear kR
    refine cut1 fun Rk kR => ?_
    refine ⟨_, rfl, M, _, rfl, (.inl (.inl gM)), fun a0 ha0 => ?_⟩
    have s2 := same_new ha0 (.tup (ms.map V.int))
    have g2 : (upd Hx a0 (.tup (ms.map V.int))) a0 = some (.tup (ms.map V.int)) := upd_same
    generalize upd Hx a0 (.tup (ms.map V.int)) = H2 at s2 g2 ⊢
    refine ⟨_, rfl, M, _, rfl, (.inl (.inl (s2 _ _ gM))), fun b0 hb0 => ?_⟩
    have s3 := same_new hb0 (.tup (ms.map V.int))
    have g3 : (upd H2 b0 (.tup (ms.map V.int))) b0 = some (.tup (ms.map V.int)) := upd_same
    generalize upd H2 b0 (.tup (ms.map V.int)) = H3 at s3 g3 ⊢
    refine ⟨(by show 4 ≤ sizeLine; decide), fun pl hpl => ?_⟩
    have s4 := same_new hpl (.tup [.int 0, .int 0, .ref a0, .ref b0])
    have g4 : (upd H3 pl (.tup [.int 0, .int 0, .ref a0, .ref b0])) pl = some (.tup [.int 0, .int 0, .ref a0, .ref b0]) := upd_same
    generalize upd H3 pl (.tup [.int 0, .int 0, .ref a0, .ref b0]) = H4 at s4 g4 ⊢
    have sx4 := same_trans s2 (same_trans s3 s4)
    refine gn_go ?_
    refine kR _ _ ?_
    clear kR
    refine normS [some (.ref r), some (.ref p1), some (.ref p2), some (.ref D), some (.ref M), o5, o6, some (.ref pl), none, none, none, none, none] rfl ?_
    refine cut1 fun Rk kR => ?_
    have st4 := stx.same sx4
    have l4 := lx.trans (Rl.of lx.rl sx4)
    obtain ⟨f0, hf0, f01, f02⟩ := st.sim.zero
    refine ⟨40, rfl, by decide, by decide, ?_⟩
    refine for_range (lo := 0) (n := 40) (fun i σ Hy => (∃ (pl a b : Addr) (p p' : Int) (ws : List Int) (o8 o9 o10 o11 o12 : Option V), σ = [some (.ref r), some (.ref p1), some (.ref p2), some (.ref D), some (.ref M), o5, o6, some (.ref pl), o8, o9, o10, o11, o12] ∧ Hy pl = some (.tup [.int p, .int p', .ref a, .ref b]) ∧ Hy a = some (.tup (ws.map V.int)) ∧ Hy b = some (.tup (ws.map V.int)) ∧ bs.length = ws.length ∧ ∃ f ∈ lv, f.1 = p ∧ f.2.1 = p') ∧ Same H4 Hy) ⟨⟨pl, a0, b0, 0, 0, ms, _, _, _, _, _, rfl, g4, s4 _ _ (s3 _ _ g2), s4 _ _ g3, by omega, f0, hf0, f01, f02⟩, same_refl _⟩ ?_ ?_
    · rintro i σ Hy hi ⟨⟨pl, a, b, p, p', ws, o8, o9, o10, o11, o12, rfl, gp, ga, gb, wl, e0, he0, ee1, ee2⟩, sy⟩
      have sty := st4.same sy
      obtain ⟨n1, n2, a1, ls, ep, ep', ha1, hb1, eh, lls, sl⟩ := st.sim.hat e0 he0
      rw [ee1] at ep
      rw [ee2] at ep'
      subst ep ep'
      have na := st.nt a1 (List.mem_of_getElem? ha1)
      refine gn_go ?_
      refine normS [some (.ref r), some (.ref p1), some (.ref p2), some (.ref D), some (.ref M), o5, o6, some (.ref pl), some (.int (0 + (i : Int))), o9, o10, o11, o12] rfl ?_
      refine cut1 fun Rk kR => ?_
      refine ⟨_, rfl, _, rfl, _, rfl, pl, _, _, _, rfl, rfl, SqT.of gp, rfl, _, rfl, pl, _, _, _, rfl, rfl, SqT.of gp, rfl, p1, p2, a, b, bs, ws, ws, rfl, sty.g1.bx, sty.g2.bx, ga, gb, wl, wl, st.bt.l4, st.bt.nd, fun D2 H5 s5 nD2 kn => ?_⟩
      refine gn_go ?_
      refine kR _ _ ?_
      clear kR
      refine normS [some (.ref r), some (.ref p1), some (.ref p2), some (.ref D), some (.ref M), o5, o6, some (.ref pl), some (.int (0 + (i : Int))), some (.ref D2), o10, o11, o12] rfl ?_
      refine cut1 fun Rk kR => ?_
      have st5 := sty.same s5
      have gp5 := s5 _ _ gp
      have hh : se.holds (W2 bs ws ws) = true := by rw [st.cn.iff ws ws wl wl]; exact decide_eq_true rfl
      refine ⟨_, rfl, _, rfl, pl, _, _, _, rfl, rfl, SqT.of gp5, rfl, _, rfl, pl, _, _, _, rfl, rfl, SqT.of gp5, rfl, _, rfl, D, D2, _, _, sm, se, lv, bs, _, rfl, st5.th, st.l9, st5.cn, kn, fun _ x6 e6 H6 s6 he6 e61 e62 le6 => ?_, fun z => ?_⟩
      rotate_left
      · rcases z with z | z
        · rw [hh] at z
          cases z
        · exact (z e0 he0 ee1 ee2).elim
      have st6 := st5.same s6
      have le6' := le6
      obtain ⟨pe, rfl, hpe⟩ := le6
      refine gn_go ?_
      refine kR _ _ ?_
      clear kR
      refine normS [some (.ref r), some (.ref p1), some (.ref p2), some (.ref D), some (.ref M), o5, o6, some (.ref pl), some (.int (0 + (i : Int))), some (.ref D2), some (.ref pe), o11, o12] rfl ?_
      refine cut1 fun Rk kR => ?_
      refine ⟨_, rfl, rfl, _, rfl, ?_⟩
      rw [V.ref_non]
      refine iteF (kR _ _ ?_)
      clear kR
      refine cut1 fun Rk kR => ?_
      have s56 := same_trans s5 s6
      have gp6 := s6 _ _ gp5
      refine ⟨_, rfl, _, rfl, _, rfl, _, rfl, _, rfl, pl, _, _, _, rfl, rfl, SqT.of gp6, rfl, _, rfl, pl, _, _, _, rfl, rfl, SqT.of gp6, rfl, _, rfl, p1, p2, D, a, b, D2, .ref pe, sm, se, bs, nds, nds', lv, e6, ws, _, rfl, st6, he6, le6', s56 _ _ ga, s56 _ _ gb, wl, kn.same s6, fun H7 s7 => ⟨_, rfl, iteF' rfl (kR _ _ ?_)⟩⟩
      clear kR
      refine cut1 fun Rk kR => ?_
      have st7 := st6.same s7
      have s57 := same_trans s56 s7
      have gp7 := s7 _ _ gp6
      have hpe7 := s7 _ _ hpe
      obtain ⟨m1, m2, a6, ls6, ep6, ep6', ha6, hb6, eh6, lls6, sl6⟩ := st.sim.hat e6 he6
      have em1 : m1 = n1 := by omega
      have em2 : m2 = n2 := by omega
      subst em1 em2
      have na6 := st.nt a6 (List.mem_of_getElem? ha6)
      generalize hwho : (if e6.2.2 = "end" then "end" else "both" : Str) = who at hpe7
      by_cases he : a6.hd = "end"
      · have ea : stepN bs ws a6 = none ∧ stepN bs ws (a6.led ls6) = none := by
          cases a6 with
          | fin => exact ⟨rfl, rfl⟩
          | put _ _ _ => exact absurd (show ("put" : Str) = "end" from he) (by decide)
          | say _ _ => exact absurd (show ("say" : Str) = "end" from he) (by decide)
          | test _ _ _ => exact absurd (show ("test" : Str) = "end" from he) (by decide)
          | pick _ _ => exact absurd (show ("pick" : Str) = "end" from he) (by decide)
        rw [eh6, if_pos he] at hwho
        subst hwho
        refine ⟨_, rfl, _, rfl, pl, _, _, _, rfl, rfl, SqT.of gp7, rfl, _, rfl, pl, _, _, _, rfl, rfl, SqT.of gp7, rfl, p1, a, m1, bs, nds, ws, a6, rfl, st7.g1, ha6, na6, s57 _ _ ga, wl, st.bt, fun _ H8 s8 => ?_, fun _ _ _ z => by rw [ea.1] at z; cases z⟩
        refine gn_go ?_
        refine kR _ _ ?_
        clear kR
        refine normS [some (.ref r), some (.ref p1), some (.ref p2), some (.ref D), some (.ref M), o5, o6, some (.ref pl), some (.int (0 + (i : Int))), some (.ref D2), some (.ref pe), some .non, o12] rfl ?_
        refine cut1 fun Rk kR => ?_
        refine ⟨_, rfl, _, rfl, pl, _, _, _, rfl, rfl, SqT.of (s8 _ _ gp7), rfl, _, rfl, pl, _, _, _, rfl, rfl, SqT.of (s8 _ _ gp7), rfl, p2, b, m2, bs, nds', ws, a6.led ls6, rfl, st7.g2.same s8, hb6, na6.led ls6, s8 _ _ (s57 _ _ gb), wl, st.bt, fun _ H9 s9 => ?_, fun _ _ _ z => by rw [ea.2] at z; cases z⟩
        refine gn_go ?_
        refine kR _ _ ?_
        clear kR
        refine normS [some (.ref r), some (.ref p1), some (.ref p2), some (.ref D), some (.ref M), o5, o6, some (.ref pl), some (.int (0 + (i : Int))), some (.ref D2), some (.ref pe), some .non, some .non] rfl ?_
        refine cut1 fun Rk kR => ?_
        have s89 := same_trans s8 s9
        refine ⟨_, rfl, pe, _, _, _, rfl, rfl, SqT.of (s89 _ _ hpe7), rfl, rfl, _, rfl, iteT' (by decide) ?_⟩
        exact q _ (l4.trans (Rl.of l4.rl (same_trans sy (same_trans s57 s89))))
      · obtain ⟨sd, n, n', ws', hs1, hs2, nn, sd1⟩ := step_led (bs := bs) (ws := ws) (P := fun l l' => ∃ f ∈ lv, f.1 = l ∧ f.2.1 = l') a6 ls6 lls6 sl6 he
        rw [eh6, if_neg he] at hwho
        subst hwho
        have wl' := step_len wl hs1
        refine ⟨_, rfl, _, rfl, pl, _, _, _, rfl, rfl, SqT.of gp7, rfl, _, rfl, pl, _, _, _, rfl, rfl, SqT.of gp7, rfl, p1, a, m1, bs, nds, ws, a6, rfl, st7.g1, ha6, na6, s57 _ _ ga, wl, st.bt, (fun z => by rw [hs1] at z; cases z), fun s0 n0 w0 z r1 l1 l2 H8 s8 gr gl1 gl2 => ?_⟩
        rw [hs1] at z
        cases z
        refine gn_go ?_
        refine kR _ _ ?_
        clear kR
        refine normS [some (.ref r), some (.ref p1), some (.ref p2), some (.ref D), some (.ref M), o5, o6, some (.ref pl), some (.int (0 + (i : Int))), some (.ref D2), some (.ref pe), some (.ref r1), o12] rfl ?_
        refine cut1 fun Rk kR => ?_
        refine ⟨_, rfl, _, rfl, pl, _, _, _, rfl, rfl, SqT.of (s8 _ _ gp7), rfl, _, rfl, pl, _, _, _, rfl, rfl, SqT.of (s8 _ _ gp7), rfl, p2, b, m2, bs, nds', ws, a6.led ls6, rfl, st7.g2.same s8, hb6, na6.led ls6, s8 _ _ (s57 _ _ gb), wl, st.bt, (fun z => by rw [hs2] at z; cases z), fun s0 n0 w0 z r2 l3 l5 H9 s9 gr2 gl3 gl5 => ?_⟩
        rw [hs2] at z
        cases z
        refine gn_go ?_
        refine kR _ _ ?_
        clear kR
        refine normS [some (.ref r), some (.ref p1), some (.ref p2), some (.ref D), some (.ref M), o5, o6, some (.ref pl), some (.int (0 + (i : Int))), some (.ref D2), some (.ref pe), some (.ref r1), some (.ref r2)] rfl ?_
        refine cut1 fun Rk kR => ?_
        have s89 := same_trans s8 s9
        have hpe9 := s89 _ _ hpe7
        refine ⟨_, rfl, pe, _, _, _, rfl, rfl, SqT.of hpe9, rfl, rfl, _, rfl, iteF' (by decide) (kR _ _ ?_)⟩
        clear kR
        refine cut1 fun Rk kR => ?_
        refine ⟨_, rfl, pe, _, _, _, rfl, rfl, SqT.of hpe9, rfl, rfl, _, rfl, iteF' (by decide) (kR _ _ ?_)⟩
        clear kR
        refine cut1 fun Rk kR => ?_
        refine ⟨_, rfl, pe, _, _, _, rfl, rfl, SqT.of hpe9, rfl, rfl, _, rfl, iteF' (by decide) (kR _ _ ?_)⟩
        clear kR
        have gr9 := s9 _ _ gr
        refine ⟨_, rfl, r1, _, _, _, rfl, rfl, SqT.of gr9, rfl, _, rfl, r2, _, _, _, rfl, rfl, SqT.of gr2, rfl, _, rfl, r1, _, _, _, rfl, rfl, SqT.of gr9, rfl, _, rfl, r2, _, _, _, rfl, rfl, SqT.of gr2, rfl, (by show 4 ≤ sizeLine; decide), fun pl2 hpl2 => ?_⟩
        have s10 := same_new hpl2 (.tup [.int n, .int n', .ref l2, .ref l5])
        refine gn_go ?_
        exact ⟨⟨pl2, l2, l5, n, n', ws', _, _, _, _, _, rfl, upd_same, s10 _ _ (s9 _ _ gl2), s10 _ _ gl5, wl', nn⟩, same_trans sy (same_trans s57 (same_trans s89 s10))⟩
    · rintro σ Hy ⟨⟨pl, a, b, p, p', ws, o8, o9, o10, o11, o12, rfl, gp, ga, gb, wl, e0, he0, ee1, ee2⟩, sy⟩
      refine kR _ _ ?_
      exact q _ (l4.trans (Rl.of l4.rl sy))
theorem has_wa {tO : Addr} (s : Src K mg "_law_walked" sWa) (m_int : mg "int" = none) (m_tuple : mg "tuple" = none) (m_range : mg "range" = none) (TK00 : Has P w K mg base "_law_next" ["pot", "many"] 1 spNext) (BO0 : Has P w K mg base "_law_both" ["one", "other", "mine", "yours"] 2 spBo) (ST0 : Has P w K mg base "_law_step" ["program", "place", "worths"] 52 spSt) (CT0 : Has P w K mg base "_law_counting" ["there", "p", "q", "known"] 52 (spCt K tO)) (WE : Has P w K mg base "_law_well" ["one", "other", "there_are", "entry", "mine", "yours", "known"] 53 (spWe K tO)) : Has P w K mg base "_law_walked" ["pot", "one", "other", "there_are"] 54 (spWa K tO) :=
  let ⟨f, fd, F, m⟩ := s
  ⟨f, fd, ok_wa F m_int m_tuple m_range TK00 BO0 ST0 CT0 WE, F.kp, bnd4 F fun _ _ _ _ _ _ _ _ _ _ => rfl, m⟩
end
end TW
set_option Elab.async false
set_option linter.all false
set_option maxRecDepth 100000
set_option exponentiation.threshold 4000
set_option maxHeartbeats 1000000
namespace TW
open PySem L2
section
variable {P : Program} {w : World} {K : PySem.W.Frag} {mg : Str → Option Value} {base : Heap}
abbrev sLa : Stmt := top 43
/-! ### _law_looked_at -/
/-- the paper as it is told, of both programs -/
structure Pap (K : PySem.W.Frag) (tO : Addr) (H : Hp) (p1 p2 P' : Addr) (ps : List V) (sm : V) (se : E) (bs : List (Str × Int)) (nds nds' : List Np) (lv : List (Int × Int × Str)) : Prop where
  g1 : PgA H p1 bs nds
  g2 : PgA H p2 bs nds'
  nt : ∀ e ∈ nds, NpT (bs.map (·.1)) e
  hP : H P' = some (.lst ps)
  pp : Paired (fun v e => LvAt tO H v sm e) ps lv
  l9 : lv.length ≤ 900
  cn : Cnd K H sm se bs
  sim : Sims nds nds' lv
  bt : BsT bs
theorem lv_ref {tO : Addr} {H : Hp} {sm : V} (i : Int) (e : Int × Int × Str) : ¬ LvAt tO H (.int i) sm e := fun ⟨_, z, _⟩ => nomatch z
theorem Pap.rl {K : PySem.W.Frag} {tO : Addr} {H H' : Hp} {r p1 p2 P' : Addr} {ps : List V} {sm : V} {se : E} {bs : List (Str × Int)} {nds nds' : List Np} {lv : List (Int × Int × Str)} (hr : Reel H r) (l : Rl r H H') (h : Pap K tO H p1 p2 P' ps sm se bs nds nds' lv) : Pap K tO H' p1 p2 P' ps sm se bs nds nds' lv :=
  ⟨h.g1.rl hr l, h.g2.rl hr l, h.nt, l.k _ _ (ne_reel hr h.hP (paired_ne h.pp lv_ref)) h.hP, Paired.mapP h.pp fun _ _ z => LvAt.keep (Rl.tk hr l) z, h.l9, h.cn.rl hr l, h.sim, h.bt⟩
theorem Pap.sit {K : PySem.W.Frag} {tO : Addr} {H : Hp} {p1 p2 P' D : Addr} {ps : List V} {sm : V} {se : E} {bs : List (Str × Int)} {nds nds' : List Np} {lv : List (Int × Int × Str)} (h : Pap K tO H p1 p2 P' ps sm se bs nds nds' lv) (th : Ths tO H D sm lv) : Sit K tO H p1 p2 D sm se bs nds nds' lv := ⟨h.g1, h.g2, h.nt, th, h.l9, h.cn, h.sim, h.bt⟩
def spLa (K : PySem.W.Frag) (tO : Addr) : Sp := fun vs H Q _ => ∃ (r p1 p2 P' : Addr) (ps : List V) (sm : V) (se : E) (bs : List (Str × Int)) (nds nds' : List Np) (lv : List (Int × Int × Str)), vs = [.ref r, .ref p1, .ref p2, .ref P'] ∧ Reel H r ∧ Pap K tO H p1 p2 P' ps sm se bs nds nds' lv ∧ ∀ H', Rl r H H' → Q (.bl true) H'
theorem scLa : FnScope ["pot", "one", "other", "paper", "there", "turn", "entry", "mine", "yours", "known", "found"] ["pot", "one", "other", "paper"] (defScope sLa) := ⟨rfl, rfl, rfl, by decide +kernel, rfl, by decide +kernel, by decide +kernel⟩
theorem gLa_law_both : (defScope sLa).names.lookup (Str.ofString "_law_both") = some .globalImplicit := by decide +kernel
theorem gLa_law_by_places : (defScope sLa).names.lookup (Str.ofString "_law_by_places") = some .globalImplicit := by decide +kernel
theorem gLa_law_counting : (defScope sLa).names.lookup (Str.ofString "_law_counting") = some .globalImplicit := by decide +kernel
theorem gLa_law_next : (defScope sLa).names.lookup (Str.ofString "_law_next") = some .globalImplicit := by decide +kernel
theorem gLa_law_walked : (defScope sLa).names.lookup (Str.ofString "_law_walked") = some .globalImplicit := by decide +kernel
theorem gLa_law_well : (defScope sLa).names.lookup (Str.ofString "_law_well") = some .globalImplicit := by decide +kernel
theorem gLa_all : (defScope sLa).names.lookup (Str.ofString "all") = some .globalImplicit := by decide +kernel
theorem gLa_len : (defScope sLa).names.lookup (Str.ofString "len") = some .globalImplicit := by decide +kernel
theorem gLa_range : (defScope sLa).names.lookup (Str.ofString "range") = some .globalImplicit := by decide +kernel
theorem gLa_tuple : (defScope sLa).names.lookup (Str.ofString "tuple") = some .globalImplicit := by decide +kernel
theorem ok_la {tO : Addr} {f : Addr} {fd : FuncData} (F : Fun K "_law_looked_at" "_law_looked_at" sLa f fd) (m_all : mg "all" = none) (m_len : mg "len" = none) (m_tuple : mg "tuple" = none) (m_range : mg "range" = none) (TK00 : Has P w K mg base "_law_next" ["pot", "many"] 1 spNext) (BO0 : Has P w K mg base "_law_both" ["one", "other", "mine", "yours"] 2 spBo) (CT0 : Has P w K mg base "_law_counting" ["there", "p", "q", "known"] 52 (spCt K tO)) (WE0 : Has P w K mg base "_law_well" ["one", "other", "there_are", "entry", "mine", "yours", "known"] 53 (spWe K tO)) (IE0 : Has P w K mg base "_law_is_entry" ["one", "other", "entry"] 1 (spIe tO)) (BP0 : Has P w K mg base "_law_by_places" ["paper"] 1 (spBp tO)) (WA : Has P w K mg base "_law_walked" ["pot", "one", "other", "there_are"] 54 (spWa K tO)) : FnOk P w K mg base CX0 55 f fd ["pot", "one", "other", "paper"] (spLa K tO) := by
  refine F.ok scLa (fun vs H Q E h => ?_) (fun cdv A outer s H vs Q E hr h => ?_)
  · obtain ⟨r, p1, p2, P0, ps, sm, se, bs, nds, nds', lv, rfl, _⟩ := h
    rfl
  · obtain ⟨r, p1, p2, P0, ps, sm, se, bs, nds, nds', lv, rfl, hre, pap, q⟩ := h
    have TK0 := TK00.mono (show 1 ≤ 54 by omega)
    have BO := BO0.mono (show 2 ≤ 54 by omega)
    have CT := CT0.mono (show 52 ≤ 54 by omega)
    have WE := WE0.mono (show 53 ≤ 54 by omega)
    have IE := IE0.mono (show 1 ≤ 54 by omega)
    have BP := BP0.mono (show 1 ≤ 54 by omega)
    have pl := Paired.length pap.pp
    have l9 := pap.l9
    have l4 := pap.bt.l4
    refine goL ⟨_, (L3.cons (L3.ifs (L3.nt (L3.tval (L3.callB L3.c_all gLa_all m_all (by decide +kernel) (L3.k (L3.lc [none, some 1, some 2] ["entry", "one", "other"] (show CompScope _ (defScope sLa) from ⟨rfl, by decide +kernel, by decide +kernel, by decide +kernel⟩) (by rfl) (L3.iL (L3.v 3)) (fun _ _ _ _ _ => ⟨(L3.gn 0 (show (["entry", "one", "other"] : List Str).Nodup from by decide +kernel)), L3.if0, (L3.own IE hr (by rfl) (L3.k (L3.v 1) (L3.k (L3.v 2) (L3.k (L3.v 0) L3.n))))⟩)) L3.n)))) (L3.one (L3.ret L3.bl)) L3.nil)
      (L3.cons (L3.set 4 scLa.nd (L3.own BP hr gLa_law_by_places (L3.k (L3.v 3) L3.n)))
      (L3.cons (L3.ifs (L3.nt (L3.tval (L3.own WA hr gLa_law_walked (L3.k (L3.v 0) (L3.k (L3.v 1) (L3.k (L3.v 2) (L3.k (L3.v 4) L3.n))))))) (L3.one (L3.ret L3.bl)) L3.nil)
      (L3.cons (L3.for_ (L3.iR gLa_range m_range (L3.k L3.int L3.n)) (L3.gn 5 scLa.nd) (L3.cons (L3.set 6 scLa.nd (L3.ix L3.ixL (L3.v 3) (L3.own TK0 hr gLa_law_next (L3.k (L3.v 0) (L3.k (L3.callB L3.c_len gLa_len m_len PySem.boot_len (L3.k (L3.v 3) L3.n)) L3.n)))))
      (L3.cons (L3.set 7 scLa.nd (L3.callT L3.c_tuple gLa_tuple m_tuple (by decide +kernel) (L3.k (L3.lc [none, none, some 0] ["name", "size", "pot"] (show CompScope _ (defScope sLa) from ⟨rfl, by decide +kernel, by decide +kernel, by decide +kernel⟩) (by rfl) (L3.iL (L3.ix L3.ixT (L3.v 1) L3.int)) (fun _ _ _ _ _ => ⟨(L3.gtup 2 (L3.gsk (L3.gn 0 (show (["name", "size", "pot"] : List Str).Nodup from by decide +kernel)) (L3.gsk (L3.gn 1 (show (["name", "size", "pot"] : List Str).Nodup from by decide +kernel)) L3.gsn))), L3.if0, (L3.own TK0 hr (by rfl) (L3.k (L3.v 2) (L3.k (L3.v 1) L3.n)))⟩)) L3.n)))
      (L3.cons (L3.set 8 scLa.nd (L3.v 7))
      (L3.cons (L3.ifs (L3.cmp L3.o_eq (L3.own TK0 hr gLa_law_next (L3.k (L3.v 0) (L3.k L3.int L3.n))) L3.int) (L3.one (L3.set 8 scLa.nd (L3.callT L3.c_tuple gLa_tuple m_tuple (by decide +kernel) (L3.k (L3.lc [none, none, some 0] ["name", "size", "pot"] (show CompScope _ (defScope sLa) from ⟨rfl, by decide +kernel, by decide +kernel, by decide +kernel⟩) (by rfl) (L3.iL (L3.ix L3.ixT (L3.v 1) L3.int)) (fun _ _ _ _ _ => ⟨(L3.gtup 2 (L3.gsk (L3.gn 0 (show (["name", "size", "pot"] : List Str).Nodup from by decide +kernel)) (L3.gsk (L3.gn 1 (show (["name", "size", "pot"] : List Str).Nodup from by decide +kernel)) L3.gsn))), L3.if0, (L3.own TK0 hr (by rfl) (L3.k (L3.v 2) (L3.k (L3.v 1) L3.n)))⟩)) L3.n)))) L3.nil)
      (L3.cons (L3.set 9 scLa.nd (L3.own BO hr gLa_law_both (L3.k (L3.v 1) (L3.k (L3.v 2) (L3.k (L3.v 7) (L3.k (L3.v 8) L3.n))))))
      (L3.cons (L3.set 10 scLa.nd (L3.own CT hr gLa_law_counting (L3.k (L3.v 4) (L3.k (L3.ix L3.ixT (L3.v 6) L3.int) (L3.k (L3.ix L3.ixT (L3.v 6) L3.int) (L3.k (L3.v 9) L3.n))))))
      (L3.one (L3.ifs (L3.cmp L3.o_notN (L3.v 10) L3.non) (L3.one (L3.ifs (L3.nt (L3.tval (L3.own WE hr gLa_law_well (L3.k (L3.v 1) (L3.k (L3.v 2) (L3.k (L3.v 4) (L3.k (L3.v 10) (L3.k (L3.v 7) (L3.k (L3.v 8) (L3.k (L3.v 9) L3.n)))))))))) (L3.one (L3.ret L3.bl)) L3.nil)) L3.nil)))))))))
      (L3.one (L3.ret L3.bl)))))), ?_⟩
    refine cut1 fun Rk kR => ?_
    refine ⟨_, rfl, P0, rfl, ⟨_, SqL.of pap.hP⟩, fun C hC => ?_⟩
    refine comp_list (xs := ps) (fun (i : Nat) Hx => Same H Hx ∧ ∃ ks : List Bool, ks.length = i ∧ ks.all id = true ∧ Hx C = some (.lst (ks.map V.bl))) ⟨same_new hC _, [], rfl, rfl, upd_same⟩ (fun i Hx _ z => SqL.of (z.1 _ _ pap.hP)) (fun i x0 Hx hx z => ?_) (fun Hx z => ?_)
    · obtain ⟨sx, ks, kl, ka, gC⟩ := z
      have hil : i < ps.length := (List.getElem?_eq_some_iff.mp hx).1
      obtain ⟨e, he, le⟩ := Paired.get pap.pp hx
      obtain ⟨B, I, N, vb, vn, ins, hp, hB, pb, hN, pn, hI⟩ := (pap.g1.same sx).ex
      obtain ⟨B2, I2, N2, vb2, vn2, ins2, hp2, hB2, pb2, hN2, pn2, hI2⟩ := (pap.g2.same sx).ex
      obtain ⟨n1, n2, a1, ls, ep, ep', ha1, hb1, eh, lls, sl⟩ := pap.sim.hat e (List.mem_of_getElem? he)
      have q1 := (List.getElem?_eq_some_iff.mp ha1).1
      have q2 := (List.getElem?_eq_some_iff.mp hb1).1
      have v1 := Paired.length pn
      have v2 := Paired.length pn2
      refine gn_go ?_
      refine turn0 (A := fun H5 => mApp _ C _ H5 _) ?_
      refine ⟨_, rfl, _, rfl, _, rfl, p1, p2, B, I, N, B2, I2, N2, x0, sm, vn, vn2, e, rfl, hp, hp2, hN, hN2, LvAt.keep (Same.tk sx) le, by omega, by omega, by omega, by omega, fun H5 s5 => ?_⟩
      exact ⟨_, s5 _ _ gC, small1000 (by rw [List.length_map]; omega), comp_end (Pv := fun (i : Nat) Hx => Same H Hx ∧ ∃ ks : List Bool, ks.length = i ∧ ks.all id = true ∧ Hx C = some (.lst (ks.map V.bl))) (by repeat' constructor) hil ⟨same_put (same_trans sx s5) hC, ks ++ [true], by rw [List.length_append, kl]; rfl, by rw [List.all_append, ka]; rfl, by rw [upd_same, List.map_append]; rfl⟩⟩
    obtain ⟨sx, ks, kl, ka, gC⟩ := z
    refine ⟨C, ks, rfl, SqL.of gC, _, rfl, iteF' (by rw [ka]; rfl) (kR _ _ ?_)⟩
    clear kR
    refine cut1 fun Rk kR => ?_
    have lx := Rl.of hre sx
    have papx := pap.rl hre lx
    refine ⟨_, rfl, P0, ps, sm, lv, rfl, papx.hP, papx.pp, l9, fun D H2 s2 nD th => ?_⟩
    refine gn_go ?_
    refine kR _ _ ?_
    clear kR
    refine normS [some (.ref r), some (.ref p1), some (.ref p2), some (.ref P0), some (.ref D), none, none, none, none, none, none] rfl ?_
    refine cut1 fun Rk kR => ?_
    have l2 := lx.trans (Rl.of lx.rl s2)
    have pap2 := pap.rl hre l2
    refine ⟨_, rfl, _, rfl, _, rfl, _, rfl, r, p1, p2, D, sm, se, bs, nds, nds', lv, rfl, l2.rl, pap2.sit th, fun H3 l3 => ⟨_, rfl, iteF' rfl (kR _ _ ?_)⟩⟩
    clear kR
    refine cut1 fun Rk kR => ?_
    have lH3 := l2.trans l3
    have pap3 := pap.rl hre lH3
    have th3 := th.rl l2.rl l3
    refine ⟨8, rfl, by decide, by decide, ?_⟩
    refine for_range (lo := 0) (n := 8) (fun i σ Hy => (∃ o5 o6 o7 o8 o9 o10, σ = [some (.ref r), some (.ref p1), some (.ref p2), some (.ref P0), some (.ref D), o5, o6, o7, o8, o9, o10]) ∧ Rl r H3 Hy) ⟨⟨_, _, _, _, _, _, rfl⟩, Rl.refl lH3.rl⟩ ?_ ?_
    · rintro i σ Hy hi ⟨⟨o5, o6, o7, o8, o9, o10, rfl⟩, ly⟩
      have lHy := lH3.trans ly
      have papy := pap.rl hre lHy
      have pos : 1 ≤ ps.length := by
        obtain ⟨f0, hf0, _⟩ := pap.sim.zero
        have := List.length_pos_of_mem hf0
        omega
      have bigp : (900 : Int) < 2 ^ 110 := by decide
      refine gn_go ?_
      refine normS [some (.ref r), some (.ref p1), some (.ref p2), some (.ref P0), some (.ref D), some (.int (0 + (i : Int))), o6, o7, o8, o9, o10] rfl ?_
      refine cut1 fun Rk kR => ?_
      refine ⟨_, rfl, _, rfl, _, rfl, P0, _, rfl, .inl (SqL.of papy.hP), r, (ps.length : Int), rfl, lHy.rl, by omega, by omega, fun k Hk k0 k1 lk => ?_⟩
      have lHk := lHy.trans lk
      have papk := pap.rl hre lHk
      obtain ⟨x0, hx0⟩ : ∃ x0, ps[k.toNat]? = some x0 := ⟨ps[k.toNat]'(by omega), List.getElem?_eq_getElem (by omega)⟩
      have hat : atI ps k = some x0 := by
        have := atI_nat hx0
        rw [Int.toNat_of_nonneg k0] at this
        exact this
      obtain ⟨e, he, le⟩ := Paired.get papk.pp hx0
      obtain ⟨pe, rfl, hpe⟩ := le
      refine ⟨P0, _, _, _, rfl, rfl, SqL.of papk.hP, hat, ?_⟩
      refine gn_go ?_
      refine kR _ _ ?_
      clear kR
      refine normS [some (.ref r), some (.ref p1), some (.ref p2), some (.ref P0), some (.ref D), some (.int (0 + (i : Int))), some (.ref pe), o7, o8, o9, o10] rfl ?_
      refine cut1 fun Rk kR => ?_
      obtain ⟨B, I, N, vb, vn, ins, hp, hB, pb, hN, pn, hI⟩ := papk.g1.ex
      have vbl := Paired.length pb
      have Br := ne_reel lHk.rl hB (paired_ne pb fun _ _ ⟨_, z, _⟩ => nomatch z)
      refine ⟨_, rfl, p1, _, _, _, rfl, rfl, SqT.of hp, rfl, B, rfl, ⟨_, SqL.of hB⟩, fun C1 hC1 => ?_⟩
      have C1r := lHk.rl.ne hC1
      refine comp_list (xs := vb) (fun (k : Nat) Hz => Rl r Hk Hz ∧ ∃ zs : List Int, Hz C1 = some (.lst (zs.map V.int)) ∧ zs.length = k) ⟨Rl.new lHk.rl hC1, [], upd_same, rfl⟩ (fun k Hz _ z => SqL.of (z.1.k _ _ Br hB)) (fun k x0 Hz hx z => ?_) (fun Hz z => ?_)
      · obtain ⟨lz, zs, gC, zl⟩ := z
        have hkl : k < vb.length := (List.getElem?_eq_some_iff.mp hx).1
        obtain ⟨b, hbi, pb0, rfl, hpb⟩ := Paired.get pb hx
        have hb1 := pap.bt.sz b (List.mem_of_getElem? hbi)
        have hb9 := pap.bt.s9 b (List.mem_of_getElem? hbi)
        have bigp : (16 : Int) < 2 ^ 110 := by decide
        refine ⟨pb0, _, rfl, SqT.of (Rl.tk lHk.rl lz _ _ hpb), rfl, _, _, rfl, _, _, rfl, rfl, ?_⟩
        refine turn0 (A := fun H5 => mApp _ C1 _ H5 _) ?_
        refine ⟨_, rfl, _, rfl, r, b.2, rfl, lz.rl, by omega, by omega, fun v Hv v0 v1 lv0 => ?_⟩
        have gCv := lv0.k _ _ C1r gC
        exact ⟨_, gCv, small1000 (by rw [List.length_map]; omega), comp_end (Pv := fun (k : Nat) Hz => Rl r Hk Hz ∧ ∃ zs : List Int, Hz C1 = some (.lst (zs.map V.int)) ∧ zs.length = k) (by repeat' constructor) hkl ⟨Rl.put (lz.trans lv0) C1r hC1, zs ++ [v], by rw [upd_same, List.map_append]; rfl, by rw [List.length_append, zl]; rfl⟩⟩
      obtain ⟨lm1, ms, gC, msl⟩ := z
      refine ⟨C1, _, rfl, (.inl (.inl gC)), fun a0 ha0 => ?_⟩
      have sa0 := same_new ha0 (.tup (ms.map V.int))
      have ga0 : (upd Hz a0 (.tup (ms.map V.int))) a0 = some (.tup (ms.map V.int)) := upd_same
      generalize upd Hz a0 (.tup (ms.map V.int)) = Hm at sa0 ga0 ⊢
      have lm := lm1.trans (Rl.of lm1.rl sa0)
      refine gn_go ?_
      refine kR _ _ ?_
      clear kR
      refine normS [some (.ref r), some (.ref p1), some (.ref p2), some (.ref P0), some (.ref D), some (.int (0 + (i : Int))), some (.ref pe), some (.ref a0), o8, o9, o10] rfl ?_
      refine cut1 fun Rk kR => ?_
      refine ⟨_, rfl, ?_⟩
      refine gn_go ?_
      refine kR _ _ ?_
      clear kR
      refine normS [some (.ref r), some (.ref p1), some (.ref p2), some (.ref P0), some (.ref D), some (.int (0 + (i : Int))), some (.ref pe), some (.ref a0), some (.ref a0), o9, o10] rfl ?_
      refine cut1 fun Rk kR => ?_
      have lHm := lHk.trans lm
      rw [vbl] at msl
      have fin : ∀ (b0 : Addr) (ys : List Int) (Hq : Hp), Rl r Hm Hq → Hq b0 = some (.tup (ys.map V.int)) → ys.length = bs.length → Rk [some (.ref r), some (.ref p1), some (.ref p2), some (.ref P0), some (.ref D), some (.int (0 + (i : Int))), some (.ref pe), some (.ref a0), some (.ref b0), o9, o10] Hq := fun b0 ys Hq lq gb0 yl => by
        have lHq := lHm.trans lq
        have papq := pap.rl hre lHq
        have ga0q := Rl.tk lHm.rl lq _ _ ga0
        have hpeq := Rl.tk lHk.rl (lm.trans lq) _ _ hpe
        have thq := th3.rl lH3.rl (ly.trans (lk.trans (lm.trans lq)))
        refine kR _ _ ?_
        clear kR
        refine cut1 fun Rk kR => ?_
        refine ⟨_, rfl, _, rfl, _, rfl, _, rfl, p1, p2, a0, b0, bs, ms, ys, rfl, papq.g1.bx, papq.g2.bx, ga0q, gb0, msl.symm, yl.symm, l4, pap.bt.nd, fun D2 H5 s5 nD2 kn => ?_⟩
        refine gn_go ?_
        refine kR _ _ ?_
        clear kR
        refine normS [some (.ref r), some (.ref p1), some (.ref p2), some (.ref P0), some (.ref D), some (.int (0 + (i : Int))), some (.ref pe), some (.ref a0), some (.ref b0), some (.ref D2), o10] rfl ?_
        refine cut1 fun Rk kR => ?_
        have st5 := (papq.sit thq).same s5
        have hpe5 := s5 _ _ hpeq
        have l5 := ly.trans (lk.trans (lm.trans (lq.trans (Rl.of lHq.rl s5))))
        refine ⟨_, rfl, _, rfl, pe, _, _, _, rfl, rfl, SqT.of hpe5, rfl, _, rfl, pe, _, _, _, rfl, rfl, SqT.of hpe5, rfl, _, rfl, D, D2, _, _, sm, se, lv, bs, _, rfl, st5.th, l9, st5.cn, kn, fun hh x6 e6 H6 s6 he6 e61 e62 le6 => ?_, fun z H6 s6 => ?_⟩
        · have le6' := le6
          obtain ⟨pe6, rfl, hpe6⟩ := le6
          have my : ms = ys := by
            rw [pap.cn.iff ms ys msl.symm yl.symm] at hh
            exact of_decide_eq_true hh
          subst my
          refine gn_go ?_
          refine kR _ _ ?_
          refine normS [some (.ref r), some (.ref p1), some (.ref p2), some (.ref P0), some (.ref D), some (.int (0 + (i : Int))), some (.ref pe), some (.ref a0), some (.ref b0), some (.ref D2), some (.ref pe6)] rfl ?_
          refine ⟨_, rfl, rfl, _, rfl, ?_⟩
          rw [V.ref_non]
          refine iteT ?_
          have s56 := same_trans s5 s6
          refine ⟨_, rfl, _, rfl, _, rfl, _, rfl, _, rfl, _, rfl, _, rfl, p1, p2, D, a0, b0, D2, .ref pe6, sm, se, bs, nds, nds', lv, e6, ms, _, rfl, st5.same s6, he6, le6', s56 _ _ ga0q, s56 _ _ gb0, msl.symm, kn.same s6, fun H7 s7 => ⟨_, rfl, iteF' rfl ?_⟩⟩
          exact ⟨⟨_, _, _, _, _, _, rfl⟩, l5.trans (Rl.of l5.rl (same_trans s6 s7))⟩
        · refine gn_go ?_
          refine kR _ _ ?_
          refine ⟨_, rfl, rfl, _, rfl, iteF' (by decide) ?_⟩
          exact ⟨⟨_, _, _, _, _, _, rfl⟩, l5.trans (Rl.of l5.rl s6)⟩
      refine ⟨_, rfl, r, 2, rfl, lHm.rl, by decide, by decide, fun k2 Hw k20 k21 lw => ⟨rfl, _, rfl, ?_⟩⟩
      refine ite2 (fun c => ?_) (fun c => ?_)
      · have lHw := lHm.trans lw
        have papw := pap.rl hre lHw
        clear hp hB pb hN pn hI vbl Br kR
        obtain ⟨B, I, N, vb, vn, ins, hp, hB, pb, hN, pn, hI⟩ := papw.g1.ex
        have vbl := Paired.length pb
        have Br := ne_reel lHw.rl hB (paired_ne pb fun _ _ ⟨_, z, _⟩ => nomatch z)
        refine ⟨_, rfl, p1, _, _, _, rfl, rfl, SqT.of hp, rfl, B, rfl, ⟨_, SqL.of hB⟩, fun C2 hC2 => ?_⟩
        have C2r := lHw.rl.ne hC2
        refine comp_list (xs := vb) (fun (k : Nat) Hz => Rl r Hw Hz ∧ ∃ zs : List Int, Hz C2 = some (.lst (zs.map V.int)) ∧ zs.length = k) ⟨Rl.new lHw.rl hC2, [], upd_same, rfl⟩ (fun k Hz _ z => SqL.of (z.1.k _ _ Br hB)) (fun k x0 Hz hx z => ?_) (fun Hz z => ?_)
        · obtain ⟨lz, zs, gC, zl⟩ := z
          have hkl : k < vb.length := (List.getElem?_eq_some_iff.mp hx).1
          obtain ⟨b, hbi, pb0, rfl, hpb⟩ := Paired.get pb hx
          have hb1 := pap.bt.sz b (List.mem_of_getElem? hbi)
          have hb9 := pap.bt.s9 b (List.mem_of_getElem? hbi)
          have bigp : (16 : Int) < 2 ^ 110 := by decide
          refine ⟨pb0, _, rfl, SqT.of (Rl.tk lHw.rl lz _ _ hpb), rfl, _, _, rfl, _, _, rfl, rfl, ?_⟩
          refine turn0 (A := fun H5 => mApp _ C2 _ H5 _) ?_
          refine ⟨_, rfl, _, rfl, r, b.2, rfl, lz.rl, by omega, by omega, fun v Hv v0 v1 lv0 => ?_⟩
          have gCv := lv0.k _ _ C2r gC
          exact ⟨_, gCv, small1000 (by rw [List.length_map]; omega), comp_end (Pv := fun (k : Nat) Hz => Rl r Hw Hz ∧ ∃ zs : List Int, Hz C2 = some (.lst (zs.map V.int)) ∧ zs.length = k) (by repeat' constructor) hkl ⟨Rl.put (lz.trans lv0) C2r hC2, zs ++ [v], by rw [upd_same, List.map_append]; rfl, by rw [List.length_append, zl]; rfl⟩⟩
        obtain ⟨ln1, ys, gC, msl⟩ := z
        refine ⟨C2, _, rfl, (.inl (.inl gC)), fun b0 hb0 => ?_⟩
        have sb0 := same_new hb0 (.tup (ys.map V.int))
        have gb0 : (upd Hz b0 (.tup (ys.map V.int))) b0 = some (.tup (ys.map V.int)) := upd_same
        generalize upd Hz b0 (.tup (ys.map V.int)) = Hn at sb0 gb0 ⊢
        have ln := ln1.trans (Rl.of ln1.rl sb0)
        refine gn_go ?_
        rw [vbl] at msl
        exact fin b0 ys _ (lw.trans ln) gb0 msl
      · exact fin a0 ms _ lw (Rl.tk lHm.rl lw _ _ ga0) msl
    · rintro σ Hy ⟨⟨o5, o6, o7, o8, o9, o10, rfl⟩, ly⟩
      refine kR _ _ ?_
      exact q _ (lH3.trans ly)
theorem has_la {tO : Addr} (s : Src K mg "_law_looked_at" sLa) (m_all : mg "all" = none) (m_len : mg "len" = none) (m_tuple : mg "tuple" = none) (m_range : mg "range" = none) (TK00 : Has P w K mg base "_law_next" ["pot", "many"] 1 spNext) (BO0 : Has P w K mg base "_law_both" ["one", "other", "mine", "yours"] 2 spBo) (CT0 : Has P w K mg base "_law_counting" ["there", "p", "q", "known"] 52 (spCt K tO)) (WE0 : Has P w K mg base "_law_well" ["one", "other", "there_are", "entry", "mine", "yours", "known"] 53 (spWe K tO)) (IE0 : Has P w K mg base "_law_is_entry" ["one", "other", "entry"] 1 (spIe tO)) (BP0 : Has P w K mg base "_law_by_places" ["paper"] 1 (spBp tO)) (WA : Has P w K mg base "_law_walked" ["pot", "one", "other", "there_are"] 54 (spWa K tO)) : Has P w K mg base "_law_looked_at" ["pot", "one", "other", "paper"] 55 (spLa K tO) :=
  let ⟨f, fd, F, m⟩ := s
  ⟨f, fd, ok_la F m_all m_len m_tuple m_range TK00 BO0 CT0 WE0 IE0 BP0 WA, F.kp, bnd4 F fun _ _ _ _ _ _ _ _ _ _ => rfl, m⟩
end
end TW
set_option Elab.async false
set_option linter.all false
set_option maxRecDepth 100000
set_option exponentiation.threshold 4000
set_option maxHeartbeats 1000000
namespace TW
open PySem L2
section
variable {P : Program} {w : World} {K : PySem.W.Frag} {mg : Str → Option Value} {base : Heap}
/-! ### what split_node tells -/
theorem split_sims {nds : List Np} {nd : Nat} {a : Np} {named : List Int} {ns : List Str} (hn : ∀ e ∈ nds, NpOk ns (nds.length : Int) e) (hnd : nds[nd]? = some a) : Sims nds (spS nds nd a named) (spV nds nd a) := by
  have inl : ∀ l : Int, 0 ≤ l → l < (nds.length : Int) → ∃ f ∈ spV nds nd a, f.1 = l ∧ f.2.1 = l := fun l l0 l1 => by
    have hl : l.toNat < nds.length := by omega
    refine ⟨((l.toNat : Int), (l.toNat : Int), (nds[l.toNat]).hd), List.mem_append.mpr (.inl (List.mem_mapIdx.mpr ⟨l.toNat, hl, rfl⟩)), ?_, ?_⟩
    · show ((l.toNat : Nat) : Int) = l
      omega
    · show ((l.toNat : Nat) : Int) = l
      omega
  have last : ∃ f ∈ spV nds nd a, f.1 = (nd : Int) ∧ f.2.1 = (nds.length : Int) := ⟨_, List.mem_append.mpr (.inr (List.mem_singleton.mpr rfl)), rfl, rfl⟩
  have key : ∀ (b : Np) (x : Int), NpOk ns (nds.length : Int) b → ((if x ∈ named then b.leads.map (spL (nds.length : Int) (nd : Int)) else b.leads).length = b.leads.length) ∧ ∀ (i : Nat) (l l' : Int), b.leads[i]? = some l → (if x ∈ named then b.leads.map (spL (nds.length : Int) (nd : Int)) else b.leads)[i]? = some l' → ∃ f ∈ spV nds nd a, f.1 = l ∧ f.2.1 = l' := fun b x ok => by
    by_cases hx : x ∈ named
    · rw [if_pos hx]
      refine ⟨List.length_map _, fun i l l' h1 h2 => ?_⟩
      rw [List.getElem?_map, h1] at h2
      cases h2
      have lb := ok.ld l (List.mem_of_getElem? h1)
      show ∃ f ∈ spV nds nd a, f.1 = l ∧ f.2.1 = if l = (nd : Int) then (nds.length : Int) else l
      by_cases e : l = (nd : Int)
      · rw [if_pos e, e]
        exact last
      · rw [if_neg e]
        exact inl l lb.1 lb.2
    · rw [if_neg hx]
      refine ⟨rfl, fun i l l' h1 h2 => ?_⟩
      rw [h1] at h2
      cases h2
      have lb := ok.ld l (List.mem_of_getElem? h1)
      exact inl l lb.1 lb.2
  have get : ∀ (j : Nat) (b : Np), (nds ++ [a])[j]? = some b → (spS nds nd a named)[j]? = some (b.led (if spAt nds.length nd j ∈ named then b.leads.map (spL (nds.length : Int) (nd : Int)) else b.leads)) := fun j b h => by
    unfold spS
    rw [List.getElem?_mapIdx, h]
    rfl
  have n1 : nd < nds.length := (List.getElem?_eq_some_iff.mp hnd).1
  refine ⟨fun e he => ?_, inl 0 (by omega) (by omega)⟩
  rcases List.mem_append.mp he with z | z
  · obtain ⟨j, hj, rfl⟩ := List.mem_mapIdx.mp z
    have k := key nds[j] (spAt nds.length nd j) (hn _ (List.getElem_mem hj))
    exact ⟨j, j, nds[j], _, rfl, rfl, List.getElem?_eq_getElem hj, get j nds[j] (by rw [List.getElem?_append_left hj]; exact List.getElem?_eq_getElem hj), rfl, k.1, k.2⟩
  · rw [List.mem_singleton.mp z]
    have k := key a (spAt nds.length nd nds.length) (hn _ (List.mem_of_getElem? hnd))
    exact ⟨nd, nds.length, a, _, rfl, rfl, hnd, get nds.length a (by rw [List.getElem?_append_right (Nat.le_refl _), Nat.sub_self]; rfl), rfl, k.1, k.2⟩
/-! ### the condition that both are the same -/
theorem Bt.isC {e : E} {es : List E} (h : Bt e es) (hc : ∀ x ∈ es, x.isC) : e.isC := by
  induction h with
  | one e => exact hc e (List.mem_singleton.mpr rfl)
  | two a b ia ib => exact ⟨ia fun x hx => hc x (List.mem_append.mpr (.inl hx)), ib fun x hx => hc x (List.mem_append.mpr (.inr hx))⟩
theorem Bt.okIn {R : Str → Str → Prop} {e : E} {es : List E} (h : Bt e es) (hc : ∀ x ∈ es, x.okIn R) : e.okIn R := by
  induction h with
  | one e => exact hc e (List.mem_singleton.mpr rfl)
  | two a b ia ib => exact ⟨ia fun x hx => hc x (List.mem_append.mpr (.inl hx)), ib fun x hx => hc x (List.mem_append.mpr (.inr hx))⟩
theorem Bt.holds {W : Str → Str → Int} {e : E} {es : List E} (h : Bt e es) : e.holds W = es.all fun x => x.holds W := by
  induction h with
  | one e => simp
  | two a b ia ib =>
    rw [List.all_append, ← ia, ← ib]
    rfl
theorem wOf_ext : ∀ (bs : List (Str × Int)) (ms ys : List Int), (bs.map (·.1)).Nodup → bs.length = ms.length → bs.length = ys.length → (∀ x ∈ bs.map (·.1), wOf bs ms x = wOf bs ys x) → ms = ys
  | [], [], [], _, _, _, _ => rfl
  | [], _ :: _, _, _, h, _, _ => by simp at h
  | [], _, _ :: _, _, _, h, _ => by simp at h
  | _ :: _, [], _, _, h, _, _ => by simp at h
  | _ :: _, _ :: _, [], _, _, h, _ => by simp at h
  | b :: bs, m :: ms, y :: ys, nd, h1, h2, hx => by
    rw [List.map_cons, List.nodup_cons] at nd
    have e0 := hx b.1 (List.mem_cons.mpr (.inl rfl))
    have e0 : m = y := by
      have : (if b.1 = b.1 then m else wOf bs ms b.1) = (if b.1 = b.1 then y else wOf bs ys b.1) := e0
      rwa [if_pos rfl, if_pos rfl] at this
    rw [e0, wOf_ext bs ms ys nd.2 (by simpa using h1) (by simpa using h2) fun x hx2 => ?_]
    have := hx x (List.mem_cons.mpr (.inr hx2))
    have ne : ¬ b.1 = x := fun z => nd.1 (z ▸ hx2)
    have : (if b.1 = x then m else wOf bs ms x) = (if b.1 = x then y else wOf bs ys x) := this
    rwa [if_neg ne, if_neg ne] at this
theorem cnd_of {K : PySem.W.Frag} {H : Hp} {sm : V} {se : E} {bs : List (Str × Int)} (l4 : bs.length ≤ 4) (nd : (bs.map (·.1)).Nodup) (ek : EK K H sm se) (bt : Bt se (.yes :: (bs.map (·.1)).map sameE)) : Cnd K H sm se bs := by
  refine ⟨ek, bt.isC fun x hx => ?_, bt.okIn fun x hx => ?_, ?_, fun ms ys l1 l2 => ?_⟩
  · rcases List.mem_cons.mp hx with rfl | hx
    · trivial
    · obtain ⟨y, _, rfl⟩ := List.mem_map.mp hx
      exact ⟨trivial, trivial⟩
  · rcases List.mem_cons.mp hx with rfl | hx
    · trivial
    · obtain ⟨y, hy, rfl⟩ := List.mem_map.mp hx
      exact ⟨⟨.inl rfl, hy⟩, ⟨.inr rfl, hy⟩⟩
  · have := bt.dep (d := 2) fun x hx => by
      rcases List.mem_cons.mp hx with rfl | hx
      · decide
      · obtain ⟨y, _, rfl⟩ := List.mem_map.mp hx
        exact Nat.le_of_ble_eq_true rfl
    rw [List.length_cons, List.length_map, List.length_map] at this
    omega
  · rw [bt.holds, List.all_cons, List.all_map]
    show (true && _) = _
    rw [Bool.true_and]
    by_cases e : ms = ys
    · subst e
      rw [decide_eq_true rfl, List.all_eq_true]
      intro x hx
      exact decide_eq_true rfl
    · rw [decide_eq_false e]
      cases ha : (bs.map (·.1)).all _ with
      | false => rfl
      | true =>
        rw [List.all_eq_true] at ha
        exact absurd (wOf_ext bs ms ys nd l1 l2 fun x hx => of_decide_eq_true (ha x hx)) e
abbrev sDu : Stmt := top 44
/-! ### _law_due -/
def ownL (n : Nat) : List Int := (List.range n).map fun i : Nat => (i : Int)
theorem own_map (n : Nat) : ((List.range n).map fun i : Nat => V.int i) = (ownL n).map V.int := by unfold ownL; rw [List.map_map]; rfl
theorem own_len (n : Nat) : (ownL n).length = n := by unfold ownL; rw [List.length_map, List.length_range]
theorem own_get {n j : Nat} (h : j < n) : (ownL n)[j]? = some (j : Int) := by unfold ownL; rw [List.getElem?_map, List.getElem?_range h]; rfl
theorem cut_any (xs : List V) (n : Nat) : cutV xs none (some (n : Int)) = xs.take n := by
  unfold cutV
  have e0 : HT.sIx xs.length 0 none = 0 := rfl
  have e1 : HT.sIx xs.length xs.length (some (n : Int)) = min n xs.length := HT.sIx_nat _ _ _
  rw [e0, e1, List.drop_zero, Nat.sub_zero]
  by_cases h : n ≤ xs.length
  · rw [Nat.min_eq_left h]
  · rw [Nat.min_eq_right (by omega), List.take_length, List.take_of_length_le (by omega)]
theorem cut_lo1 (xs : List V) (k : Nat) (h : k < xs.length) : cutV xs (some ((k : Int) + 1)) none = xs.drop (k + 1) := by
  rw [show (k : Int) + 1 = ((k + 1 : Nat) : Int) from rfl]
  unfold cutV
  have e0 : HT.sIx xs.length 0 (some ((k + 1 : Nat) : Int)) = min (k + 1) xs.length := HT.sIx_nat _ _ _
  have e1 : HT.sIx xs.length xs.length none = xs.length := rfl
  rw [e0, e1, Nat.min_eq_left (by omega), List.take_of_length_le (by rw [List.length_drop]; omega)]
def chg (m nd : Nat) : List Int := (ownL m).take nd ++ [(m : Int)] ++ (ownL m).drop (nd + 1)
theorem chg_get {m nd j : Nat} (hnd : nd < m) (h : j < m) : (chg m nd)[j]? = some (spL (m : Int) (nd : Int) (j : Int)) := by
  have l1 : ((ownL m).take nd).length = nd := by rw [List.length_take, own_len]; omega
  show ((ownL m).take nd ++ [(m : Int)] ++ (ownL m).drop (nd + 1))[j]? = some (if (j : Int) = (nd : Int) then (m : Int) else (j : Int))
  rw [List.append_assoc]
  by_cases e : j < nd
  · rw [List.getElem?_append_left (by omega), List.getElem?_take, if_pos e, own_get h, if_neg (by omega)]
  · rw [List.getElem?_append_right (by omega), l1]
    by_cases e2 : j = nd
    · subst e2
      rw [Nat.sub_self, if_pos rfl]
      rfl
    · obtain ⟨k, rfl⟩ : ∃ k, j = nd + (k + 1) := ⟨j - nd - 1, by omega⟩
      rw [Nat.add_sub_cancel_left, if_neg (by omega)]
      show ((ownL m).drop (nd + 1))[k]? = _
      rw [List.getElem?_drop, show nd + 1 + k = nd + (k + 1) by omega]
      exact own_get h
theorem chg_map (m nd : Nat) : ((ownL m).map V.int).take nd ++ [V.int (m : Int)] ++ ((ownL m).map V.int).drop (nd + 1) = (chg m nd).map V.int := by
  show _ = ((ownL m).take nd ++ [(m : Int)] ++ (ownL m).drop (nd + 1)).map V.int
  rw [List.map_append, List.map_append, List.map_take, List.map_drop]
  rfl
def spDu : Sp := fun vs H Q _ => ∃ (p B I N l : Addr) (vb vn : List V) (bs : List (Str × Int)) (ins : List Str) (nds : List Np) (ns : List Str) (nd : Nat) (a : Np) (named : List Int), vs = [.ref p, .int (nd : Int), .ref l] ∧ H p = some (.tup [.ref B, .ref I, .ref N]) ∧ Pt4 H B I N vb vn bs ins nds ∧ (∀ e ∈ nds, NpOk ns (nds.length : Int) e) ∧ nds.length ≤ 40 ∧ nds[nd]? = some a ∧ H l = some (.lst (named.map V.int)) ∧
  ∀ (d F0 : Addr) (us : List V) (H' : Hp), Same H H' → H F0 = none → H' d = some (.tup [.ref B, .ref I, .ref F0]) → H' F0 = some (.lst us) → Paired (NpAt H') us (spS nds nd a named) → Q (.ref d) H'
theorem scDu : FnScope ["program", "node", "named", "boxes", "inputs", "nodes", "own", "changed", "found", "number"] ["program", "node", "named"] (defScope sDu) := ⟨rfl, rfl, rfl, by decide +kernel, rfl, by decide +kernel, by decide +kernel⟩
theorem gDu_law_led : (defScope sDu).names.lookup (Str.ofString "_law_led") = some .globalImplicit := by decide +kernel
theorem gDu_len : (defScope sDu).names.lookup (Str.ofString "len") = some .globalImplicit := by decide +kernel
theorem gDu_list : (defScope sDu).names.lookup (Str.ofString "list") = some .globalImplicit := by decide +kernel
theorem gDu_range : (defScope sDu).names.lookup (Str.ofString "range") = some .globalImplicit := by decide +kernel
theorem ok_du {f : Addr} {fd : FuncData} (F : Fun K "_law_due" "_law_due" sDu f fd) (m_len : mg "len" = none) (m_range : mg "range" = none) (m_list : mg "list" = none) (LD0 : Has P w K mg base "_law_led" ["node", "change"] 1 spLed) : FnOk P w K mg base CX0 2 f fd ["program", "node", "named"] spDu := by
  refine F.ok scDu (fun vs H Q E h => ?_) (fun cdv A outer s H vs Q E hr h => ?_)
  · obtain ⟨p, B, I, N, l, vb, vn, bs, ins, nds, ns, nd, a, named, rfl, _⟩ := h
    rfl
  · obtain ⟨p, B, I, N, l, vb, vn, bs, ins, nds, ns, nd, a, named, rfl, hp, pt, hn, n40, hnd, hl, q⟩ := h
    have LD := LD0.mono (show 1 ≤ 1 by omega)
    have vnl := Paired.length pt.pn
    have ndl : nd < nds.length := (List.getElem?_eq_some_iff.mp hnd).1
    have big : 1000 ≤ sizeLine := by decide
    have owl := own_len nds.length
    refine goL ⟨_, (L3.cons (L3.asg (L3.v 0) (L3.gtup 3 (L3.gsk (L3.gn 3 scDu.nd) (L3.gsk (L3.gn 4 scDu.nd) (L3.gsk (L3.gn 5 scDu.nd) L3.gsn)))))
      (L3.cons (L3.set 6 scDu.nd (L3.listrng gDu_list m_list gDu_range m_range (L3.k (L3.callB L3.c_len gDu_len m_len PySem.boot_len (L3.k (L3.v 5) L3.n)) L3.n)))
      (L3.cons (L3.set 7 scDu.nd (L3.op L3.o_cat (L3.op L3.o_cat (L3.slL2 (L3.v 6) (L3.v 1)) (L3.lst (L3.k (L3.callB L3.c_len gDu_len m_len PySem.boot_len (L3.k (L3.v 5) L3.n)) L3.n))) (L3.slL1 (L3.v 6) (L3.op L3.o_add (L3.v 1) L3.int))))
      (L3.cons (L3.set 8 scDu.nd (L3.lst L3.n))
      (L3.cons (L3.for_ (L3.iL (L3.op L3.o_cat (L3.v 6) (L3.lst (L3.k (L3.v 1) L3.n)))) (L3.gn 9 scDu.nd) (L3.one (L3.ifs (L3.cmp L3.o_in (L3.v 9) (L3.v 2) (by rfl)) (L3.one (L3.ex (L3.append (L3.v 8) (L3.k (L3.own LD hr gDu_law_led (L3.k (L3.ix L3.ixL (L3.v 5) (L3.v 9)) (L3.k (L3.v 7) L3.n))) L3.n)))) (L3.one (L3.ex (L3.append (L3.v 8) (L3.k (L3.own LD hr gDu_law_led (L3.k (L3.ix L3.ixL (L3.v 5) (L3.v 9)) (L3.k (L3.v 6) L3.n))) L3.n)))))))
      (L3.one (L3.ret (L3.tup (L3.k (L3.v 3) (L3.k (L3.v 4) (L3.k (L3.v 8) L3.n))))))))))), ?_⟩
    refine cut1 fun Rk kR => ?_
    refine ⟨_, rfl, p, _, rfl, SqT.of hp, rfl, _, _, rfl, _, _, rfl, _, _, rfl, rfl, ?_⟩
    refine kR _ _ ?_
    clear kR
    refine normS [some (.ref p), some (.int (nd : Int)), some (.ref l), some (.ref B), some (.ref I), some (.ref N), none, none, none, none] rfl ?_
    refine cut1 fun Rk kR => ?_
    refine ⟨_, rfl, N, _, rfl, .inl (SqL.of pt.hN), vn.length, rfl, by omega, fun O hO => ?_⟩
    rw [own_map, vnl]
    have s1 := same_new hO (.lst ((ownL nds.length).map V.int))
    have g1 : (upd H O (.lst ((ownL nds.length).map V.int))) O = some (.lst ((ownL nds.length).map V.int)) := upd_same
    generalize upd H O (.lst ((ownL nds.length).map V.int)) = H1 at s1 g1 ⊢
    refine gn_go ?_
    refine kR _ _ ?_
    clear kR
    refine normS [some (.ref p), some (.int (nd : Int)), some (.ref l), some (.ref B), some (.ref I), some (.ref N), some (.ref O), none, none, none] rfl ?_
    refine cut1 fun Rk kR => ?_
    refine ⟨_, rfl, _, rfl, _, rfl, O, _, rfl, SqL.of g1, fun c1 hc1 => ?_⟩
    rw [cut_any]
    have s2 := same_new hc1 (.lst (((ownL nds.length).map V.int).take nd))
    have g2 : (upd H1 c1 (.lst (((ownL nds.length).map V.int).take nd))) c1 = some (.lst (((ownL nds.length).map V.int).take nd)) := upd_same
    generalize upd H1 c1 (.lst (((ownL nds.length).map V.int).take nd)) = H2 at s2 g2 ⊢
    have s02 := same_trans s1 s2
    refine ⟨_, rfl, N, _, rfl, .inl (SqL.of (s02 _ _ pt.hN)), (by show 1 ≤ sizeLine; decide), fun c2 hc2 => ?_⟩
    rw [vnl]
    have s3 := same_new hc2 (.lst [.int (nds.length : Int)])
    have g3 : (upd H2 c2 (.lst [.int (nds.length : Int)])) c2 = some (.lst [.int (nds.length : Int)]) := upd_same
    generalize upd H2 c2 (.lst [.int (nds.length : Int)]) = H3 at s3 g3 ⊢
    refine ⟨c1, c2, _, _, rfl, rfl, s3 _ _ g2, g3, (by rw [List.length_take, List.length_map, owl]; show _ + 1 ≤ _; omega), fun c3 hc3 => ?_⟩
    have s4 := same_new hc3 (.lst (((ownL nds.length).map V.int).take nd ++ [.int (nds.length : Int)]))
    have g4 : (upd H3 c3 (.lst (((ownL nds.length).map V.int).take nd ++ [.int (nds.length : Int)]))) c3 = some (.lst (((ownL nds.length).map V.int).take nd ++ [.int (nds.length : Int)])) := upd_same
    generalize upd H3 c3 (.lst (((ownL nds.length).map V.int).take nd ++ [.int (nds.length : Int)])) = H4 at s4 g4 ⊢
    have g14 := s4 _ _ (s3 _ _ (s2 _ _ g1))
    refine ⟨_, rfl, _, rfl, _, _, rfl, rfl, _, rfl, O, _, rfl, SqL.of g14, fun c4 hc4 => ?_⟩
    rw [cut_lo1 _ _ (by rw [List.length_map, owl]; exact ndl)]
    have s5 := same_new hc4 (.lst (((ownL nds.length).map V.int).drop (nd + 1)))
    have g5 : (upd H4 c4 (.lst (((ownL nds.length).map V.int).drop (nd + 1)))) c4 = some (.lst (((ownL nds.length).map V.int).drop (nd + 1))) := upd_same
    generalize upd H4 c4 (.lst (((ownL nds.length).map V.int).drop (nd + 1))) = H5 at s5 g5 ⊢
    refine ⟨c3, c4, _, _, rfl, rfl, s5 _ _ g4, g5, (by rw [List.length_append, List.length_take, List.length_drop, List.length_map, owl]; show _ + 1 + _ ≤ _; omega), fun C hC => ?_⟩
    rw [chg_map]
    have s6 := same_new hC (.lst ((chg nds.length nd).map V.int))
    have g6 : (upd H5 C (.lst ((chg nds.length nd).map V.int))) C = some (.lst ((chg nds.length nd).map V.int)) := upd_same
    generalize upd H5 C (.lst ((chg nds.length nd).map V.int)) = H6 at s6 g6 ⊢
    refine gn_go ?_
    refine kR _ _ ?_
    clear kR
    refine normS [some (.ref p), some (.int (nd : Int)), some (.ref l), some (.ref B), some (.ref I), some (.ref N), some (.ref O), some (.ref C), none, none] rfl ?_
    refine cut1 fun Rk kR => ?_
    have g16 := s6 _ _ (s5 _ _ g14)
    have s06 := same_trans s02 (same_trans s3 (same_trans s4 (same_trans s5 s6)))
    clear g2 g3 g4 g5 s1 s2 s3 s4 s5 s02 g14 hc1 hc2 hc3 hc4 hO hC g1 s6
    refine ⟨(by show 0 ≤ sizeLine; decide), fun F0 hF0 => ?_⟩
    have nF := none_of_same s06 hF0
    have s7 := same_new hF0 (.lst [])
    have g7 : (upd H6 F0 (.lst [])) F0 = some (.lst []) := upd_same
    generalize upd H6 F0 (.lst []) = H7 at s7 g7 ⊢
    refine gn_go ?_
    refine kR _ _ ?_
    clear kR
    refine normS [some (.ref p), some (.int (nd : Int)), some (.ref l), some (.ref B), some (.ref I), some (.ref N), some (.ref O), some (.ref C), some (.ref F0), none] rfl ?_
    refine cut1 fun Rk kR => ?_
    refine ⟨_, rfl, _, rfl, (by show 1 ≤ sizeLine; decide), fun c5 hc5 => ?_⟩
    have s75 := same_new hc5 (.lst [.int (nd : Int)])
    have g75 : (upd H7 c5 (.lst [.int (nd : Int)])) c5 = some (.lst [.int (nd : Int)]) := upd_same
    generalize upd H7 c5 (.lst [.int (nd : Int)]) = H75 at s75 g75 ⊢
    refine ⟨O, c5, _, _, rfl, rfl, s75 _ _ (s7 _ _ g16), g75, (by rw [List.length_map, owl]; show _ + 1 ≤ _; omega), fun L hL => ?_⟩
    have s8 := same_new hL (.lst ((ownL nds.length).map V.int ++ [.int (nd : Int)]))
    have g8 : (upd H75 L (.lst ((ownL nds.length).map V.int ++ [.int (nd : Int)]))) L = some (.lst ((ownL nds.length).map V.int ++ [.int (nd : Int)])) := upd_same
    generalize upd H75 L (.lst ((ownL nds.length).map V.int ++ [.int (nd : Int)])) = H8 at s8 g8 ⊢
    have s78 := same_trans s75 s8
    have s68 := same_trans s7 s78
    have s08 := same_trans s06 s68
    have gF8 := s78 _ _ g7
    have LF : L ≠ F0 := (ne_of_none (s75 _ _ g7) hL).symm
    have OF : O ≠ F0 := ne_of_none g16 hF0
    have CF : C ≠ F0 := ne_of_none g6 hF0
    have gO8 := s68 _ _ g16
    have gC8 := s68 _ _ g6
    obtain ⟨xa, hxa⟩ : ∃ xa, vn[nd]? = some xa := ⟨vn[nd]'(by omega), List.getElem?_eq_getElem (by omega)⟩
    obtain ⟨a', ha', naa⟩ := Paired.get pt.pn hxa
    cases hnd.symm.trans ha'
    refine ⟨L, rfl, ⟨_, SqL.of g8⟩, ?_⟩
    refine for_list (xs := (ownL nds.length).map V.int ++ [.int (nd : Int)]) (fun (j : Nat) (σ : List (Option V)) (Hx : Hp) => (∃ o9, σ = [some (.ref p), some (.int (nd : Int)), some (.ref l), some (.ref B), some (.ref I), some (.ref N), some (.ref O), some (.ref C), some (.ref F0), o9]) ∧ (Same H Hx ∧ ∀ b o, b ≠ F0 → H8 b = some o → Hx b = some o) ∧ ∃ us, Hx F0 = some (.lst us) ∧ us.length = j ∧ Paired (NpAt Hx) us ((spS nds nd a named).take j)) ⟨⟨_, rfl⟩, ⟨s08, fun _ _ _ z => z⟩, [], gF8, rfl, by rw [List.take_zero]; exact .nil⟩ (fun j σ Hx _ z => SqL.of (z.2.1.2 _ _ LF g8)) (fun j y0 σ Hx hx z => ?_) (fun σ Hx z => ?_)
    · obtain ⟨⟨o9, rfl⟩, ⟨sx, k8⟩, us, gF, ul, pu⟩ := z
      have hjl : j < ((ownL nds.length).map V.int ++ [V.int (nd : Int)]).length := (List.getElem?_eq_some_iff.mp hx).1
      rw [List.length_append, List.length_map, owl] at hjl
      have hjl : j < nds.length + 1 := hjl
      obtain ⟨x0, e, rfl, hat, he, ne, eok⟩ : ∃ (x0 : V) (e : Np), y0 = .int (spAt nds.length nd j) ∧ atI vn (spAt nds.length nd j) = some x0 ∧ (nds ++ [a])[j]? = some e ∧ NpAt H x0 e ∧ NpOk ns (nds.length : Int) e := by
        by_cases ej : j = nds.length
        · subst ej
          have at1 : spAt nds.length nd nds.length = (nd : Int) := if_pos rfl
          rw [List.getElem?_append_right (by rw [List.length_map, owl]; exact Nat.le_refl _), List.length_map, owl, Nat.sub_self] at hx
          cases hx
          rw [at1]
          exact ⟨xa, a, rfl, atI_nat hxa, by rw [List.getElem?_append_right (Nat.le_refl _), Nat.sub_self]; rfl, naa, hn a (List.mem_of_getElem? hnd)⟩
        · have at1 : spAt nds.length nd j = (j : Int) := if_neg ej
          have hj2 : j < nds.length := by omega
          rw [List.getElem?_append_left (by rw [List.length_map, owl]; exact hj2), List.getElem?_map, own_get hj2] at hx
          cases hx
          obtain ⟨x0, hx0⟩ : ∃ x0, vn[j]? = some x0 := ⟨vn[j]'(by omega), List.getElem?_eq_getElem (by omega)⟩
          obtain ⟨e, he, hne⟩ := Paired.get pt.pn hx0
          rw [at1]
          exact ⟨x0, e, rfl, atI_nat hx0, by rw [List.getElem?_append_left hj2]; exact he, hne, hn e (List.mem_of_getElem? he)⟩
      have og : (spS nds nd a named)[j]? = some (spE (nds.length : Int) (nd : Int) named (spAt nds.length nd j) e) := by
        unfold spS
        rw [List.getElem?_mapIdx, he]
        rfl
      have lb : ∀ (i : Nat) (x : Int), e.leads[i]? = some x → 0 ≤ x ∧ x < (nds.length : Int) := fun i x h => eok.ld x (List.mem_of_getElem? h)
      refine gn_go ?_
      refine normS [some (.ref p), some (.int (nd : Int)), some (.ref l), some (.ref B), some (.ref I), some (.ref N), some (.ref O), some (.ref C), some (.ref F0), some (.int (spAt nds.length nd j))] rfl ?_
      have fin : ∀ (v' : V) (H9 : Hp), Same Hx H9 → NpAt H9 v' (spE (nds.length : Int) (nd : Int) named (spAt nds.length nd j) e) → H9 F0 = some (.lst us) ∧ us.length < 1000 ∧ (fun (j : Nat) (σ : List (Option V)) (Hx : Hp) => (∃ o9, σ = [some (.ref p), some (.int (nd : Int)), some (.ref l), some (.ref B), some (.ref I), some (.ref N), some (.ref O), some (.ref C), some (.ref F0), o9]) ∧ (Same H Hx ∧ ∀ b o, b ≠ F0 → H8 b = some o → Hx b = some o) ∧ ∃ us, Hx F0 = some (.lst us) ∧ us.length = j ∧ Paired (NpAt Hx) us ((spS nds nd a named).take j)) (j + 1) [some (.ref p), some (.int (nd : Int)), some (.ref l), some (.ref B), some (.ref I), some (.ref N), some (.ref O), some (.ref C), some (.ref F0), some (.int (spAt nds.length nd j))] (upd H9 F0 (.lst (us ++ [v']))) := fun v' H9 s9 nv => by
        have gF9 := s9 _ _ gF
        have tkF : TK H9 (upd H9 F0 (.lst (us ++ [v']))) := TW.TK.lst gF9
        refine ⟨gF9, by omega, ⟨_, rfl⟩, ⟨same_put (same_trans sx s9) nF, fun b o nb z => by rw [upd_ne nb]; exact s9 _ _ (k8 b o nb z)⟩, us ++ [v'], upd_same, by rw [List.length_append, ul]; rfl, ?_⟩
        rw [List.take_add_one, og]
        exact Paired.snoc (Paired.mapP pu fun _ _ z => NpAt.keep ((Same.tk s9).trans tkF) z) (NpAt.keep tkF nv)
      refine ⟨_, rfl, _, rfl, l, _, rfl, .inl (SqL.of (sx _ _ hl)), rfl, flat_ints named, _, rfl, ?_⟩
      show if inV (.int (spAt nds.length nd j)) (named.map V.int) = true then _ else _
      rw [inV_ints]
      refine ite2 (fun c => ?_) (fun c => ?_)
      · have c := of_decide_eq_true c
        refine ⟨_, rfl, .inl ⟨rfl, _, SqL.of gF⟩, _, rfl, _, rfl, N, _, _, _, rfl, rfl, SqL.of (sx _ _ pt.hN), hat, _, rfl, x0, C, e, _, e.leads.map (spL (nds.length : Int) (nd : Int)), rfl, NpAt.keep (Same.tk sx) ne, eok.is, k8 _ _ CF gC8, List.length_map _, fun i x y hx1 hy1 => ?_, fun v' H9 s9 nv => ?_⟩
        · rw [List.getElem?_map, hx1] at hy1
          cases hy1
          have b := lb i x hx1
          refine ⟨b.1, ?_⟩
          rw [chg_get ndl (show x.toNat < nds.length by omega), Int.toNat_of_nonneg b.1]
        · have nv2 : NpAt H9 v' (spE (nds.length : Int) (nd : Int) named (spAt nds.length nd j) e) := by
            unfold spE
            rw [if_pos c]
            exact nv
          obtain ⟨f1, f2, f3⟩ := fin v' H9 s9 nv2
          exact ⟨F0, _, _, rfl, rfl, f1, small1000 (Nat.le_of_lt f2), f3⟩
      · have c : ¬ spAt nds.length nd j ∈ named := fun z => c (decide_eq_true z)
        refine ⟨_, rfl, .inl ⟨rfl, _, SqL.of gF⟩, _, rfl, _, rfl, N, _, _, _, rfl, rfl, SqL.of (sx _ _ pt.hN), hat, _, rfl, x0, O, e, _, e.leads, rfl, NpAt.keep (Same.tk sx) ne, eok.is, k8 _ _ OF gO8, rfl, fun i x y hx1 hy1 => ?_, fun v' H9 s9 nv => ?_⟩
        · rw [hx1] at hy1
          cases hy1
          have b := lb i x hx1
          refine ⟨b.1, ?_⟩
          rw [own_get (show x.toNat < nds.length by omega), Int.toNat_of_nonneg b.1]
        · have nv2 : NpAt H9 v' (spE (nds.length : Int) (nd : Int) named (spAt nds.length nd j) e) := by
            unfold spE
            rw [if_neg c]
            exact nv
          obtain ⟨f1, f2, f3⟩ := fin v' H9 s9 nv2
          exact ⟨F0, _, _, rfl, rfl, f1, small1000 (Nat.le_of_lt f2), f3⟩
    · obtain ⟨⟨o9, rfl⟩, ⟨sx, k8⟩, us, gF, ul, pu⟩ := z
      rw [List.take_of_length_le (by unfold spS; rw [List.length_mapIdx, List.length_append, List.length_append, List.length_map, owl]; exact Nat.le_refl _)] at pu
      refine kR _ _ ?_
      refine ⟨_, rfl, _, rfl, _, rfl, (by show 3 ≤ sizeLine; decide), fun d hd => ?_⟩
      have s9 := same_new hd (.tup [.ref B, .ref I, .ref F0])
      exact q d F0 us _ (same_trans sx s9) nF upd_same (s9 _ _ gF) (Paired.mapP pu fun _ _ z => NpAt.keep (Same.tk s9) z)
theorem has_du (s : Src K mg "_law_due" sDu) (m_len : mg "len" = none) (m_range : mg "range" = none) (m_list : mg "list" = none) (LD0 : Has P w K mg base "_law_led" ["node", "change"] 1 spLed) : Has P w K mg base "_law_due" ["program", "node", "named"] 2 spDu :=
  let ⟨f, fd, F, m⟩ := s
  ⟨f, fd, ok_du F m_len m_range m_list LD0, F.kp, bnd3 F fun _ _ _ _ _ _ _ _ _ => rfl, m⟩
end
end TW
set_option Elab.async false
set_option linter.all false
set_option maxRecDepth 100000
set_option exponentiation.threshold 4000
set_option maxHeartbeats 1000000
namespace TW
open PySem L2
section
variable {P : Program} {w : World} {K : PySem.W.Frag} {mg : Str → Option Value} {base : Heap}
abbrev sCa : Stmt := top 45
/-! ### likeness -/
theorem Al.tup {H : Hp} {n : Nat} {p q : Addr} {xs ys : List V} (hp : H p = some (.tup xs)) (hq : H q = some (.tup ys)) (hl : xs.length = ys.length) (h9 : xs.length ≤ 900) (h : ∀ (i : Nat) (x y : V), xs[i]? = some x → ys[i]? = some y → Al H n x y) : Al H (n + 1) (.ref p) (.ref q) := .inr (.inr ⟨p, q, xs, ys, rfl, rfl, .inr ⟨hp, hq⟩, hl, h9, h⟩)
theorem Al.lst {H : Hp} {n : Nat} {p q : Addr} {xs ys : List V} (hp : H p = some (.lst xs)) (hq : H q = some (.lst ys)) (hl : xs.length = ys.length) (h9 : xs.length ≤ 900) (h : ∀ (i : Nat) (x y : V), xs[i]? = some x → ys[i]? = some y → Al H n x y) : Al H (n + 1) (.ref p) (.ref q) := .inr (.inr ⟨p, q, xs, ys, rfl, rfl, .inl ⟨hp, hq⟩, hl, h9, h⟩)
theorem Al.str {H : Hp} {n : Nat} (s : Str) : Al H (n + 1) (.str s) (.str s) := .inr (.inl ⟨s, rfl, rfl⟩)
theorem Al.int {H : Hp} {n : Nat} (i : Int) : Al H (n + 1) (.int i) (.int i) := .inl ⟨i, rfl, rfl⟩
theorem EAt.al {H : Hp} (e : E) : ∀ (n : Nat) (u v : V), e.dep + 2 ≤ n → EAt H u e → EAt H v e → Al H n u v := by
  induction e with
  | num i =>
    intro n u v h hu hv
    obtain ⟨m, rfl⟩ : ∃ m, n = m + 1 + 1 := ⟨n - 2, by have : 0 + 2 ≤ n := h; omega⟩
    obtain ⟨p, rfl, hp⟩ := hu
    obtain ⟨q, rfl, hq⟩ := hv
    refine Al.tup hp hq rfl (by show 2 ≤ 900; decide) fun j x y hx hy => ?_
    match j, hx, hy with
    | 0, hx, hy => cases hx; cases hy; exact .str _
    | 1, hx, hy => cases hx; cases hy; exact .int _
  | box t x =>
    intro n u v h hu hv
    obtain ⟨m, rfl⟩ : ∃ m, n = m + 1 + 1 := ⟨n - 2, by have : 0 + 2 ≤ n := h; omega⟩
    obtain ⟨p, rfl, hp⟩ := hu
    obtain ⟨q, rfl, hq⟩ := hv
    refine Al.tup hp hq rfl (by show 2 ≤ 900; decide) fun j x y hx hy => ?_
    match j, hx, hy with
    | 0, hx, hy => cases hx; cases hy; exact .str _
    | 1, hx, hy => cases hx; cases hy; exact .str _
  | yes =>
    intro n u v h hu hv
    obtain ⟨m, rfl⟩ : ∃ m, n = m + 1 + 1 := ⟨n - 2, by have : 0 + 2 ≤ n := h; omega⟩
    obtain ⟨p, rfl, hp⟩ := hu
    obtain ⟨q, rfl, hq⟩ := hv
    refine Al.tup hp hq rfl (by show 1 ≤ 900; decide) fun j x y hx hy => ?_
    match j, hx, hy with
    | 0, hx, hy => cases hx; cases hy; exact .str _
  | nt a ih =>
    intro n u v h hu hv
    have h : a.dep + 1 + 2 ≤ n := h
    obtain ⟨m, rfl⟩ : ∃ m, n = m + 1 + 1 := ⟨n - 2, by omega⟩
    obtain ⟨x1, ⟨p, rfl, hp⟩, ex⟩ := hu
    obtain ⟨y1, ⟨q, rfl, hq⟩, ey⟩ := hv
    refine Al.tup hp hq rfl (by show 2 ≤ 900; decide) fun j x y hx hy => ?_
    match j, hx, hy with
    | 0, hx, hy => cases hx; cases hy; exact .str _
    | 1, hx, hy => cases hx; cases hy; exact ih _ _ _ (by omega) ex ey
  | two k a b iha ihb =>
    intro n u v h hu hv
    have h : max a.dep b.dep + 1 + 2 ≤ n := h
    obtain ⟨m, rfl⟩ : ∃ m, n = m + 1 + 1 := ⟨n - 2, by omega⟩
    obtain ⟨x1, x2, ⟨p, rfl, hp⟩, ex, ex2⟩ := hu
    obtain ⟨y1, y2, ⟨q, rfl, hq⟩, ey, ey2⟩ := hv
    refine Al.tup hp hq rfl (by show 3 ≤ 900; decide) fun j x y hx hy => ?_
    match j, hx, hy with
    | 0, hx, hy => cases hx; cases hy; exact .str _
    | 1, hx, hy => cases hx; cases hy; exact iha _ _ _ (by omega) ex ey
    | 2, hx, hy => cases hx; cases hy; exact ihb _ _ _ (by omega) ex2 ey2
theorem NpAt.al {H : Hp} : ∀ {e : Np} {u v : V}, (∀ x ∈ e.tolds, x.dep ≤ 3) → NpAt H u e → NpAt H v e → Al H 32 u v
  | .put x s n, _, _, w, ⟨a, ⟨p, rfl, hp⟩, ea⟩, ⟨b, ⟨q, rfl, hq⟩, eb⟩ => Al.tup hp hq rfl (by show 4 ≤ 900; decide) fun j x y hx hy => by
    match j, hx, hy with
    | 0, hx, hy => cases hx; cases hy; exact .str _
    | 1, hx, hy => cases hx; cases hy; exact .str _
    | 2, hx, hy => cases hx; cases hy; exact EAt.al _ _ _ _ (by have := w s (List.mem_cons.mpr (.inr (List.mem_cons.mpr (.inl rfl)))); omega) ea eb
    | 3, hx, hy => cases hx; cases hy; exact .int _
  | .say c n, _, _, w, ⟨a, ⟨p, rfl, hp⟩, ea⟩, ⟨b, ⟨q, rfl, hq⟩, eb⟩ => Al.tup hp hq rfl (by show 3 ≤ 900; decide) fun j x y hx hy => by
    match j, hx, hy with
    | 0, hx, hy => cases hx; cases hy; exact .str _
    | 1, hx, hy => cases hx; cases hy; exact EAt.al _ _ _ _ (by have := w c (List.mem_cons.mpr (.inl rfl)); omega) ea eb
    | 2, hx, hy => cases hx; cases hy; exact .int _
  | .test c n o, _, _, w, ⟨a, ⟨p, rfl, hp⟩, ea⟩, ⟨b, ⟨q, rfl, hq⟩, eb⟩ => Al.tup hp hq rfl (by show 4 ≤ 900; decide) fun j x y hx hy => by
    match j, hx, hy with
    | 0, hx, hy => cases hx; cases hy; exact .str _
    | 1, hx, hy => cases hx; cases hy; exact EAt.al _ _ _ _ (by have := w c (List.mem_cons.mpr (.inl rfl)); omega) ea eb
    | 2, hx, hy => cases hx; cases hy; exact .int _
    | 3, hx, hy => cases hx; cases hy; exact .int _
  | .pick x n, _, _, _, ⟨p, rfl, hp⟩, ⟨q, rfl, hq⟩ => Al.tup hp hq rfl (by show 3 ≤ 900; decide) fun j x y hx hy => by
    match j, hx, hy with
    | 0, hx, hy => cases hx; cases hy; exact .str _
    | 1, hx, hy => cases hx; cases hy; exact .str _
    | 2, hx, hy => cases hx; cases hy; exact .int _
  | .fin, _, _, _, ⟨p, rfl, hp⟩, ⟨q, rfl, hq⟩ => Al.tup hp hq rfl (by show 1 ≤ 900; decide) fun j x y hx hy => by
    match j, hx, hy with
    | 0, hx, hy => cases hx; cases hy; exact .str _
theorem BoxAt.al {H : Hp} {b : Str × Int} {u v : V} (hu : BoxAt H u b) (hv : BoxAt H v b) : Al H 32 u v := by
  obtain ⟨p, rfl, hp⟩ := hu
  obtain ⟨q, rfl, hq⟩ := hv
  refine Al.tup hp hq rfl (by show 2 ≤ 900; decide) fun j x y hx hy => ?_
  match j, hx, hy with
  | 0, hx, hy => cases hx; cases hy; exact .str _
  | 1, hx, hy => cases hx; cases hy; exact .int _
theorem Al.et {K : PySem.W.Frag} {H : Hp} : ∀ {n : Nat} {x y : V}, Al H n x y → ET K H n x y
  | 0, _, _, h => h.elim
  | n + 1, _, _, .inl ⟨i, rfl, rfl⟩ => ET.refl (.inl rfl)
  | n + 1, _, _, .inr (.inl ⟨s, rfl, rfl⟩) => ET.refl (.inl rfl)
  | n + 1, _, _, .inr (.inr ⟨a, b, xs, ys, rfl, rfl, .inl ⟨ha, hb⟩, hl, _, h⟩) => ET.lst (SqL.of ha) (SqL.of hb) hl fun j x y hx hy => Al.et (h j x y hx hy)
  | n + 1, _, _, .inr (.inr ⟨a, b, xs, ys, rfl, rfl, .inr ⟨ha, hb⟩, hl, _, h⟩) => ET.tup (SqT.of ha) (SqT.of hb) hl fun j x y hx hy => Al.et (h j x y hx hy)
theorem pr_al {α : Type} {H : Hp} {F : V → α → Prop} {us vs : List V} {l : List α} (k : ∀ u v a, a ∈ l → F u a → F v a → Al H 32 u v) (pu : Paired F us l) (pv : Paired F vs l) : ∀ (i : Nat) (x y : V), us[i]? = some x → vs[i]? = some y → Al H 32 x y := fun i x y hx hy => by
  obtain ⟨a, ha, fa⟩ := Paired.get pu hx
  obtain ⟨b, hb, fb⟩ := Paired.get pv hy
  rw [ha] at hb
  cases hb
  exact k x y a (List.mem_of_getElem? ha) fa fb
/-- what is few, and flat -/
structure Wr3 (bs : List (Str × Int)) (ins : List Str) (nds : List Np) : Prop where
  lb : bs.length ≤ 900
  li : ins.length ≤ 900
  ln : nds.length ≤ 900
  n : ∀ e ∈ nds, ∀ x ∈ e.tolds, x.dep ≤ 3
theorem prog_parts {H : Hp} {B I N B' I' N' : Addr} {vb vn vb' vn' : List V} {bs : List (Str × Int)} {ins : List Str} {nds : List Np} (wr : Wr3 bs ins nds) (p1 : Pt4 H B I N vb vn bs ins nds) (p2 : Pt4 H B' I' N' vb' vn' bs ins nds) : ∀ (j : Nat) (x y : V), [V.ref B, .ref I, .ref N][j]? = some x → [V.ref B', .ref I', .ref N'][j]? = some y → Al H 33 x y := fun j x y hx hy => by
  have l1 := Paired.length p1.pb
  have l2 := Paired.length p2.pb
  have l3 := Paired.length p1.pn
  have l4 := Paired.length p2.pn
  have b1 := wr.lb
  have b2 := wr.li
  have b3 := wr.ln
  match j, hx, hy with
  | 0, hx, hy => cases hx; cases hy; exact Al.lst p1.hB p2.hB (by omega) (by omega) (pr_al (F := BoxAt H) (fun u v a _ h1 h2 => BoxAt.al h1 h2) p1.pb p2.pb)
  | 1, hx, hy =>
    cases hx; cases hy
    refine Al.lst p1.hI p2.hI rfl (by rw [List.length_map]; omega) fun i x y hx hy => ?_
    rw [hx] at hy
    cases hy
    obtain ⟨z, _, rfl⟩ := map_get hx
    exact .str _
  | 2, hx, hy => cases hx; cases hy; exact Al.lst p1.hN p2.hN (by omega) (by omega) (pr_al (F := NpAt H) (fun u v a ha h1 h2 => NpAt.al (wr.n a ha) h1 h2) p1.pn p2.pn)
theorem prog_al {H : Hp} {f p B I N B' I' N' : Addr} {vb vn vb' vn' : List V} {bs : List (Str × Int)} {ins : List Str} {nds : List Np} (wr : Wr3 bs ins nds) (hf : H f = some (.tup [.ref B, .ref I, .ref N])) (hp : H p = some (.tup [.ref B', .ref I', .ref N'])) (p1 : Pt4 H B I N vb vn bs ins nds) (p2 : Pt4 H B' I' N' vb' vn' bs ins nds) : Al H 34 (.ref f) (.ref p) := Al.tup hf hp rfl (by show 3 ≤ 900; decide) (prog_parts wr p1 p2)
theorem prog_rb {K : PySem.W.Frag} {H : Hp} {f p B I N B' I' N' : Addr} {vb vn vb' vn' : List V} {bs : List (Str × Int)} {ins : List Str} {nds : List Np} (wr : Wr3 bs ins nds) (hf : H f = some (.tup [.ref B, .ref I, .ref N])) (hp : H p = some (.tup [.ref B', .ref I', .ref N'])) (p1 : Pt4 H B I N vb vn bs ins nds) (p2 : Pt4 H B' I' N' vb' vn' bs ins nds) : RB K H 33 (.ref f) (.ref p) true := RB.tup (SqT.of hf) (SqT.of hp) rfl fun j x y hx hy => (prog_parts wr p1 p2 j x y hx hy).et
def spSh (K : PySem.W.Frag) (tO : Addr) : Sp := fun vs H Q _ => ∃ (p1 p2 P' : Addr) (ps : List V) (sm : V) (se : E) (bs : List (Str × Int)) (nds nds' : List Np) (lv : List (Int × Int × Str)), vs = [.ref p1, .ref p2, .ref P'] ∧ Pap K tO H p1 p2 P' ps sm se bs nds nds' lv ∧ prodB bs ≤ 9 ∧ lv.length < 64 ∧ ∀ H', Same H H' → Q (.bl true) H'
def spCa (K : PySem.W.Frag) (tO : Addr) : Sp := fun vs H Q _ => ∃ (r p B I N : Addr) (vb vn : List V) (bs : List (Str × Int)) (ins : List Str) (nds : List Np) (wk : Bool) (most longest : Int), vs = [.ref r, .ref p, .bl wk] ∧ Reel H r ∧ H p = some (.tup [.ref B, .ref I, .ref N]) ∧ PrD r H B I N vb vn bs ins nds ∧ PgOk most longest bs ins nds ∧ longest ≤ 40 ∧ (wk = true → most ≤ 9 ∧ longest ≤ 6) ∧ ∀ H', Rl r H H' → Q (.bl true) H'
theorem spS_len (nds : List Np) (nd : Nat) (a : Np) (named : List Int) : (spS nds nd a named).length = nds.length + 1 := by
  unfold spS
  rw [List.length_mapIdx, List.length_append]
  rfl
theorem spV_len (nds : List Np) (nd : Nat) (a : Np) : (spV nds nd a).length = nds.length + 1 := by
  unfold spV
  rw [List.length_append, List.length_mapIdx]
  rfl
theorem spS_mem {nds : List Np} {nd : Nat} {a e : Np} {named : List Int} (ha : a ∈ nds) (h : e ∈ spS nds nd a named) : ∃ e0 ls, e0 ∈ nds ∧ e = e0.led ls := by
  obtain ⟨j, hj, rfl⟩ := List.mem_mapIdx.mp h
  refine ⟨(nds ++ [a])[j], _, ?_, rfl⟩
  rcases List.mem_append.mp (List.getElem_mem hj) with z | z
  · exact z
  · rw [List.mem_singleton.mp z]
    exact ha
theorem NpOk.t {ns : List Str} {m : Int} {e : Np} (h : NpOk ns m e) : NpT ns e := ⟨h.is, h.td⟩
theorem scCa : FnScope ["pot", "program", "walked", "many", "node", "named", "number", "turn", "given", "handed", "found", "due", "part"] ["pot", "program", "walked"] (defScope sCa) := ⟨rfl, rfl, rfl, by decide +kernel, rfl, by decide +kernel, by decide +kernel⟩
theorem gCa_law_copy : (defScope sCa).names.lookup (Str.ofString "_law_copy") = some .globalImplicit := by decide +kernel
theorem gCa_law_due : (defScope sCa).names.lookup (Str.ofString "_law_due") = some .globalImplicit := by decide +kernel
theorem gCa_law_is_made : (defScope sCa).names.lookup (Str.ofString "_law_is_made") = some .globalImplicit := by decide +kernel
theorem gCa_law_looked_at : (defScope sCa).names.lookup (Str.ofString "_law_looked_at") = some .globalImplicit := by decide +kernel
theorem gCa_law_next : (defScope sCa).names.lookup (Str.ofString "_law_next") = some .globalImplicit := by decide +kernel
theorem gCa_law_shows : (defScope sCa).names.lookup (Str.ofString "_law_shows") = some .globalImplicit := by decide +kernel
theorem gCa_len : (defScope sCa).names.lookup (Str.ofString "len") = some .globalImplicit := by decide +kernel
theorem gCa_list : (defScope sCa).names.lookup (Str.ofString "list") = some .globalImplicit := by decide +kernel
theorem gCa_range : (defScope sCa).names.lookup (Str.ofString "range") = some .globalImplicit := by decide +kernel
theorem gCa_split_node : (defScope sCa).names.lookup (Str.ofString "split_node") = some .globalImplicit := by decide +kernel
theorem ok_ca {tO : Addr} {f : Addr} {fd : FuncData} (F : Fun K "_law_case" "_law_case" sCa f fd) (m_len : mg "len" = none) (TK00 : Has P w K mg base "_law_next" ["pot", "many"] 1 spNext) (CP0 : Has P w K mg base "_law_copy" ["program"] 1 spCopy) (m_range : mg "range" = none) (m_list : mg "list" = none) (OV0 : Has P w K mg base "split_node" ["program", "node", "named"] 11 (spSplit K tO)) (DU0 : Has P w K mg base "_law_due" ["program", "node", "named"] 2 spDu) (IM0 : Has P w K mg base "_law_is_made" ["found", "due"] 36 (spMade 34)) (SH : Has P w K mg base "_law_shows" ["one", "other", "paper"] 55 (spSh K tO)) (LA : Has P w K mg base "_law_looked_at" ["pot", "one", "other", "paper"] 55 (spLa K tO)) : FnOk P w K mg base CX0 56 f fd ["pot", "program", "walked"] (spCa K tO) := by
  refine F.ok scCa (fun vs H Q E h => ?_) (fun cdv A outer s H vs Q E hr h => ?_)
  · obtain ⟨r, p, B, I, N, vb, vn, bs, ins, nds, wk, most, longest, rfl, _⟩ := h
    rfl
  · obtain ⟨r, p, B, I, N, vb, vn, bs, ins, nds, wk, most, longest, rfl, hre, hp, pd, ok, lg, wks, q⟩ := h
    have TK0 := TK00.mono (show 1 ≤ 55 by omega)
    have CP := CP0.mono (show 1 ≤ 55 by omega)
    have OV := OV0.mono (show 11 ≤ 55 by omega)
    have DU := DU0.mono (show 2 ≤ 55 by omega)
    have IM := IM0.mono (show 36 ≤ 55 by omega)
    have vnl := Paired.length pd.pn
    have n1 := ok.one
    have n40 : nds.length ≤ 40 := by have := ok.few; omega
    have l4 := ok.bx.l4
    have bigp : (900 : Int) < 2 ^ 110 := by decide
    refine goL ⟨_, (L3.cons (L3.set 3 scCa.nd (L3.callB L3.c_len gCa_len m_len PySem.boot_len (L3.k (L3.ix L3.ixT (L3.v 1) L3.int) L3.n)))
      (L3.cons (L3.set 4 scCa.nd (L3.own TK0 hr gCa_law_next (L3.k (L3.v 0) (L3.k (L3.v 3) L3.n))))
      (L3.cons (L3.set 5 scCa.nd (L3.lst L3.n))
      (L3.cons (L3.for_ (L3.iR gCa_range m_range (L3.k (L3.v 3) L3.n)) (L3.gn 6 scCa.nd) (L3.one (L3.for_ (L3.iR gCa_range m_range (L3.k (L3.op L3.o_div (L3.own TK0 hr gCa_law_next (L3.k (L3.v 0) (L3.k L3.int L3.n))) L3.int) L3.n)) (L3.gn 7 scCa.nd) (L3.one (L3.ex (L3.insert (L3.v 5) (L3.k (L3.own TK0 hr gCa_law_next (L3.k (L3.v 0) (L3.k (L3.op L3.o_add (L3.callB L3.c_len gCa_len m_len PySem.boot_len (L3.k (L3.v 5) L3.n)) L3.int) L3.n))) (L3.k (L3.v 6) L3.n))))))))
      (L3.cons (L3.set 8 scCa.nd (L3.own CP hr gCa_law_copy (L3.k (L3.v 1) L3.n)))
      (L3.cons (L3.set 9 scCa.nd (L3.callT L3.c_list gCa_list m_list (by decide +kernel) (L3.k (L3.v 5) L3.n)))
      (L3.cons (L3.set 10 scCa.nd (L3.own OV hr gCa_split_node (L3.k (L3.v 8) (L3.k (L3.v 4) (L3.k (L3.v 9) L3.n)))))
      (L3.cons (L3.set 11 scCa.nd (L3.own DU hr gCa_law_due (L3.k (L3.v 1) (L3.k (L3.v 4) (L3.k (L3.v 5) L3.n)))))
      (L3.cons (L3.ifs (L3.tw (L3.or2 (L3.nt (L3.tval (L3.own IM hr gCa_law_is_made (L3.k (L3.v 10) (L3.k (L3.v 11) L3.n))))) (L3.or2 (L3.cmp (L3.o_neD (m := 33) (up_ne hr _ (by decide))) (L3.v 8) (L3.v 1)) (L3.or1 (L3.cmp (L3.o_neD (m := 2) (up_ne hr _ (by decide))) (L3.v 9) (L3.v 5)))))) (L3.one (L3.ret L3.bl)) L3.nil)
      (L3.cons (L3.ifs (L3.tw (L3.and2 (L3.tval (L3.v 2)) (L3.and1 (L3.nt (L3.tval (L3.own SH hr gCa_law_shows (L3.k (L3.v 1) (L3.k (L3.v 11) (L3.k (L3.ix L3.ixT (L3.v 10) L3.int) L3.n))))))))) (L3.one (L3.ret L3.bl)) L3.nil)
      (L3.cons (L3.ifs (L3.nt (L3.tval (L3.own LA hr gCa_law_looked_at (L3.k (L3.v 0) (L3.k (L3.v 1) (L3.k (L3.v 11) (L3.k (L3.ix L3.ixT (L3.v 10) L3.int) L3.n))))))) (L3.one (L3.ret L3.bl)) L3.nil)
      (L3.cons (L3.for_ (L3.iT (L3.ix L3.ixT (L3.v 10) L3.int)) (L3.gn 12 scCa.nd) (L3.one (L3.ex (L3.append (L3.v 12) (L3.k L3.non L3.n)))))
      (L3.one (L3.ret (L3.andE2 (L3.cmpE (L3.o_eqD (m := 33) (up_ne hr _ (by decide))) (L3.v 8) (L3.v 1)) (L3.oneE (L3.own IM hr gCa_law_is_made (L3.k (L3.own OV hr gCa_split_node (L3.k (L3.v 8) (L3.k (L3.v 4) (L3.k (L3.v 9) L3.n)))) (L3.k (L3.v 11) L3.n))))))))))))))))))), ?_⟩
    refine cut1 fun Rk kR => ?_
    refine ⟨_, rfl, p, _, _, _, rfl, rfl, SqT.of hp, rfl, N, _, rfl, .inl (SqL.of pd.hN), ?_⟩
    rw [vnl]
    refine gn_go ?_
    refine kR _ _ ?_
    clear kR
    refine normS [some (.ref r), some (.ref p), some (.bl wk), some (.int (nds.length : Int)), none, none, none, none, none, none, none, none, none] rfl ?_
    refine cut1 fun Rk kR => ?_
    refine ⟨_, rfl, _, rfl, r, (nds.length : Int), rfl, hre, by omega, by omega, fun h H1 h0 h1 l1 => ?_⟩
    obtain ⟨nd, rfl⟩ : ∃ nd : Nat, h = (nd : Int) := ⟨h.toNat, (Int.toNat_of_nonneg h0).symm⟩
    have ndl : nd < nds.length := by omega
    obtain ⟨a, hnd⟩ : ∃ a, nds[nd]? = some a := ⟨nds[nd], List.getElem?_eq_getElem ndl⟩
    have ham := List.mem_of_getElem? hnd
    refine gn_go ?_
    refine kR _ _ ?_
    clear kR
    refine normS [some (.ref r), some (.ref p), some (.bl wk), some (.int (nds.length : Int)), some (.int (nd : Int)), none, none, none, none, none, none, none, none] rfl ?_
    refine cut1 fun Rk kR => ?_
    refine ⟨(by show 0 ≤ sizeLine; decide), fun nm hnm => ?_⟩
    have nmr := l1.rl.ne hnm
    have nnm := l1.no nmr hnm
    have l1n := l1.put (o := .lst []) nmr nnm
    have gnm : (upd H1 nm (.lst [])) nm = some (.lst (([] : List Int).map V.int)) := upd_same
    generalize upd H1 nm (.lst []) = H15 at l1n gnm ⊢
    refine gn_go ?_
    refine kR _ _ ?_
    clear kR
    refine normS [some (.ref r), some (.ref p), some (.bl wk), some (.int (nds.length : Int)), some (.int (nd : Int)), some (.ref nm), none, none, none, none, none, none, none] rfl ?_
    refine cut1 fun Rk kR => ?_
    refine ⟨_, rfl, _, rfl, by omega, by omega, ?_⟩
    refine for_range (lo := 0) (n := (nds.length : Int).toNat) (fun i σ Hx => (∃ o6 o7, σ = [some (.ref r), some (.ref p), some (.bl wk), some (.int (nds.length : Int)), some (.int (nd : Int)), some (.ref nm), o6, o7, none, none, none, none, none]) ∧ Rl r H Hx ∧ ∃ named : List Int, Hx nm = some (.lst (named.map V.int)) ∧ named.length ≤ 2 * i ∧ ∀ x ∈ named, 0 ≤ x ∧ x < (nds.length : Int)) ⟨⟨_, _, rfl⟩, l1n, [], gnm, Nat.le_refl _, (fun x hx => nomatch hx)⟩ (fun i σ Hx hi z => ?_) (fun σ Hx z => ?_)
    · obtain ⟨⟨o6, o7, rfl⟩, lx, named, gx, nl, nr⟩ := z
      rw [Int.toNat_natCast] at hi
      rw [Int.zero_add]
      refine gn_go ?_
      refine normS [some (.ref r), some (.ref p), some (.bl wk), some (.int (nds.length : Int)), some (.int (nd : Int)), some (.ref nm), some (.int (i : Int)), o7, none, none, none, none, none] rfl ?_
      refine ⟨_, rfl, r, 9, rfl, lx.rl, by decide, by decide, fun y Hy y0 y9 ly => ⟨_, _, rfl, rfl, ⟨by decide, by decide⟩, _, rfl, by omega, by omega, ?_⟩⟩
      have lxy := lx.trans ly
      have gy := ly.k _ _ nmr gx
      have cn : (y / 4).toNat ≤ 2 := by omega
      refine for_range (lo := 0) (n := (y / 4).toNat) (fun t σ Hz => (∃ o7, σ = [some (.ref r), some (.ref p), some (.bl wk), some (.int (nds.length : Int)), some (.int (nd : Int)), some (.ref nm), some (.int (i : Int)), o7, none, none, none, none, none]) ∧ Rl r H Hz ∧ ∃ named : List Int, Hz nm = some (.lst (named.map V.int)) ∧ named.length ≤ 2 * i + t ∧ ∀ x ∈ named, 0 ≤ x ∧ x < (nds.length : Int)) ⟨⟨_, rfl⟩, lxy, named, gy, nl, nr⟩ (fun t σ Hz ht z => ?_) (fun σ Hz z => ?_)
      · obtain ⟨⟨o7, rfl⟩, lz, nam2, gz, nl2, nr2⟩ := z
        refine gn_go ?_
        refine normS [some (.ref r), some (.ref p), some (.bl wk), some (.int (nds.length : Int)), some (.int (nd : Int)), some (.ref nm), some (.int (i : Int)), some (.int (0 + (t : Int))), none, none, none, none, none] rfl ?_
        have lm : (nam2.map V.int).length = nam2.length := List.length_map _
        refine ⟨_, rfl, .inl ⟨rfl, _, SqL.of gz⟩, _, rfl, _, rfl, nm, _, rfl, .inl (SqL.of gz), _, _, rfl, rfl, r, ((nam2.map V.int).length : Int) + 1, rfl, lz.rl, by omega, by omega, fun x Ha x0 x1 la => ?_⟩
        have ga := la.k _ _ nmr gz
        refine ⟨_, rfl, nm, _, _, x, rfl, rfl, ga, x0, by omega, by omega, ⟨_, rfl⟩, (lz.trans la).put nmr nnm, nam2.take x.toNat ++ (i : Int) :: nam2.drop x.toNat, ?_, ?_, fun w hw => ?_⟩
        · rw [upd_same, List.map_append, List.map_cons, List.map_take, List.map_drop]
        · rw [List.length_append, List.length_cons, List.length_take, List.length_drop]
          omega
        · rcases List.mem_append.mp hw with z | z
          · exact nr2 w (List.mem_of_mem_take z)
          · rcases List.mem_cons.mp z with rfl | z
            · exact ⟨by omega, by omega⟩
            · exact nr2 w (List.mem_of_mem_drop z)
      · obtain ⟨⟨o7, rfl⟩, lz, nam2, gz, nl2, nr2⟩ := z
        exact ⟨⟨_, _, rfl⟩, lz, nam2, gz, by omega, nr2⟩
    rename_i H2
    obtain ⟨⟨o6, o7, rfl⟩, l12, named, gnm2, nl, nr⟩ := z
    rw [Int.toNat_natCast] at nl
    have nl : named.length ≤ 200 := by omega
    refine kR _ _ ?_
    clear kR
    refine cut1 fun Rk kR => ?_
    have pd2 := pd.go hre l12
    have hp2 := Rl.tk hre l12 _ _ hp
    refine ⟨_, rfl, p, B, I, N, vb, _, vn, rfl, hp2, pd2.hB, pd2.hI, pd2.hN, fun p1 B1 I1 N1 H25 s25 gp1 gB1 gI1 gN1 nB1 nI1 nN1 => ?_⟩
    refine gn_go ?_
    refine kR _ _ ?_
    clear kR
    refine normS [some (.ref r), some (.ref p), some (.bl wk), some (.int (nds.length : Int)), some (.int (nd : Int)), some (.ref nm), o6, o7, some (.ref p1), none, none, none, none] rfl ?_
    refine cut1 fun Rk kR => ?_
    refine ⟨_, rfl, nm, _, rfl, .inl (SqL.of (s25 _ _ gnm2)), fun hd nhd => ?_⟩
    have shd := same_new nhd (.lst (named.map V.int))
    have ghd : (upd H25 hd (.lst (named.map V.int))) hd = some (.lst (named.map V.int)) := upd_same
    generalize upd H25 hd (.lst (named.map V.int)) = H3 at shd ghd ⊢
    have s3 := same_trans s25 shd
    have gp1 := shd _ _ gp1
    have gB1 := shd _ _ gB1
    have gI1 := shd _ _ gI1
    have gN1 := shd _ _ gN1
    have gnm3 := s3 _ _ gnm2
    have hdr := (l12.rl.same s25).ne nhd
    refine gn_go ?_
    refine kR _ _ ?_
    clear kR
    refine normS [some (.ref r), some (.ref p), some (.bl wk), some (.int (nds.length : Int)), some (.int (nd : Int)), some (.ref nm), o6, o7, some (.ref p1), some (.ref hd), none, none, none] rfl ?_
    refine cut1 fun Rk kR => ?_
    have pt3 : Pt4 H3 B I N vb vn bs ins nds := ⟨s3 _ _ pd2.hB, s3 _ _ pd2.hI, s3 _ _ pd2.hN, Paired.mapP pd2.pb fun _ _ z => Tp.keep (Same.tk s3) z, Paired.mapP pd2.pn fun _ _ z => NpAt.keep (Same.tk s3) z⟩
    have pg3 : Pt4 H3 B1 I1 N1 vb vn bs ins nds := ⟨gB1, gI1, gN1, pt3.pb, pt3.pn⟩
    have hp3 := s3 _ _ hp2
    have l3 := l12.trans (Rl.of l12.rl s3)
    refine ⟨_, rfl, _, rfl, _, rfl, p1, B1, I1, N1, hd, vb, vn, bs, ins, nds, nd, a, named, rfl, gp1, pg3, l4, n40, hnd, ghd, nl, nr, fun q0 p' P' B' I' N' vn' sm se ps H4 gq0 td => ?_⟩
    refine gn_go ?_
    refine kR _ _ ?_
    clear kR
    refine normS [some (.ref r), some (.ref p), some (.bl wk), some (.int (nds.length : Int)), some (.int (nd : Int)), some (.ref nm), o6, o7, some (.ref p1), some (.ref hd), some (.ref q0), none, none] rfl ?_
    refine cut1 fun Rk kR => ?_
    have s4 := td.s
    have pt4 : Pt4 H4 B I N vb vn bs ins nds := ⟨s4 _ _ pt3.hB, s4 _ _ pt3.hI, s4 _ _ pt3.hN, Paired.mapP pt3.pb fun _ _ z => Tp.keep (Same.tk s4) z, Paired.mapP pt3.pn fun _ _ z => NpAt.keep (Same.tk s4) z⟩
    refine ⟨_, rfl, _, rfl, _, rfl, p, B, I, N, nm, vb, vn, bs, ins, nds, bs.map (·.1), nd, a, named, rfl, s4 _ _ hp3, pt4, ok.nd, n40, hnd, s4 _ _ gnm3, fun d F0 us H5 s5 nF0 gd gF0 pu => ?_⟩
    refine gn_go ?_
    refine kR _ _ ?_
    clear kR
    refine normS [some (.ref r), some (.ref p), some (.bl wk), some (.int (nds.length : Int)), some (.int (nd : Int)), some (.ref nm), o6, o7, some (.ref p1), some (.ref hd), some (.ref q0), some (.ref d), none] rfl ?_
    refine cut1 fun Rk kR => ?_
    have nb : ∀ a o, H3 a = some o → a ≠ B' ∧ a ≠ I' ∧ a ≠ N' ∧ a ≠ P' := fun a o ha => ⟨ne_of_none ha td.nB, ne_of_none ha td.nI, ne_of_none ha td.nN, ne_of_none ha td.nP⟩
    have ilen : ins.length ≤ 4 := Nat.le_trans (sub_len ok.ind ok.sub) (by rw [List.length_map]; exact l4)
    have wr0 : Wr3 bs ins nds := ⟨by omega, by omega, by omega, fun e he x hx => ((ok.nd e he).td x hx).2⟩
    have wr1 : Wr3 bs ins (spS nds nd a named) := ⟨by omega, by omega, by rw [spS_len]; omega, fun e he x hx => by
      obtain ⟨e0, ls, h2, rfl⟩ := spS_mem ham he
      rw [led_tolds e0 ls] at hx
      exact ((ok.nd e0 h2).td x hx).2⟩
    have keepP : ∀ {Ha Hb : Hp} {Bx Ix Nx : Addr} {vbx vnx : List V} {ndx : List Np}, Same Ha Hb → Pt4 Ha Bx Ix Nx vbx vnx bs ins ndx → Pt4 Hb Bx Ix Nx vbx vnx bs ins ndx := fun s z => ⟨s _ _ z.hB, s _ _ z.hI, s _ _ z.hN, Paired.mapP z.pb fun _ _ z => Tp.keep (Same.tk s) z, Paired.mapP z.pn fun _ _ z => NpAt.keep (Same.tk s) z⟩
    have pg4 := keepP s4 pg3
    have pt5 := keepP s5 pt4
    have pg5 := keepP s5 pg4
    have pf5 := keepP s5 td.pt
    have pd5 : Pt4 H5 B I F0 vb us bs ins (spS nds nd a named) := ⟨pt5.hB, pt5.hI, gF0, pt5.pb, pu⟩
    have s45 := same_trans s4 s5
    have gq5 := s5 _ _ gq0
    refine ⟨_, rfl, _, rfl, q0, P', .ref p', .ref d, ps, rfl, gq5, s5 _ _ td.hP, prog_al wr1 (s5 _ _ td.hp) gd pf5 pd5, fun H6 s6 => ⟨_, rfl, iteF' rfl ?_⟩⟩
    have s36 := same_trans s45 s6
    refine ⟨_, rfl, _, rfl, true, prog_rb wr0 (s36 _ _ gp1) (s36 _ _ hp3) (keepP s36 pg3) (keepP s36 pt3), _, rfl, iteF ⟨_, rfl, _, rfl, true, (by have := RB.ints (K := K) (n := 2) (s36 _ _ ghd) (s36 _ _ gnm3); rwa [decide_eq_true rfl] at this), _, rfl, iteF (kR _ _ ?_)⟩⟩
    clear kR
    refine cut1 fun Rk kR => ?_
    have bt : BsT bs := ⟨l4, ok.bx.nd, fun b hb => (ok.bx.sz b hb).1, fun b hb => (ok.bx.sz b hb).2⟩
    have pap6 : Pap K tO H6 p d P' ps sm se bs nds (spS nds nd a named) (spV nds nd a) := by
      have s56 := same_trans s5 s6
      have z1 := keepP s36 pt3
      have z2 := keepP s6 pd5
      exact ⟨⟨B, I, N, vb, vn, ins, s36 _ _ hp3, z1.hB, z1.pb, z1.hN, z1.pn, z1.hI⟩, ⟨B, I, F0, vb, us, ins, s6 _ _ gd, z2.hB, z2.pb, z2.hN, z2.pn, z2.hI⟩, fun e he => (ok.nd e he).t, s56 _ _ td.hP, Paired.mapP td.pp fun _ _ z => LvAt.keep (Same.tk s56) z, by rw [spV_len]; omega, cnd_of l4 ok.bx.nd (EK.keep (Same.tk s56) td.ek) td.bt, split_sims ok.nd hnd, bt⟩
    have l6 := l3.trans (Rl.of l3.rl s36)
    have gq6 := s6 _ _ gq5
    have fin : ∀ H7, Same H6 H7 → Rk [some (.ref r), some (.ref p), some (.bl wk), some (.int (nds.length : Int)), some (.int (nd : Int)), some (.ref nm), o6, o7, some (.ref p1), some (.ref hd), some (.ref q0), some (.ref d), none] H7 := fun H7 s7 => by
      refine kR _ _ ?_
      clear kR
      refine cut1 fun Rk kR => ?_
      have l7 := l6.trans (Rl.of l6.rl s7)
      have pap7 := pap6.rl l6.rl (Rl.of l6.rl s7)
      have gq7 := s7 _ _ gq6
      refine ⟨_, rfl, _, rfl, _, rfl, _, rfl, q0, _, _, _, rfl, rfl, SqT.of gq7, rfl, r, p, d, P', ps, sm, se, bs, nds, _, _, rfl, l7.rl, pap7, fun H8 l8 => ⟨_, rfl, iteF' rfl (kR _ _ ?_)⟩⟩
      clear kR
      refine cut1 fun Rk kR => ?_
      have s48 := same_trans s5 (same_trans s6 s7)
      have reel4 := l3.rl.same s4
      have l48 := (Rl.of reel4 s48).trans l8
      have l38 := (Rl.of l3.rl s4).trans l48
      have lH8 := l7.trans l8
      have tk48 := Rl.tk reel4 l48
      have tk38 := Rl.tk l3.rl l38
      obtain ⟨ra, rb, hr3, _⟩ := id l3.rl
      have nrr := nb r _ hr3
      have gB8 := l48.k _ _ nrr.1.symm td.pt.hB
      have gI8 := l48.k _ _ nrr.2.1.symm td.pt.hI
      have gN8 := l48.k _ _ nrr.2.2.1.symm td.pt.hN
      have gP8 := l48.k _ _ nrr.2.2.2.symm td.hP
      have gp8 := tk48 _ _ td.hp
      have gq8 := tk48 _ _ gq0
      have vbl := Paired.length td.pt.pb
      have vn'l := Paired.length td.pt.pn
      rw [spS_len] at vn'l
      have tne : ∀ {a : Addr} {xs : List V}, H8 a = some (.tup xs) → a ≠ B' ∧ a ≠ I' ∧ a ≠ N' ∧ a ≠ P' := fun e => ⟨ne_of e gB8 (fun z => nomatch z), ne_of e gI8 (fun z => nomatch z), ne_of e gN8 (fun z => nomatch z), ne_of e gP8 (fun z => nomatch z)⟩
      refine ⟨_, rfl, q0, _, _, _, rfl, rfl, SqT.of gq8, rfl, p', rfl, ⟨_, SqT.of gp8⟩, ?_⟩
      refine for_tup (xs := [.ref B', .ref I', .ref N']) (fun i σ Hx => (∃ o9, σ = [some (.ref r), some (.ref p), some (.bl wk), some (.int (nds.length : Int)), some (.int (nd : Int)), some (.ref nm), o6, o7, some (.ref p1), some (.ref hd), some (.ref q0), some (.ref d), o9]) ∧ (∀ a o, a ≠ B' → a ≠ I' → a ≠ N' → H8 a = some o → Hx a = some o) ∧ (∀ a, (a = B' ∨ a = I' ∨ a = N') → ∃ xs, Hx a = some (.lst xs) ∧ xs.length ≤ 330 + i)) ⟨⟨_, rfl⟩, (fun a o _ _ _ z => z), fun a ha => ?_⟩ (fun i σ Hx _ z => SqT.of (z.2.1 _ _ (tne gp8).1 (tne gp8).2.1 (tne gp8).2.2.1 gp8)) (fun i x0 σ Hx hx z => ?_) (fun σ H10 z => ?_)
      · rcases ha with rfl | rfl | rfl
        · exact ⟨_, gB8, by omega⟩
        · exact ⟨_, gI8, by rw [List.length_map]; omega⟩
        · exact ⟨_, gN8, by omega⟩
      · obtain ⟨⟨o9, rfl⟩, kx, lx⟩ := z
        obtain ⟨a, rfl, ha⟩ : ∃ a, x0 = .ref a ∧ (a = B' ∨ a = I' ∨ a = N') := by
          match i, hx with
          | 0, hx => cases hx; exact ⟨_, rfl, .inl rfl⟩
          | 1, hx => cases hx; exact ⟨_, rfl, .inr (.inl rfl)⟩
          | 2, hx => cases hx; exact ⟨_, rfl, .inr (.inr rfl)⟩
        have i3 : i < 3 := (List.getElem?_eq_some_iff.mp hx).1
        obtain ⟨xs, gx, xl⟩ := lx a ha
        refine gn_go ?_
        refine normS [some (.ref r), some (.ref p), some (.bl wk), some (.int (nds.length : Int)), some (.int (nd : Int)), some (.ref nm), o6, o7, some (.ref p1), some (.ref hd), some (.ref q0), some (.ref d), some (.ref a)] rfl ?_
        refine ⟨_, rfl, .inl ⟨rfl, _, SqL.of gx⟩, a, _, _, rfl, rfl, gx, small1000 (by omega), ⟨_, rfl⟩, fun b o n1 n2 n3 hb => ?_, fun b hb => ?_⟩
        · have : b ≠ a := by rcases ha with rfl | rfl | rfl <;> assumption
          rw [upd_ne this]
          exact kx b o n1 n2 n3 hb
        · by_cases e : b = a
          · subst e
            exact ⟨_, upd_same, by rw [List.length_append]; show _ + 1 ≤ _; omega⟩
          · rw [upd_ne e]
            obtain ⟨ys, gy, yl⟩ := lx b hb
            exact ⟨ys, gy, by omega⟩
      obtain ⟨⟨o9, rfl⟩, kx, lx⟩ := z
      refine kR _ _ ?_
      clear kR
      have k810 : ∀ a o, (a ≠ B' ∧ a ≠ I' ∧ a ≠ N' ∧ a ≠ P') → H8 a = some o → H10 a = some o := fun a o n z => kx a o n.1 n.2.1 n.2.2.1 z
      have tk810 : TK H8 H10 := fun a xs z => k810 a _ (tne z) z
      have tk310 := tk38.trans tk810
      have nF := fun a (o : HO) (z : H4 a = some o) => ne_of_none z nF0
      have nFs : F0 ≠ B' ∧ F0 ≠ I' ∧ F0 ≠ N' ∧ F0 ≠ P' := ⟨(nF _ _ td.pt.hB).symm, (nF _ _ td.pt.hI).symm, (nF _ _ td.pt.hN).symm, (nF _ _ td.hP).symm⟩
      have F0r := reel4.ne nF0
      have g310 : ∀ a o, a ≠ r → H3 a = some o → H10 a = some o := fun a o n z => k810 a o (nb a o z) (l38.k _ _ n z)
      have kR4 : ∀ {Bx Ix Nx : Addr} {vnx : List V}, Bx ≠ r → Ix ≠ r → Nx ≠ r → Pt4 H3 Bx Ix Nx vb vnx bs ins nds → Pt4 H10 Bx Ix Nx vb vnx bs ins nds := fun n1 n2 n3 z => ⟨g310 _ _ n1 z.hB, g310 _ _ n2 z.hI, g310 _ _ n3 z.hN, Paired.mapP z.pb fun _ _ z => Tp.keep tk310 z, Paired.mapP z.pn fun _ _ z => NpAt.keep tk310 z⟩
      have pg10 := kR4 (l12.rl.ne nB1) (l12.rl.ne nI1) (l12.rl.ne nN1) pg3
      have pt10 := kR4 pd.nB pd.nI pd.nN pt3
      have reel5 := reel4.same s5
      have l58 := (Rl.of reel5 (same_trans s6 s7)).trans l8
      have tk510 := (Rl.tk reel5 l58).trans tk810
      have pd10 : Pt4 H10 B I F0 vb us bs ins (spS nds nd a named) := ⟨pt10.hB, pt10.hI, k810 _ _ nFs (l58.k _ _ F0r gF0), pt10.pb, Paired.mapP pu fun _ _ z => NpAt.keep tk510 z⟩
      have gd10 := tk510 _ _ gd
      have l10 : Rl r H H10 := by
        obtain ⟨r1, r2, hr8, _⟩ := id lH8.rl
        exact ⟨⟨r1, r2, k810 _ _ nrr hr8, True.intro⟩, fun a o n z => g310 a o n (l3.k _ _ n z)⟩
      refine ⟨_, rfl, _, rfl, true, prog_rb wr0 (tk310 _ _ gp1) (tk310 _ _ hp3) pg10 pt10, _, rfl, iteT ?_⟩
      refine ⟨_, rfl, _, rfl, _, rfl, p1, B1, I1, N1, hd, vb, vn, bs, ins, nds, nd, a, named, rfl, tk310 _ _ gp1, pg10, l4, n40, hnd, g310 _ _ hdr ghd, nl, nr, fun q1 p2' P2' B2' I2' N2' vn2' sm2 se2 ps2 H11 gq1 td2 => ?_⟩
      exact ⟨_, rfl, q1, P2', .ref p2', .ref d, ps2, rfl, gq1, td2.hP, prog_al wr1 td2.hp (td2.s _ _ gd10) td2.pt (keepP td2.s pd10), fun H12 s12 => q _ (l10.trans (Rl.of l10.rl (same_trans td2.s s12)))⟩
    cases wk with
    | false => exact ⟨_, rfl, _, rfl, iteF' rfl (fin _ (same_refl _))⟩
    | true =>
      have w2 := wks rfl
      have pr := ok.bx.pr
      have fw := ok.few
      refine ⟨_, rfl, _, rfl, iteT' rfl ?_⟩
      refine ⟨_, rfl, _, rfl, _, rfl, q0, _, _, _, rfl, rfl, SqT.of gq6, rfl, p, d, P', ps, sm, se, bs, nds, _, _, rfl, pap6, by omega, ?_, fun H7 s7 => ⟨_, rfl, iteF' rfl (fin _ s7)⟩⟩
      rw [spV_len]
      omega
theorem has_ca {tO : Addr} (s : Src K mg "_law_case" sCa) (m_len : mg "len" = none) (TK00 : Has P w K mg base "_law_next" ["pot", "many"] 1 spNext) (CP0 : Has P w K mg base "_law_copy" ["program"] 1 spCopy) (m_range : mg "range" = none) (m_list : mg "list" = none) (OV0 : Has P w K mg base "split_node" ["program", "node", "named"] 11 (spSplit K tO)) (DU0 : Has P w K mg base "_law_due" ["program", "node", "named"] 2 spDu) (IM0 : Has P w K mg base "_law_is_made" ["found", "due"] 36 (spMade 34)) (SH : Has P w K mg base "_law_shows" ["one", "other", "paper"] 55 (spSh K tO)) (LA : Has P w K mg base "_law_looked_at" ["pot", "one", "other", "paper"] 55 (spLa K tO)) : Has P w K mg base "_law_case" ["pot", "program", "walked"] 56 (spCa K tO) :=
  let ⟨f, fd, F, m⟩ := s
  ⟨f, fd, ok_ca F m_len TK00 CP0 m_range m_list OV0 DU0 IM0 SH LA, F.kp, bnd3 F fun _ _ _ _ _ _ _ _ _ => rfl, m⟩
end
end TW
set_option Elab.async false
set_option linter.all false
set_option maxRecDepth 100000
set_option exponentiation.threshold 4000
set_option maxHeartbeats 1000000
namespace TW
open PySem L2
section
variable {P : Program} {w : World} {K : PySem.W.Frag} {mg : Str → Option Value} {base : Heap}
abbrev sSh : Stmt := top 39
/-! ### _law_shows -/
theorem rb_tints {K : PySem.W.Frag} {H : Hp} {n : Nat} {a c : Addr} {ms ys : List Int} (ha : H a = some (.tup (ms.map V.int))) (hb : H c = some (.tup (ys.map V.int))) : ∃ b, RB K H n (.ref a) (.ref c) b ∧ (b = true → ms = ys) := by
  refine ⟨_, ⟨a, c, _, _, rfl, rfl, .inr (.inr ⟨fun j => decide (ms[j]? = ys[j]?), SqT.of ha, SqT.of hb, fun j x y hx hy => ?_, rfl⟩)⟩, fun h => ?_⟩
  · obtain ⟨x0, hx0, rfl⟩ := map_get hx
    obtain ⟨y0, hy0, rfl⟩ := map_get hy
    have e : decide (ms[j]? = ys[j]?) = eqV (.int x0) (.int y0) := by
      rw [hx0, hy0]
      by_cases e : x0 = y0 <;> simp [e, eqV]
    show EB K H n (.int x0) (.int y0) (decide (ms[j]? = ys[j]?))
    rw [e]
    exact .flat rfl rfl
  · rw [Bool.and_eq_true, List.length_map, List.length_map] at h
    have hl : ms.length = ys.length := by simpa using h.2
    apply List.ext_getElem?
    intro j
    by_cases hj : j < ms.length
    · exact of_decide_eq_true (List.all_eq_true.mp h.1 j (List.mem_range.mpr (by omega)))
    · rw [List.getElem?_eq_none (by omega), List.getElem?_eq_none (by omega)]
def is00 (H : Hp) (a : Addr) : Bool := match H a with
  | some (.tup [.int p, .int q]) => eqV (.int p) (.int 0) && (eqV (.int q) (.int 0) && true)
  | _ => false
theorem eb_00 {K : PySem.W.Frag} {H : Hp} {a z : Addr} {p q : Int} (hne : a ≠ z) (ha : H a = some (.tup [.int p, .int q])) (hz : H z = some (.tup [.int 0, .int 0])) : EB K H 1 (.ref a) (.ref z) (is00 H a) := by
  have e : is00 H a = ((List.range (min ([V.int p, .int q]).length ([V.int 0, .int 0]).length)).all (fun j => if j = 0 then eqV (.int p) (.int 0) else eqV (.int q) (.int 0)) && ([V.int p, .int q]).length == ([V.int 0, .int 0]).length) := by
    unfold is00
    rw [ha]
    show _ = ((eqV (.int p) (.int 0) && (eqV (.int q) (.int 0) && true)) && true)
    rw [Bool.and_true]
  rw [e]
  refine EB.tup hne (SqT.of ha) (SqT.of hz) fun j x y hx hy => ?_
  match j, hx, hy with
  | 0, hx, hy => cases hx; cases hy; exact .flat rfl rfl
  | 1, hx, hy => cases hx; cases hy; exact .flat rfl rfl
theorem scSh : FnScope ["one", "other", "paper", "there", "places", "mine", "yours", "known", "p", "q", "entry"] ["one", "other", "paper"] (defScope sSh) := ⟨rfl, rfl, rfl, by decide +kernel, rfl, by decide +kernel, by decide +kernel⟩
theorem gSh_law_begins : (defScope sSh).names.lookup (Str.ofString "_law_begins") = some .globalImplicit := by decide +kernel
theorem gSh_law_by_names : (defScope sSh).names.lookup (Str.ofString "_law_by_names") = some .globalImplicit := by decide +kernel
theorem gSh_law_by_places : (defScope sSh).names.lookup (Str.ofString "_law_by_places") = some .globalImplicit := by decide +kernel
theorem gSh_law_counting : (defScope sSh).names.lookup (Str.ofString "_law_counting") = some .globalImplicit := by decide +kernel
theorem gSh_law_every : (defScope sSh).names.lookup (Str.ofString "_law_every") = some .globalImplicit := by decide +kernel
theorem gSh_law_well : (defScope sSh).names.lookup (Str.ofString "_law_well") = some .globalImplicit := by decide +kernel
theorem gSh_sorted : (defScope sSh).names.lookup (Str.ofString "sorted") = some .globalImplicit := by decide +kernel
theorem ok_sh {tO : Addr} {f : Addr} {fd : FuncData} (F : Fun K "_law_shows" "_law_shows" sSh f fd) (m_sorted : mg "sorted" = none) (BN0 : Has P w K mg base "_law_by_names" ["program", "word", "worths"] 1 spBn) (EV0 : Has P w K mg base "_law_every" ["program"] 1 spEv) (BE0 : Has P w K mg base "_law_begins" ["program", "worths"] 1 spBe) (BP0 : Has P w K mg base "_law_by_places" ["paper"] 1 (spBp tO)) (CT0 : Has P w K mg base "_law_counting" ["there", "p", "q", "known"] 52 (spCt K tO)) (WE0 : Has P w K mg base "_law_well" ["one", "other", "there_are", "entry", "mine", "yours", "known"] 53 (spWe K tO)) : FnOk P w K mg base CX0 55 f fd ["one", "other", "paper"] (spSh K tO) := by
  refine F.ok scSh (fun vs H Q E h => ?_) (fun cdv A outer s H vs Q E hr h => ?_)
  · obtain ⟨p1, p2, P0, ps, sm, se, bs, nds, nds', lv, rfl, _⟩ := h
    rfl
  · obtain ⟨p1, p2, P0, ps, sm, se, bs, nds, nds', lv, rfl, pap, pr, l64, q⟩ := h
    have BN := BN0.mono (show 1 ≤ 54 by omega)
    have EV := EV0.mono (show 1 ≤ 54 by omega)
    have BE := BE0.mono (show 1 ≤ 54 by omega)
    have BP := BP0.mono (show 1 ≤ 54 by omega)
    have CT := CT0.mono (show 52 ≤ 54 by omega)
    have WE := WE0.mono (show 53 ≤ 54 by omega)
    have l4 := pap.bt.l4
    have l9 := pap.l9
    refine goL ⟨_, (L3.cons (L3.set 3 scSh.nd (L3.own BP hr gSh_law_by_places (L3.k (L3.v 2) L3.n)))
      (L3.cons (L3.set 4 scSh.nd (L3.callB L3.c_sortedT gSh_sorted m_sorted (by decide +kernel) (L3.k (L3.v 3) L3.n)))
      (L3.cons (L3.ifs (L3.cmp (L3.o_notInR (m := 1) (up_ne hr _ (by decide))) (L3.tup (L3.k L3.int (L3.k L3.int L3.n))) (L3.v 4) (by rfl)) (L3.one (L3.ret L3.bl)) L3.nil)
      (L3.cons (L3.for_ (L3.iL (L3.own EV hr gSh_law_every (L3.k (L3.v 0) L3.n))) (L3.gn 5 scSh.nd) (L3.one (L3.for_ (L3.iL (L3.own EV hr gSh_law_every (L3.k (L3.v 1) L3.n))) (L3.gn 6 scSh.nd) (L3.cons (L3.set 7 scSh.nd (L3.own BN hr gSh_law_by_names (L3.k (L3.v 0) (L3.k L3.str (L3.k (L3.v 5) L3.n)))))
      (L3.cons (L3.ex (L3.update (up_ne hr _ (by decide)) (L3.v 7) (L3.own BN hr gSh_law_by_names (L3.k (L3.v 1) (L3.k L3.str (L3.k (L3.v 6) L3.n))))))
      (L3.cons (L3.for_ (L3.iL (L3.v 4)) (L3.gtup 2 (L3.gsk (L3.gn 8 scSh.nd) (L3.gsk (L3.gn 9 scSh.nd) L3.gsn))) (L3.cons (L3.set 10 scSh.nd (L3.own CT hr gSh_law_counting (L3.k (L3.v 3) (L3.k (L3.v 8) (L3.k (L3.v 9) (L3.k (L3.v 7) L3.n))))))
      (L3.one (L3.ifs (L3.cmp L3.o_notN (L3.v 10) L3.non) (L3.one (L3.ifs (L3.nt (L3.tval (L3.own WE hr gSh_law_well (L3.k (L3.v 0) (L3.k (L3.v 1) (L3.k (L3.v 3) (L3.k (L3.v 10) (L3.k (L3.v 5) (L3.k (L3.v 6) (L3.k (L3.v 7) L3.n)))))))))) (L3.one (L3.ret L3.bl)) L3.nil)) L3.nil))))
      (L3.one (L3.ifs (L3.tw (L3.and2 (L3.cmp (L3.o_eqD (m := 2) (up_ne hr _ (by decide))) (L3.v 5) (L3.v 6)) (L3.and1 (L3.tval (L3.own BE hr gSh_law_begins (L3.k (L3.v 0) (L3.k (L3.v 5) L3.n))))))) (L3.one (L3.ifs (L3.cmp L3.o_isN (L3.own CT hr gSh_law_counting (L3.k (L3.v 3) (L3.k L3.int (L3.k L3.int (L3.k (L3.v 7) L3.n))))) L3.non) (L3.one (L3.ret L3.bl)) L3.nil)) L3.nil))))))))
      (L3.one (L3.ret L3.bl)))))), ?_⟩
    refine cut1 fun Rk kR => ?_
    refine ⟨_, rfl, P0, ps, sm, lv, rfl, pap.hP, pap.pp, l9, fun D H1 s1 nD th => ?_⟩
    refine gn_go ?_
    refine kR _ _ ?_
    clear kR
    refine normS [some (.ref p1), some (.ref p2), some (.ref P0), some (.ref D), none, none, none, none, none, none, none] rfl ?_
    refine cut1 fun Rk kR => ?_
    obtain ⟨kvs, gD, kl, c1, c2, c3⟩ := th.ex
    refine ⟨_, rfl, D, kvs, rfl, gD, by omega, (fun k hk => let ⟨e, _, ee⟩ := c3 k hk; ⟨_, _, ee⟩), fun L as nL al ha hb => ?_⟩
    have s2 := same_new nL (.lst (as.map V.ref))
    have gL : (upd H1 L (.lst (as.map V.ref))) L = some (.lst (as.map V.ref)) := upd_same
    generalize upd H1 L (.lst (as.map V.ref)) = H2 at s2 gL ⊢
    refine gn_go ?_
    refine kR _ _ ?_
    clear kR
    refine normS [some (.ref p1), some (.ref p2), some (.ref P0), some (.ref D), some (.ref L), none, none, none, none, none, none] rfl ?_
    refine cut1 fun Rk kR => ?_
    refine ⟨(by show 2 ≤ sizeLine; decide), fun z hz => ?_⟩
    have s3 := same_new hz (.tup [.int 0, .int 0])
    have gz : (upd H2 z (.tup [.int 0, .int 0])) z = some (.tup [.int 0, .int 0]) := upd_same
    generalize upd H2 z (.tup [.int 0, .int 0]) = H3 at s3 gz ⊢
    have s13 := same_trans s2 s3
    have any0 : as.any (is00 H3) = true := by
      obtain ⟨f0, hf0, e1, e2⟩ := pap.sim.zero
      obtain ⟨v, hv⟩ := c2 f0 hf0
      rw [e1, e2] at hv
      obtain ⟨a, ha0, hat⟩ := hb 0 0 (valV_in hv)
      refine List.any_eq_true.mpr ⟨a, ha0, ?_⟩
      unfold is00
      rw [s13 _ _ hat]
      rfl
    refine ⟨_, rfl, L, as, is00 H3, rfl, SqL.of (s3 _ _ gL), (fun a haa => ?_), _, rfl, iteF' (by rw [any0]; rfl) (kR _ _ ?_)⟩
    · obtain ⟨p, q, _, hat⟩ := ha a haa
      exact eb_00 (ne_of_none (s2 _ _ hat) hz) (s13 _ _ hat) gz
    clear kR
    refine cut1 fun Rk kR => ?_
    have sH3 := same_trans s1 s13
    have st3 : Sit K tO H3 p1 p2 D sm se bs nds nds' lv := ⟨pap.g1.same sH3, pap.g2.same sH3, pap.nt, th.same s13, l9, pap.cn.same sH3, pap.sim, pap.bt⟩
    have gL3 := s3 _ _ gL
    have as3 : ∀ a ∈ as, ∃ p q : Int, H3 a = some (.tup [.int p, .int q]) := fun a haa => let ⟨p, q, _, hat⟩ := ha a haa; ⟨p, q, s13 _ _ hat⟩
    refine ⟨_, rfl, p1, bs, rfl, st3.g1.bx, pap.bt.sz, by omega, l4, fun M1 xs1 H4 s4 nM1 gM1 xl1 hx1 => ?_⟩
    refine ⟨M1, rfl, ⟨_, SqL.of gM1⟩, ?_⟩
    refine for_list (xs := xs1) (fun i σ Hx => (∃ o5 o6 o7 o8 o9 o10, σ = [some (.ref p1), some (.ref p2), some (.ref P0), some (.ref D), some (.ref L), o5, o6, o7, o8, o9, o10]) ∧ Same H4 Hx) ⟨⟨_, _, _, _, _, _, rfl⟩, same_refl _⟩ (fun i σ Hx _ z => SqL.of (z.2 _ _ gM1)) (fun i x0 σ Hx hx z => ?_) (fun σ Hx z => ?_)
    · obtain ⟨⟨o5, o6, o7, o8, o9, o10, rfl⟩, sx⟩ := z
      obtain ⟨ms, ⟨am, rfl, gam⟩, msl⟩ := TpN.keep (Same.tk sx) (hx1 x0 (List.mem_of_getElem? hx))
      have s3x := same_trans s4 sx
      have stx := st3.same s3x
      refine gn_go ?_
      refine normS [some (.ref p1), some (.ref p2), some (.ref P0), some (.ref D), some (.ref L), some (.ref am), o6, o7, o8, o9, o10] rfl ?_
      refine ⟨_, rfl, p2, bs, rfl, stx.g2.bx, pap.bt.sz, by omega, l4, fun M2 xs2 H5 s5 nM2 gM2 xl2 hx2 => ?_⟩
      refine ⟨M2, rfl, ⟨_, SqL.of gM2⟩, ?_⟩
      refine for_list (xs := xs2) (fun j σ Hy => (∃ o6 o7 o8 o9 o10, σ = [some (.ref p1), some (.ref p2), some (.ref P0), some (.ref D), some (.ref L), some (.ref am), o6, o7, o8, o9, o10]) ∧ Same H5 Hy) ⟨⟨_, _, _, _, _, rfl⟩, same_refl _⟩ (fun j σ Hy _ z => SqL.of (z.2 _ _ gM2)) (fun j y0 σ Hy hy z => ?_) (fun σ Hy z => ?_)
      · obtain ⟨⟨o6, o7, o8, o9, o10, rfl⟩, sy⟩ := z
        obtain ⟨ys, ⟨ay, rfl, gay⟩, ysl⟩ := TpN.keep (Same.tk sy) (hx2 y0 (List.mem_of_getElem? hy))
        have sxy := same_trans s5 sy
        have s3y := same_trans s3x sxy
        have sty := st3.same s3y
        have gamy := sxy _ _ gam
        refine gn_go ?_
        refine normS [some (.ref p1), some (.ref p2), some (.ref P0), some (.ref D), some (.ref L), some (.ref am), some (.ref ay), o7, o8, o9, o10] rfl ?_
        refine cut1 fun Rk kR => ?_
        obtain ⟨B, I, N, vb, hp, hB, pb⟩ := sty.g1.bx.ex
        obtain ⟨B2, I2, N2, vb2, hp2, hB2, pb2⟩ := sty.g2.bx.ex
        refine ⟨_, rfl, _, rfl, p1, B, I, N, am, "mine", vb, bs, ms, rfl, hp, hB, pb, gamy, msl.symm, by omega, fun D1 H6 s6 nD1 gD1 => ?_⟩
        refine gn_go ?_
        refine kR _ _ ?_
        clear kR
        refine normS [some (.ref p1), some (.ref p2), some (.ref P0), some (.ref D), some (.ref L), some (.ref am), some (.ref ay), some (.ref D1), o8, o9, o10] rfl ?_
        refine cut1 fun Rk kR => ?_
        refine ⟨_, rfl, D1, rfl, .inr ⟨_, .inl gD1⟩, _, rfl, _, rfl, p2, B2, I2, N2, ay, "yours", vb2, bs, ys, rfl, s6 _ _ hp2, s6 _ _ hB2, (Paired.mapP pb2 fun _ _ z => Tp.keep (Same.tk s6) z), s6 _ _ gay, ysl.symm, (by omega), fun D2 H7 s7 nD2 gD2 => ?_⟩
        have DD : D1 ≠ D2 := ne_of_none gD1 nD2
        have k1 := kvW_len (word := "mine") bs ms msl.symm
        have k2 := kvW_len (word := "yours") bs ys ysl.symm
        have gDz := s7 _ _ gD1
        have n1 := kvW_put (word := "mine") bs ms msl.symm pap.bt.nd
        have n2 := kvW_put (word := "yours") bs ys ysl.symm pap.bt.nd
        rw [n1] at gDz
        rw [n2] at gD2
        refine ⟨D2, _, _, rfl, gDz, gD2, DD, (by cases bs with | nil => exact .inr rfl | cons b r => cases ms with | nil => simp at msl | cons m r2 => exact .inl (fun z => nomatch z)), ?_, ?_⟩
        · have : 1000 ≤ sizeLine := by decide
          omega
        have sy8 := same_put (o := .dT (putAllT (kvW "mine" bs ms) (kvW "yours" bs ys))) (same_trans s6 s7) nD1
        have kn := kn_both (H := upd H7 D1 (.dT (putAllT (kvW "mine" bs ms) (kvW "yours" bs ys)))) (D := D1) pap.bt.nd msl.symm ysl.symm (by rw [n1]; exact upd_same)
        generalize upd H7 D1 (.dT (putAllT (kvW "mine" bs ms) (kvW "yours" bs ys))) = H8 at sy8 kn ⊢
        refine kR _ _ ?_
        clear kR
        refine cut1 fun Rk kR => ?_
        have s38 := same_trans s3y sy8
        have st8 := st3.same s38
        refine ⟨_, rfl, L, rfl, ⟨_, SqL.of (s38 _ _ gL3)⟩, ?_⟩
        refine for_list (xs := as.map V.ref) (fun k σ Hz => (∃ o8 o9 o10, σ = [some (.ref p1), some (.ref p2), some (.ref P0), some (.ref D), some (.ref L), some (.ref am), some (.ref ay), some (.ref D1), o8, o9, o10]) ∧ Same H8 Hz) ⟨⟨_, _, _, rfl⟩, same_refl _⟩ (fun k σ Hz _ z => SqL.of (z.2 _ _ (s38 _ _ gL3))) (fun k w0 σ Hz hw z => ?_) (fun σ Hz z => ?_)
        · obtain ⟨⟨o8, o9, o10, rfl⟩, sz⟩ := z
          obtain ⟨a, haa, rfl⟩ := map_get hw
          obtain ⟨p, q', hat⟩ := as3 a (List.mem_of_getElem? haa)
          have stz := st8.same sz
          refine ⟨a, _, rfl, SqT.of (sz _ _ (s38 _ _ hat)), rfl, _, _, rfl, _, _, rfl, rfl, ?_⟩
          refine normS [some (.ref p1), some (.ref p2), some (.ref P0), some (.ref D), some (.ref L), some (.ref am), some (.ref ay), some (.ref D1), some (.int p), some (.int q'), o10] rfl ?_
          refine cut1 fun Rk kR => ?_
          refine ⟨_, rfl, _, rfl, _, rfl, _, rfl, D, D1, p, q', sm, se, lv, bs, _, rfl, stz.th, l9, stz.cn, kn.same sz, fun hh x6 e6 H9 s9 he6 e61 e62 le6 => ?_, fun z H9 s9 => ?_⟩
          · have le6' := le6
            obtain ⟨pe6, rfl, hpe6⟩ := le6
            have my : ms = ys := by
              rw [pap.cn.iff ms ys msl.symm ysl.symm] at hh
              exact of_decide_eq_true hh
            subst my
            refine gn_go ?_
            refine kR _ _ ?_
            refine normS [some (.ref p1), some (.ref p2), some (.ref P0), some (.ref D), some (.ref L), some (.ref am), some (.ref ay), some (.ref D1), some (.int p), some (.int q'), some (.ref pe6)] rfl ?_
            refine ⟨_, rfl, rfl, _, rfl, ?_⟩
            rw [V.ref_non]
            refine iteT ?_
            have sz9 := same_trans sz s9
            have sy9 := same_trans sy8 sz9
            refine ⟨_, rfl, _, rfl, _, rfl, _, rfl, _, rfl, _, rfl, _, rfl, p1, p2, D, am, ay, D1, .ref pe6, sm, se, bs, nds, nds', lv, e6, ms, _, rfl, stz.same s9, he6, le6', sy9 _ _ gamy, sy9 _ _ gay, msl.symm, kn.same sz9, fun H10 s10 => ⟨_, rfl, iteF' rfl ?_⟩⟩
            exact ⟨⟨_, _, _, rfl⟩, same_trans sz9 s10⟩
          · refine gn_go ?_
            refine kR _ _ ?_
            refine ⟨_, rfl, rfl, _, rfl, iteF' (by decide) ?_⟩
            exact ⟨⟨_, _, _, rfl⟩, same_trans sz s9⟩
        obtain ⟨⟨o8, o9, o10, rfl⟩, sz⟩ := z
        refine kR _ _ ?_
        clear kR
        have syz := same_trans sy8 sz
        have stz := st8.same sz
        obtain ⟨b, rb, hb1⟩ := rb_tints (K := K) (n := 2) (syz _ _ gamy) (syz _ _ gay)
        refine ⟨_, rfl, _, rfl, b, rb, _, rfl, ?_⟩
        cases b with
        | false => exact iteF (iteF ⟨⟨_, _, _, _, _, rfl⟩, same_trans sy syz⟩)
        | true =>
          refine iteT ?_
          have my := hb1 rfl
          subst my
          obtain ⟨B, I, N, vb, vn, ins, hp, hB, pb, hN, pn, hI⟩ := stz.g1.ex
          refine ⟨_, rfl, _, rfl, p1, B, I, N, am, vb, bs, ins, ms, rfl, hp, hB, pb, hI, syz _ _ gamy, msl.symm, l4, fun kk H9 s9 => ⟨_, rfl, ?_⟩⟩
          cases kk with
          | false => exact iteF ⟨⟨_, _, _, _, _, rfl⟩, same_trans sy (same_trans syz s9)⟩
          | true =>
            refine iteT ?_
            have sz9 := same_trans sz s9
            have stz9 := stz.same s9
            have hh : se.holds (W2 bs ms ms) = true := by rw [pap.cn.iff ms ms msl.symm msl.symm]; exact decide_eq_true rfl
            obtain ⟨f0, hf0, e1, e2⟩ := pap.sim.zero
            refine ⟨_, rfl, _, rfl, D, D1, 0, 0, sm, se, lv, bs, _, rfl, stz9.th, l9, stz9.cn, kn.same sz9, fun _ x6 e6 H10 s10 he6 e61 e62 le6 => ?_, fun z => ?_⟩
            · obtain ⟨pe6, rfl, hpe6⟩ := le6
              refine ⟨rfl, _, rfl, ?_⟩
              rw [V.ref_non]
              exact iteF ⟨⟨_, _, _, _, _, rfl⟩, same_trans sy (same_trans syz (same_trans s9 s10))⟩
            · rcases z with z | z
              · rw [hh] at z
                cases z
              · exact (z f0 hf0 e1 e2).elim
      · obtain ⟨⟨o6, o7, o8, o9, o10, rfl⟩, sy⟩ := z
        exact ⟨⟨_, _, _, _, _, _, rfl⟩, same_trans sx (same_trans s5 sy)⟩
    obtain ⟨⟨o5, o6, o7, o8, o9, o10, rfl⟩, sx⟩ := z
    refine kR _ _ ?_
    exact q _ (same_trans sH3 (same_trans s4 sx))
theorem has_sh {tO : Addr} (s : Src K mg "_law_shows" sSh) (m_sorted : mg "sorted" = none) (BN0 : Has P w K mg base "_law_by_names" ["program", "word", "worths"] 1 spBn) (EV0 : Has P w K mg base "_law_every" ["program"] 1 spEv) (BE0 : Has P w K mg base "_law_begins" ["program", "worths"] 1 spBe) (BP0 : Has P w K mg base "_law_by_places" ["paper"] 1 (spBp tO)) (CT0 : Has P w K mg base "_law_counting" ["there", "p", "q", "known"] 52 (spCt K tO)) (WE0 : Has P w K mg base "_law_well" ["one", "other", "there_are", "entry", "mine", "yours", "known"] 53 (spWe K tO)) : Has P w K mg base "_law_shows" ["one", "other", "paper"] 55 (spSh K tO) :=
  let ⟨f, fd, F, m⟩ := s
  ⟨f, fd, ok_sh F m_sorted BN0 EV0 BE0 BP0 CT0 WE0, F.kp, bnd3 F fun _ _ _ _ _ _ _ _ _ => rfl, m⟩
end
end TW
set_option Elab.async false
set_option linter.all false
set_option maxRecDepth 100000
namespace TW
open PySem L2
/-! ### a def with defaults: dV is the tuple of them -/
/-- a tuple of texts at the top -/
def TupC (K : PySem.W.Frag) (mg : Str → Option Value) (x : Str) (xs : List Str) : Prop := ∃ t, mg x = some (.ref t) ∧ ∀ H : Hp, SqT K H t (xs.map V.str)
theorem tupC_mk {K : PySem.W.Frag} {h : Heap} {mg : Str → Option Value} {x : Str} {t : Addr} {od : Option Addr} {sl : Array (Option Value)} {n : Nat} {us : Array Value} {xs : List Str} (X : K.In h) (G : h.Ns mainGlobals mg) (a : PySem.W.nsIn K mainGlobals x = some (some (.ref t))) (l : K.lookup t = some ⟨.type "tuple", od, .seq us n, sl⟩) (b : us.size ≤ sizeLine) (e : us.toList.length = xs.length) (r : Vals (xs.map V.str) us.toList) : TupC K mg x xs := ⟨_, PySem.W.mg_of X G a, fun _ => .inr ⟨_, _, _, l, rfl, rfl, b, r⟩⟩
theorem src_mk {K : PySem.W.Frag} {h : Heap} {mg : Str → Option Value} {x : Str} {st : Stmt} {od an : Option Addr} {sl : Array (Option Value)} {oc kV dc pm cd ct : Value} {f : Addr} (X : K.In h) (G : h.Ns mainGlobals mg) (a : PySem.W.nsIn K mainGlobals x = some (some (.ref f)))
    (l : K.lookup f = some ⟨oc, od, .func (PySem.W.fnOf x x (defArgs st) (defBody st) (defScope st) .none kV dc pm an cd ct), sl⟩) (c : PySem.W.codeIn K cd x = true) (k : PySem.W.keepIn K (.ref f) = true) : Src K mg x st := ⟨_, _, fun_mk l c k, PySem.W.mg_of X G a⟩
theorem tw_mk {K : PySem.W.Frag} {t : Addr} {vs : List V} {n2 : Nat} {od : Option Addr} {sl : Array (Option Value)} {us : Array Value} (lt : K.lookup t = some ⟨.type "tuple", od, .seq us n2, sl⟩) (b : us.size ≤ sizeLine) (r : Vals vs us.toList) : ∀ H : Hp, SqT K H t vs := fun _ => .inr ⟨_, _, _, lt, rfl, rfl, b, r⟩
def TupW (K : PySem.W.Frag) (mg : Str → Option Value) (x : Str) (vs : List V) : Prop := ∃ t, mg x = some (.ref t) ∧ ∀ H : Hp, SqT K H t vs
structure Tops (w : World) (K : PySem.W.Frag) (mg : Str → Option Value) : Prop where
  s_leads_of : Src K mg "leads_of" (top 4)
  s_joined_by : Src K mg "joined_by" (top 7)
  s_all_of : Src K mg "all_of" (top 8)
  s_refuse_no_nodes : Src K mg "refuse_no_nodes" (top 11)
  s_led_anew : Src K mg "led_anew" (top 12)
  s_with_nodes : Src K mg "with_nodes" (top 13)
  s_boxes_same : Src K mg "boxes_same" (top 14)
  s_all_same : Src K mg "all_same" (top 15)
  s_level_entry : Src K mg "level_entry" (top 16)
  s_split_node : Src K mg "split_node" (top 17)
  s_law_next : Src K mg "_law_next" (top 19)
  s_law_pots : Src K mg "_law_pots" (top 20)
  s_law_some_boxes : Src K mg "_law_some_boxes" (top 21)
  s_law_any_sum : Src K mg "_law_any_sum" (top 22)
  s_law_any_condition : Src K mg "_law_any_condition" (top 23)
  s_law_one_node : Src K mg "_law_one_node" (top 24)
  s_law_some_program : Src K mg "_law_some_program" (top 25)
  s_law_copy : Src K mg "_law_copy" (top 26)
  s_law_led : Src K mg "_law_led" (top 27)
  s_law_alike : Src K mg "_law_alike" (top 28)
  s_law_is_made : Src K mg "_law_is_made" (top 29)
  s_law_worth_of : Src K mg "_law_worth_of" (top 30)
  s_law_holds : Src K mg "_law_holds" (top 31)
  s_law_by_names : Src K mg "_law_by_names" (top 32)
  s_law_step : Src K mg "_law_step" (top 33)
  s_law_every : Src K mg "_law_every" (top 34)
  s_law_begins : Src K mg "_law_begins" (top 35)
  s_law_by_places : Src K mg "_law_by_places" (top 36)
  s_law_counting : Src K mg "_law_counting" (top 37)
  s_law_well : Src K mg "_law_well" (top 38)
  s_law_shows : Src K mg "_law_shows" (top 39)
  s_law_is_entry : Src K mg "_law_is_entry" (top 40)
  s_law_both : Src K mg "_law_both" (top 41)
  s_law_walked : Src K mg "_law_walked" (top 42)
  s_law_looked_at : Src K mg "_law_looked_at" (top 43)
  s_law_due : Src K mg "_law_due" (top 44)
  s_law_case : Src K mg "_law_case" (top 45)
  s_law : Src K mg "law" (top 46)
  c_YES : TupC K mg "YES" ["yes"]
  c_NOUGHT : TupW K mg "NOUGHT" [.str "number", .int 0]
  m_len : mg "len" = none
  m_list : mg "list" = none
  m_range : mg "range" = none
  m_zip : mg "zip" = none
  m_dict : mg "dict" = none
  m_int : mg "int" = none
  m_isinstance : mg "isinstance" = none
  m_bool : mg "bool" = none
  m_tuple : mg "tuple" = none
  m_sorted : mg "sorted" = none
  m_min : mg "min" = none
  m_enumerate : mg "enumerate" = none
  m_all : mg "all" = none
  m_str : mg "str" = none
  m_ValueError : mg "ValueError" = none
end TW
set_option Elab.async false
set_option linter.all false
set_option maxRecDepth 100000
set_option exponentiation.threshold 4000
set_option maxHeartbeats 1000000
namespace TW
open PySem L2
section
variable {P : Program} {w : World} {K : PySem.W.Frag} {mg : Str → Option Value} {base : Heap}
/-! ### the law -/
abbrev sLaw : Stmt := top 46
def spLaw (K : PySem.W.Frag) : Sp := fun vs H Q _ => ∃ (a : Addr) (ns : List Int), vs = [.ref a] ∧ SqL K H a (ns.map V.int) ∧ ns.length ≤ 63 ∧ ∀ H', Q (.bl true) H'
/-- pots, all of them -/
structure Pts (H : Hp) (L : Addr) (ps : List Addr) : Prop where
  hL : H L = some (.lst (ps.map V.ref))
  hr : ∀ p ∈ ps, Reel H p
theorem Pts.go {H H' : Hp} {L r : Addr} {ps : List Addr} (h : Pts H L ps) (hr : r ∈ ps) (l : Rl r H H') : Pts H' L ps := by
  refine ⟨l.k _ _ (ne_reel (h.hr r hr) h.hL fun i j e => ?_) h.hL, fun p hp => ?_⟩
  · match ps, e with
    | a :: _, e => exact nomatch e
  · by_cases e : p = r
    · rw [e]; exact l.rl
    · obtain ⟨a, b, h1, h2⟩ := h.hr p hp
      exact ⟨a, b, l.k _ _ e h1, h2⟩
theorem scLaw : FnScope ["script", "pots", "pot"] ["script"] (defScope sLaw) := ⟨rfl, rfl, rfl, by decide +kernel, rfl, by decide +kernel, by decide +kernel⟩
theorem gLaw_law_case : (defScope sLaw).names.lookup (Str.ofString "_law_case") = some .globalImplicit := by decide +kernel
theorem gLaw_law_pots : (defScope sLaw).names.lookup (Str.ofString "_law_pots") = some .globalImplicit := by decide +kernel
theorem gLaw_law_some_program : (defScope sLaw).names.lookup (Str.ofString "_law_some_program") = some .globalImplicit := by decide +kernel
theorem ok_law {tO : Addr} {f : Addr} {fd : FuncData} (F : Fun K "law" "law" sLaw f fd) (PO0 : Has P w K mg base "_law_pots" ["script"] 1 (spPots K)) (SP0 : Has P w K mg base "_law_some_program" ["pot", "most", "wide", "longest"] 11 spSomeP) (CA0 : Has P w K mg base "_law_case" ["pot", "program", "walked"] 56 (spCa K tO)) : FnOk P w K mg base CX0 65 f fd ["script"] (spLaw K) := by
  refine F.ok scLaw (fun vs H Q E h => ?_) (fun cdv A outer s H vs Q E hr h => ?_)
  · obtain ⟨a, ns, rfl, _⟩ := h
    rfl
  · obtain ⟨a, ns, rfl, ha, nl, q⟩ := h
    have PO := PO0.mono (show 1 ≤ 64 by omega)
    have SP := SP0.mono (show 11 ≤ 64 by omega)
    have CA := CA0.mono (show 56 ≤ 64 by omega)
    refine goL ⟨_, (L3.cons (L3.set 1 scLaw.nd (L3.own PO hr gLaw_law_pots (L3.k (L3.slL2 (L3.v 0) L3.int) L3.n)))
      (L3.cons (L3.for_ (L3.iL (L3.v 1)) (L3.gn 2 scLaw.nd) (L3.one (L3.ifs (L3.nt (L3.tval (L3.own CA hr gLaw_law_case (L3.k (L3.v 2) (L3.k (L3.own SP hr gLaw_law_some_program (L3.k (L3.v 2) (L3.k L3.int (L3.k L3.int (L3.k L3.int L3.n))))) (L3.k L3.bl L3.n)))))) (L3.one (L3.ret L3.bl)) L3.nil)))
      (L3.one (L3.ret (L3.own CA hr gLaw_law_case (L3.k (L3.ix L3.ixL (L3.v 1) L3.int) (L3.k (L3.own SP hr gLaw_law_some_program (L3.k (L3.ix L3.ixL (L3.v 1) L3.int) (L3.k L3.int (L3.k L3.int (L3.k L3.int L3.n))))) (L3.k L3.bl L3.n)))))))), ?_⟩
    refine cut1 fun Rk kR => ?_
    refine ⟨_, rfl, _, rfl, a, _, rfl, ha, fun l hl => ?_⟩
    rw [show (10 : Int) = ((10 : Nat) : Int) from rfl, cut_any, ← List.map_take]
    have s1 := same_new hl (.lst ((ns.take 10).map V.int))
    have g1 : (upd H l (.lst ((ns.take 10).map V.int))) l = some (.lst ((ns.take 10).map V.int)) := upd_same
    generalize upd H l (.lst ((ns.take 10).map V.int)) = H1 at s1 g1 ⊢
    refine ⟨l, ns.take 10, rfl, SqL.of g1, by rw [List.length_take]; omega, fun L ps H2 s2 nL gL p1 p63 nd hps => ?_⟩
    have pt2 : Pts H2 L ps := ⟨gL, fun p hp => (hps p hp).2.2⟩
    refine gn_go ?_
    refine kR _ _ ?_
    clear kR
    refine normS [some (.ref a), some (.ref L), none] rfl ?_
    refine cut1 fun Rk kR => ?_
    refine ⟨_, rfl, L, rfl, ⟨_, SqL.of gL⟩, ?_⟩
    refine for_list (xs := ps.map V.ref) (fun i σ Hx => (∃ o2, σ = [some (.ref a), some (.ref L), o2]) ∧ Pts Hx L ps) ⟨⟨_, rfl⟩, pt2⟩ (fun i σ Hx _ z => SqL.of z.2.hL) (fun i x0 σ Hx hx z => ?_) (fun σ Hx z => ?_)
    · obtain ⟨⟨o2, rfl⟩, pt⟩ := z
      obtain ⟨r, hr0, rfl⟩ := map_get hx
      have hrm := List.mem_of_getElem? hr0
      refine gn_go ?_
      refine normS [some (.ref a), some (.ref L), some (.ref r)] rfl ?_
      refine ⟨_, rfl, _, rfl, r, 65536, 16, 40, rfl, pt.hr r hrm, by decide, by decide, by decide, by decide, by decide, by decide, fun p B I N vb vn bs ins nds H3 l3 hp pd ok => ?_⟩
      exact ⟨r, p, B, I, N, vb, vn, bs, ins, nds, false, 65536, 40, rfl, l3.rl, hp, pd, ok, by decide, (fun z => nomatch z), fun H4 l4 => ⟨_, rfl, iteF' rfl ⟨⟨_, rfl⟩, pt.go hrm (l3.trans l4)⟩⟩⟩
    obtain ⟨⟨o2, rfl⟩, pt⟩ := z
    refine kR _ _ ?_
    clear kR
    obtain ⟨r, hr0⟩ : ∃ r, ps[0]? = some r := ⟨ps[0], List.getElem?_eq_getElem (by omega)⟩
    have hrm := List.mem_of_getElem? hr0
    have hat : atI (ps.map V.ref) 0 = some (.ref r) := atI_nat (xs := ps.map V.ref) (j := 0) (by rw [List.getElem?_map, hr0]; rfl)
    refine ⟨_, rfl, L, _, _, _, rfl, rfl, SqL.of pt.hL, hat, _, rfl, L, _, _, _, rfl, rfl, SqL.of pt.hL, hat, r, 9, 9, 6, rfl, pt.hr r hrm, by decide, by decide, by decide, by decide, by decide, by decide, fun p B I N vb vn bs ins nds H3 l3 hp pd ok => ?_⟩
    exact ⟨r, p, B, I, N, vb, vn, bs, ins, nds, true, 9, 6, rfl, l3.rl, hp, pd, ok, by decide, (fun _ => ⟨by decide, by decide⟩), fun H4 l4 => q _⟩
end
end TW
set_option Elab.async false
set_option linter.all false
set_option maxRecDepth 100000
namespace TW
open PySem L2
theorem all_of {P : Program} {w : World} {K : PySem.W.Frag} {mg : Str → Option Value} {fa : Addr} (hfa : mg "law" = some (.ref fa)) (t : Tops w K mg) :
    ∃ fd : FuncData, (∀ (s : Shared) (u : Value), BindsTo s fd ⟨[u], []⟩ [("script", u)]) ∧ ∀ base : Heap, K.In base → base.Ns mainGlobals mg → FnOk P w K mg base CX0 65 fa fd ["script"] (spLaw K) := by
  obtain ⟨f, fd, F, m⟩ := t.s_law
  have e := hfa.symm.trans m
  cases e
  refine ⟨fd, fun s u => ?_, fun base _ _ => ?_⟩
  · obtain ⟨oc, od, kV, doc, pm, an, cdv, ct, osl, rfl, lk, hcd⟩ := F.ex
    exact .of_eq rfl
  obtain ⟨tY, mY, cY⟩ := t.c_YES
  obtain ⟨tO, mO, cO⟩ := t.c_NOUGHT
  have NX : Has P w K mg base "_law_next" ["pot", "many"] 1 spNext := has_next t.s_law_next
  have PO : Has P w K mg base "_law_pots" ["script"] 1 (spPots K) := has_pots t.s_law_pots t.m_len
  have SB := has_someB t.s_law_some_boxes t.m_min NX
  have SM := has_sum t.s_law_any_sum t.m_len NX
  have CO := has_cond t.s_law_any_condition NX (SM 4)
  have NO := has_node t.s_law_one_node t.m_len t.m_int NX (SM 4) (CO 3)
  have SP := has_someP t.s_law_some_program t.m_len t.m_range NX SB NO
  have CP : Has P w K mg base "_law_copy" ["program"] 1 spCopy := has_copy t.s_law_copy t.m_list
  have LD : Has P w K mg base "_law_led" ["node", "change"] 1 spLed := has_led t.s_law_led
  have AL : ∀ n : Nat, Has P w K mg base "_law_alike" ["told", "due"] (n + 1) (spAlk n) := has_alk t.s_law_alike t.m_isinstance t.m_len t.m_zip t.m_all t.m_bool t.m_int t.m_str t.m_tuple t.m_list
  have IM := has_made t.s_law_is_made t.m_isinstance t.m_len t.m_tuple t.m_list (AL 34)
  have LE : Has P w K mg base "leads_of" ["node"] 1 spLeads := has_leads t.s_leads_of
  have RN : Has P w K mg base "refuse_no_nodes" ["program", "numbers"] 1 spRNN := has_rNN t.s_refuse_no_nodes t.m_len
  have LA0 : Has P w K mg base "led_anew" ["node", "leads"] 1 spLedA := has_ledA t.s_led_anew t.m_len t.m_tuple
  have WN : Has P w K mg base "with_nodes" ["program", "nodes"] 1 spWithN := has_withN t.s_with_nodes t.m_list
  have J : ∀ n : Nat, Has P w K mg base "joined_by" ["word", "parts"] (n + 1) (spJoin K n) := has_joined t.s_joined_by t.m_len
  have AO := has_allOf t.s_all_of (J 6)
  have BS := has_boxS t.s_boxes_same mY cY AO
  have AS := has_allS t.s_all_same BS
  have LV : Has P w K mg base "level_entry" ["program", "place", "new_place", "condition"] 1 (spLevE tO) := has_levE t.s_level_entry mO
  have OV := has_spl t.s_split_node t.m_len t.m_range t.m_enumerate RN AS LE LA0 LV WN
  have WO : ∀ n : Nat, Has P w K mg base "_law_worth_of" ["told", "known"] (n + 1) (spWo K n) := has_wo t.s_law_worth_of
  have HO := has_ho t.s_law_holds t.m_int (WO 30)
  have BN : Has P w K mg base "_law_by_names" ["program", "word", "worths"] 1 spBn := has_bn t.s_law_by_names t.m_dict t.m_zip
  have BO := has_bo t.s_law_both BN
  have ST := has_st t.s_law_step t.m_int t.m_zip t.m_tuple BN (WO 30) (HO 20)
  have BP : Has P w K mg base "_law_by_places" ["paper"] 1 (spBp tO) := has_bp t.s_law_by_places
  have CT : Has P w K mg base "_law_counting" ["there", "p", "q", "known"] 52 (spCt K tO) := has_ct t.s_law_counting (HO 20)
  have WE := has_we t.s_law_well cO BN (WO 30) ST CT
  have IE : Has P w K mg base "_law_is_entry" ["one", "other", "entry"] 1 (spIe tO) := has_ie t.s_law_is_entry t.m_isinstance t.m_len t.m_bool t.m_int t.m_str t.m_tuple
  have BE : Has P w K mg base "_law_begins" ["program", "worths"] 1 spBe := has_be t.s_law_begins t.m_all t.m_zip
  have EV : Has P w K mg base "_law_every" ["program"] 1 spEv := has_ev t.s_law_every t.m_range
  have WA := has_wa t.s_law_walked t.m_int t.m_tuple t.m_range NX BO ST CT WE
  have LA := has_la t.s_law_looked_at t.m_all t.m_len t.m_tuple t.m_range NX BO CT WE IE BP WA
  have DU := has_du t.s_law_due t.m_len t.m_range t.m_list LD
  have SH : Has P w K mg base "_law_shows" ["one", "other", "paper"] 55 (spSh K tO) := has_sh t.s_law_shows t.m_sorted BN EV BE BP CT WE
  have CA := has_ca t.s_law_case t.m_len NX CP t.m_range t.m_list OV DU IM SH LA
  exact ok_law F PO SP CA
end TW
set_option Elab.async false
set_option linter.all false
set_option maxRecDepth 100000
namespace TW
open PySem L2
theorem walk {l : PySem.W.OpenLaw} {q : Program} {loose : List Str} {XP : (Str → Option Value) → Heap → Prop} {YP : World → Heap → Prop} {d : DefRec} {K : Params → PySem.W.Frag} (hn : l.most = some 63) (hdf : d.params.defaults = [])
    (hY : ∀ (w : World) (h : Heap), YP w h → (K w.params).In h)
    (F : ∀ (w : World) (mg : Str → Option Value) (fa : Addr) (h : Heap), (K w.params).In h → h.Ns mainGlobals mg → mg d.name = some (.ref fa) →
      ∃ fd : FuncData, (∀ (s : Shared) (u : Value), BindsTo s fd ⟨[u], []⟩ [("script", u)]) ∧ ∀ base : Heap, (K w.params).In base → base.Ns mainGlobals mg → FnOk l.prog w (K w.params) mg base CX0 65 fa fd ["script"] (spLaw (K w.params))) :
    PySem.W.WalkO q loose XP YP l.row.toRowW d [] (fun f vs => PySem.call f vs) :=
  L2.walk_of (n := 63) (k := 65) (x := "script") (CX := fun _ => CX0) (sp := fun w => spLaw (K w.params)) hn (by decide) hdf ⟨rfl, by decide, by decide⟩ hY F (fun _ _ a ns hl _ hS => ⟨a, ns, rfl, hS, hl, fun _ => rfl⟩) fun _ _ _ _ _ z => z
end TW
def PySem.W.Fast.tw1001783227903329097 : Nat := 0
def PySem.W.Fast.tw1003153575219480564 : Nat := 0
def PySem.W.Fast.tw10039683761233259313 : Nat := 0
def PySem.W.Fast.tw10061373206815222607 : Nat := 0
def PySem.W.Fast.tw10153720564741939299 : Nat := 0
def PySem.W.Fast.tw10161425209719652607 : Nat := 0
def PySem.W.Fast.tw10198019477339912905 : Nat := 0
def PySem.W.Fast.tw10354099245123676181 : Nat := 0
def PySem.W.Fast.tw10354804211355743743 : Nat := 0
def PySem.W.Fast.tw10445442313763318496 : Nat := 0
def PySem.W.Fast.tw10612957524427128722 : Nat := 0
def PySem.W.Fast.tw10627893746759879759 : Nat := 0
def PySem.W.Fast.tw10689749805839431181 : Nat := 0
def PySem.W.Fast.tw10792836093796245777 : Nat := 0
def PySem.W.Fast.tw10804553157822977193 : Nat := 0
def PySem.W.Fast.tw10847063802067261206 : Nat := 0
def PySem.W.Fast.tw1087746138451538034 : Nat := 0
def PySem.W.Fast.tw11022996677850282166 : Nat := 0
def PySem.W.Fast.tw11113638874883830104 : Nat := 0
def PySem.W.Fast.tw11119621115604637963 : Nat := 0
def PySem.W.Fast.tw11150571888631672860 : Nat := 0
def PySem.W.Fast.tw11298599623138103887 : Nat := 0
def PySem.W.Fast.tw11316322928751395881 : Nat := 0
def PySem.W.Fast.tw114368183340880845 : Nat := 0
def PySem.W.Fast.tw11523727957036089904 : Nat := 0
def PySem.W.Fast.tw11615119950690292368 : Nat := 0
def PySem.W.Fast.tw11878411775569474880 : Nat := 0
def PySem.W.Fast.tw11911318408318745001 : Nat := 0
def PySem.W.Fast.tw11912426918379779762 : Nat := 0
def PySem.W.Fast.tw11939420034555612181 : Nat := 0
def PySem.W.Fast.tw1197395361121032233 : Nat := 0
def PySem.W.Fast.tw11998546883011237841 : Nat := 0
def PySem.W.Fast.tw1201274579407907215 : Nat := 0
def PySem.W.Fast.tw12053364469825008658 : Nat := 0
def PySem.W.Fast.tw12109334310076751430 : Nat := 0
def PySem.W.Fast.tw12142629884594462500 : Nat := 0
def PySem.W.Fast.tw12321270757180564254 : Nat := 0
def PySem.W.Fast.tw12395388633303589452 : Nat := 0
def PySem.W.Fast.tw12409379194722019598 : Nat := 0
def PySem.W.Fast.tw12497960754474027802 : Nat := 0
def PySem.W.Fast.tw12516660422383523233 : Nat := 0
def PySem.W.Fast.tw12766804995914410238 : Nat := 0
def PySem.W.Fast.tw12846565606399847188 : Nat := 0
def PySem.W.Fast.tw13239280149094703457 : Nat := 0
def PySem.W.Fast.tw13337906175844671275 : Nat := 0
def PySem.W.Fast.tw13458843877923002767 : Nat := 0
def PySem.W.Fast.tw13522688055010780813 : Nat := 0
def PySem.W.Fast.tw13537778855547506495 : Nat := 0
def PySem.W.Fast.tw1365040729475890765 : Nat := 0
def PySem.W.Fast.tw13800757364952595920 : Nat := 0
def PySem.W.Fast.tw13855214493798799062 : Nat := 0
def PySem.W.Fast.tw13982371836202762120 : Nat := 0
def PySem.W.Fast.tw13983887049995682091 : Nat := 0
def PySem.W.Fast.tw1398468164521822282 : Nat := 0
def PySem.W.Fast.tw14000969600913737894 : Nat := 0
def PySem.W.Fast.tw14095681635798051295 : Nat := 0
def PySem.W.Fast.tw14099426699431668952 : Nat := 0
def PySem.W.Fast.tw14129609412554708996 : Nat := 0
def PySem.W.Fast.tw14167586071392239123 : Nat := 0
def PySem.W.Fast.tw14204836323846874530 : Nat := 0
def PySem.W.Fast.tw1422844061514181173 : Nat := 0
def PySem.W.Fast.tw1425831470056492180 : Nat := 0
def PySem.W.Fast.tw14283765018176787880 : Nat := 0
def PySem.W.Fast.tw1432004611458480883 : Nat := 0
def PySem.W.Fast.tw14474825341644048118 : Nat := 0
def PySem.W.Fast.tw14479600656843157269 : Nat := 0
def PySem.W.Fast.tw14504416922258879015 : Nat := 0
def PySem.W.Fast.tw1462755224789646476 : Nat := 0
def PySem.W.Fast.tw1472187760563062697 : Nat := 0
def PySem.W.Fast.tw14786516809645442063 : Nat := 0
def PySem.W.Fast.tw14889775525626261540 : Nat := 0
def PySem.W.Fast.tw14954566473604121995 : Nat := 0
def PySem.W.Fast.tw15026084292236786603 : Nat := 0
def PySem.W.Fast.tw15032272788369664064 : Nat := 0
def PySem.W.Fast.tw15149507894443349465 : Nat := 0
def PySem.W.Fast.tw15203143679420343113 : Nat := 0
def PySem.W.Fast.tw152448618741107660 : Nat := 0
def PySem.W.Fast.tw15405901784394416272 : Nat := 0
def PySem.W.Fast.tw1546927329613528244 : Nat := 0
def PySem.W.Fast.tw15548385608571284458 : Nat := 0
def PySem.W.Fast.tw15572085514412828832 : Nat := 0
def PySem.W.Fast.tw15917465827783269062 : Nat := 0
def PySem.W.Fast.tw15931270292432860808 : Nat := 0
def PySem.W.Fast.tw15934378193822349893 : Nat := 0
def PySem.W.Fast.tw15960176575289853170 : Nat := 0
def PySem.W.Fast.tw1596764433282822279 : Nat := 0
def PySem.W.Fast.tw16082440035759196794 : Nat := 0
def PySem.W.Fast.tw16176039929276039626 : Nat := 0
def PySem.W.Fast.tw16197059701503008475 : Nat := 0
def PySem.W.Fast.tw1631366854875437442 : Nat := 0
def PySem.W.Fast.tw16441121441387917406 : Nat := 0
def PySem.W.Fast.tw16745583337871851470 : Nat := 0
def PySem.W.Fast.tw16812388776096241251 : Nat := 0
def PySem.W.Fast.tw1698311558811382904 : Nat := 0
def PySem.W.Fast.tw16995945526750272009 : Nat := 0
def PySem.W.Fast.tw17024228547156353381 : Nat := 0
def PySem.W.Fast.tw1712425723944732192 : Nat := 0
def PySem.W.Fast.tw1714925833356776984 : Nat := 0
def PySem.W.Fast.tw171792897948075001 : Nat := 0
def PySem.W.Fast.tw17230857055647051319 : Nat := 0
def PySem.W.Fast.tw1729260166072206426 : Nat := 0
def PySem.W.Fast.tw17317328680625582346 : Nat := 0
def PySem.W.Fast.tw17359647731611229282 : Nat := 0
def PySem.W.Fast.tw17414940810768042153 : Nat := 0
def PySem.W.Fast.tw17540920072000351402 : Nat := 0
def PySem.W.Fast.tw17560630370787222431 : Nat := 0
def PySem.W.Fast.tw17583871852806105172 : Nat := 0
def PySem.W.Fast.tw17618129396870902628 : Nat := 0
def PySem.W.Fast.tw17697274445690237864 : Nat := 0
def PySem.W.Fast.tw17717125596884081809 : Nat := 0
def PySem.W.Fast.tw1773260490864524054 : Nat := 0
def PySem.W.Fast.tw17780199011816452353 : Nat := 0
def PySem.W.Fast.tw17781723409486520961 : Nat := 0
def PySem.W.Fast.tw17802669425598364050 : Nat := 0
def PySem.W.Fast.tw17880278980336193190 : Nat := 0
def PySem.W.Fast.tw17976363239084171919 : Nat := 0
def PySem.W.Fast.tw17989580886847389471 : Nat := 0
def PySem.W.Fast.tw18018692865113128315 : Nat := 0
def PySem.W.Fast.tw18159993876492042779 : Nat := 0
def PySem.W.Fast.tw18160375322213048190 : Nat := 0
def PySem.W.Fast.tw18198007901470378961 : Nat := 0
def PySem.W.Fast.tw18203535459651736573 : Nat := 0
def PySem.W.Fast.tw18217264243242785860 : Nat := 0
def PySem.W.Fast.tw18317937692602226737 : Nat := 0
def PySem.W.Fast.tw18326671225453035140 : Nat := 0
def PySem.W.Fast.tw1908479998161697352 : Nat := 0
def PySem.W.Fast.tw1953147579555438150 : Nat := 0
def PySem.W.Fast.tw2012971743857981020 : Nat := 0
def PySem.W.Fast.tw2082920602487228096 : Nat := 0
def PySem.W.Fast.tw2086650390490495177 : Nat := 0
def PySem.W.Fast.tw2104560518743781652 : Nat := 0
def PySem.W.Fast.tw2107064160967005231 : Nat := 0
def PySem.W.Fast.tw2140078456727041902 : Nat := 0
def PySem.W.Fast.tw2279118587506731564 : Nat := 0
def PySem.W.Fast.tw2503097761336491737 : Nat := 0
def PySem.W.Fast.tw2533872583267393687 : Nat := 0
def PySem.W.Fast.tw2593562142987805121 : Nat := 0
def PySem.W.Fast.tw2600255074272066539 : Nat := 0
def PySem.W.Fast.tw2609443446909311355 : Nat := 0
def PySem.W.Fast.tw2646249369041820285 : Nat := 0
def PySem.W.Fast.tw2832178924097167386 : Nat := 0
def PySem.W.Fast.tw2834204255129501400 : Nat := 0
def PySem.W.Fast.tw2953179612487635304 : Nat := 0
def PySem.W.Fast.tw2968785762069346867 : Nat := 0
def PySem.W.Fast.tw2971462678591219621 : Nat := 0
def PySem.W.Fast.tw3023468540220804685 : Nat := 0
def PySem.W.Fast.tw3075013701396709034 : Nat := 0
def PySem.W.Fast.tw3275288391907500632 : Nat := 0
def PySem.W.Fast.tw3281664535005781167 : Nat := 0
def PySem.W.Fast.tw3325609561784955972 : Nat := 0
def PySem.W.Fast.tw3553962212674396801 : Nat := 0
def PySem.W.Fast.tw3611254208594676541 : Nat := 0
def PySem.W.Fast.tw363099046214010480 : Nat := 0
def PySem.W.Fast.tw3633740522448967722 : Nat := 0
def PySem.W.Fast.tw3657594797159228608 : Nat := 0
def PySem.W.Fast.tw3752295889433277696 : Nat := 0
def PySem.W.Fast.tw3763544494324193194 : Nat := 0
def PySem.W.Fast.tw3826633907228423908 : Nat := 0
def PySem.W.Fast.tw3850592804275830763 : Nat := 0
def PySem.W.Fast.tw4021041316873890469 : Nat := 0
def PySem.W.Fast.tw4095355661134165013 : Nat := 0
def PySem.W.Fast.tw4138951809525961804 : Nat := 0
def PySem.W.Fast.tw4152121468203390506 : Nat := 0
def PySem.W.Fast.tw418003491868319947 : Nat := 0
def PySem.W.Fast.tw4221399223885895577 : Nat := 0
def PySem.W.Fast.tw4312771648099557508 : Nat := 0
def PySem.W.Fast.tw4344279634550659249 : Nat := 0
def PySem.W.Fast.tw4376152460405555594 : Nat := 0
def PySem.W.Fast.tw4396058331258276220 : Nat := 0
def PySem.W.Fast.tw4410114972044504702 : Nat := 0
def PySem.W.Fast.tw447771860988375855 : Nat := 0
def PySem.W.Fast.tw4488436613459128040 : Nat := 0
def PySem.W.Fast.tw4565855084279516305 : Nat := 0
def PySem.W.Fast.tw4588543077648480030 : Nat := 0
def PySem.W.Fast.tw4628407228387436501 : Nat := 0
def PySem.W.Fast.tw4629524119089550931 : Nat := 0
def PySem.W.Fast.tw4640330065321061368 : Nat := 0
def PySem.W.Fast.tw4658397684314174361 : Nat := 0
def PySem.W.Fast.tw4671713659767067320 : Nat := 0
def PySem.W.Fast.tw4702429535234474619 : Nat := 0
def PySem.W.Fast.tw4741521281155190679 : Nat := 0
def PySem.W.Fast.tw4755848856035034143 : Nat := 0
def PySem.W.Fast.tw4790010509478714198 : Nat := 0
def PySem.W.Fast.tw4837701821928404707 : Nat := 0
def PySem.W.Fast.tw5062830546378477784 : Nat := 0
def PySem.W.Fast.tw5140315935571107882 : Nat := 0
def PySem.W.Fast.tw5146115320968257911 : Nat := 0
def PySem.W.Fast.tw5310563942493548553 : Nat := 0
def PySem.W.Fast.tw5398013668010653400 : Nat := 0
def PySem.W.Fast.tw5415623702341643090 : Nat := 0
def PySem.W.Fast.tw5596689520852398455 : Nat := 0
def PySem.W.Fast.tw576041239706237153 : Nat := 0
def PySem.W.Fast.tw5833563772161803299 : Nat := 0
def PySem.W.Fast.tw5837517039096393838 : Nat := 0
def PySem.W.Fast.tw5856043516609904980 : Nat := 0
def PySem.W.Fast.tw5974695837148153132 : Nat := 0
def PySem.W.Fast.tw5978862511570654812 : Nat := 0
def PySem.W.Fast.tw5983677303682977521 : Nat := 0
def PySem.W.Fast.tw599971808127937355 : Nat := 0
def PySem.W.Fast.tw6055816343253727876 : Nat := 0
def PySem.W.Fast.tw6085271083154052257 : Nat := 0
def PySem.W.Fast.tw6112237566791289623 : Nat := 0
def PySem.W.Fast.tw6123216403169575305 : Nat := 0
def PySem.W.Fast.tw6200303543989293519 : Nat := 0
def PySem.W.Fast.tw6357627588251073220 : Nat := 0
def PySem.W.Fast.tw6409243400976986764 : Nat := 0
def PySem.W.Fast.tw6495746414595951588 : Nat := 0
def PySem.W.Fast.tw650380408888734561 : Nat := 0
def PySem.W.Fast.tw65777688508152880 : Nat := 0
def PySem.W.Fast.tw658226809148645498 : Nat := 0
def PySem.W.Fast.tw6636758870978908919 : Nat := 0
def PySem.W.Fast.tw6664520638275386107 : Nat := 0
def PySem.W.Fast.tw6800889584379461039 : Nat := 0
def PySem.W.Fast.tw6971766793629331768 : Nat := 0
def PySem.W.Fast.tw7035477015359836670 : Nat := 0
def PySem.W.Fast.tw7085767025303521685 : Nat := 0
def PySem.W.Fast.tw7110140392129167536 : Nat := 0
def PySem.W.Fast.tw7220805099032778016 : Nat := 0
def PySem.W.Fast.tw7363936048063763977 : Nat := 0
def PySem.W.Fast.tw7400428664910272519 : Nat := 0
def PySem.W.Fast.tw7591131960087426101 : Nat := 0
def PySem.W.Fast.tw7675198353790215753 : Nat := 0
def PySem.W.Fast.tw7897352704385510209 : Nat := 0
def PySem.W.Fast.tw7917480974336767563 : Nat := 0
def PySem.W.Fast.tw7963523874372138451 : Nat := 0
def PySem.W.Fast.tw8024362977342557828 : Nat := 0
def PySem.W.Fast.tw8121846825310220126 : Nat := 0
def PySem.W.Fast.tw8142716008279432719 : Nat := 0
def PySem.W.Fast.tw8233002947865968316 : Nat := 0
def PySem.W.Fast.tw8272311104127954362 : Nat := 0
def PySem.W.Fast.tw83512187922637653 : Nat := 0
def PySem.W.Fast.tw8365262472643159948 : Nat := 0
def PySem.W.Fast.tw8399064511861732938 : Nat := 0
def PySem.W.Fast.tw8447975880958990664 : Nat := 0
def PySem.W.Fast.tw8503041008732254043 : Nat := 0
def PySem.W.Fast.tw8507769207804583947 : Nat := 0
def PySem.W.Fast.tw8618444418903689593 : Nat := 0
def PySem.W.Fast.tw868711318070065710 : Nat := 0
def PySem.W.Fast.tw8690979411402751538 : Nat := 0
def PySem.W.Fast.tw8693443348427079589 : Nat := 0
def PySem.W.Fast.tw8735984078587329217 : Nat := 0
def PySem.W.Fast.tw8777841648525854583 : Nat := 0
def PySem.W.Fast.tw8991129909165066710 : Nat := 0
def PySem.W.Fast.tw9019653456510059841 : Nat := 0
def PySem.W.Fast.tw9061940702982121026 : Nat := 0
def PySem.W.Fast.tw9106190522228380998 : Nat := 0
def PySem.W.Fast.tw9116430791073383199 : Nat := 0
def PySem.W.Fast.tw9179174060045819828 : Nat := 0
def PySem.W.Fast.tw922973544165504680 : Nat := 0
def PySem.W.Fast.tw9232872000394267552 : Nat := 0
def PySem.W.Fast.tw9296805127635914638 : Nat := 0
def PySem.W.Fast.tw9309291860398851573 : Nat := 0
def PySem.W.Fast.tw9439710775421726972 : Nat := 0
def PySem.W.Fast.tw944748276363839570 : Nat := 0
def PySem.W.Fast.tw9519023559022751124 : Nat := 0
def PySem.W.Fast.tw9534378868293526538 : Nat := 0
def PySem.W.Fast.tw957624087771824352 : Nat := 0
def PySem.W.Fast.tw9753065068456388825 : Nat := 0
def PySem.W.Fast.tw9866481883362088028 : Nat := 0
def PySem.W.Fast.tw9907936124510046162 : Nat := 0
open PySem PySem.W PyProof.Rows
set_option maxRecDepth 100000 in
set_option maxHeartbeats 0 in
theorem PySem.Challenge.cw_twinwalk_k63_nodes_split_holds : PySem.Challenge.rw_twinwalk_k63_nodes_split.Holds := by
  w_on; o_law; k_head; (case hw => w_witness2)
  k_fill
  refine TW.walk (l := PySem.Challenge.rw_twinwalk_k63_nodes_split) rfl rfl (fun w h Y => PySem.W.kIn_of Y) ?F
  case F =>
    intro w mg fa h KX G hmg
    refine TW.all_of hmg ?_
    refine' (⟨TW.src_mk KX G ?_ ?_ ?_ ?_, TW.src_mk KX G ?_ ?_ ?_ ?_, TW.src_mk KX G ?_ ?_ ?_ ?_, TW.src_mk KX G ?_ ?_ ?_ ?_, TW.src_mk KX G ?_ ?_ ?_ ?_, TW.src_mk KX G ?_ ?_ ?_ ?_, TW.src_mk KX G ?_ ?_ ?_ ?_, TW.src_mk KX G ?_ ?_ ?_ ?_, TW.src_mk KX G ?_ ?_ ?_ ?_, TW.src_mk KX G ?_ ?_ ?_ ?_, TW.src_mk KX G ?_ ?_ ?_ ?_, TW.src_mk KX G ?_ ?_ ?_ ?_, TW.src_mk KX G ?_ ?_ ?_ ?_, TW.src_mk KX G ?_ ?_ ?_ ?_, TW.src_mk KX G ?_ ?_ ?_ ?_, TW.src_mk KX G ?_ ?_ ?_ ?_, TW.src_mk KX G ?_ ?_ ?_ ?_, TW.src_mk KX G ?_ ?_ ?_ ?_, TW.src_mk KX G ?_ ?_ ?_ ?_, TW.src_mk KX G ?_ ?_ ?_ ?_, TW.src_mk KX G ?_ ?_ ?_ ?_, TW.src_mk KX G ?_ ?_ ?_ ?_, TW.src_mk KX G ?_ ?_ ?_ ?_, TW.src_mk KX G ?_ ?_ ?_ ?_, TW.src_mk KX G ?_ ?_ ?_ ?_, TW.src_mk KX G ?_ ?_ ?_ ?_, TW.src_mk KX G ?_ ?_ ?_ ?_, TW.src_mk KX G ?_ ?_ ?_ ?_, TW.src_mk KX G ?_ ?_ ?_ ?_, TW.src_mk KX G ?_ ?_ ?_ ?_, TW.src_mk KX G ?_ ?_ ?_ ?_, TW.src_mk KX G ?_ ?_ ?_ ?_, TW.src_mk KX G ?_ ?_ ?_ ?_, TW.src_mk KX G ?_ ?_ ?_ ?_, TW.src_mk KX G ?_ ?_ ?_ ?_, TW.src_mk KX G ?_ ?_ ?_ ?_, TW.src_mk KX G ?_ ?_ ?_ ?_, TW.src_mk KX G ?_ ?_ ?_ ?_, TW.tupC_mk KX G ?_ ?_ ?_ ?_ ?_, ⟨_, PySem.W.mg_of KX G ?_, TW.tw_mk ?_ ?_ ?_⟩, PySem.W.mg_none_of KX G ?_, PySem.W.mg_none_of KX G ?_, PySem.W.mg_none_of KX G ?_, PySem.W.mg_none_of KX G ?_, PySem.W.mg_none_of KX G ?_, PySem.W.mg_none_of KX G ?_, PySem.W.mg_none_of KX G ?_, PySem.W.mg_none_of KX G ?_, PySem.W.mg_none_of KX G ?_, PySem.W.mg_none_of KX G ?_, PySem.W.mg_none_of KX G ?_, PySem.W.mg_none_of KX G ?_, PySem.W.mg_none_of KX G ?_, PySem.W.mg_none_of KX G ?_, PySem.W.mg_none_of KX G ?_⟩ : TW.Tops _ _ _)
    (try any_goals first | k_is | k_exc | rfl | ((repeat (first | exact TW.pr_nil | refine TW.pr_cs ⟨_, rfl⟩ rfl ?_ | refine TW.pr_cs ⟨_, rfl⟩ ⟨_, rfl⟩ ?_)); done))
    (try any_goals first | k_is | k_exc | rfl | ((repeat (first | exact TW.pr_nil | refine TW.pr_cs ⟨_, rfl⟩ rfl ?_ | refine TW.pr_cs ⟨_, rfl⟩ ⟨_, rfl⟩ ?_)); done))
    all_goals first | kit_is | decide | rfl | exact ⟨_, rfl⟩ | (k_keys; done) | (repeat' constructor)
