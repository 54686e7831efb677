import PyProof.Rows.All
import Wide.All
import OpenK.AllK
import Wide.FinOn
import Lean
import PyProof.EqAt
import PyProof.EqKinds
import PyProof.TupleCall
import PySem.Challenge.RW_twinwalk_k67_made_over_refused
set_option Elab.async false
set_option linter.all false
set_option maxRecDepth 100000
namespace L2
open PySem PySem.Spec PyProof.Rows
abbrev Key := Sum Int Str
def keyIs : Key → Value → Bool
  | .inl k, v => Value.isInt k v
  | .inr x, v => Value.isStrOf x v
def keyH (w : World) : Key → Int
  | .inl k => hashInt k
  | .inr x => hashStr w x
theorem keyIs_shape : ∀ {k : Key} {v : Value}, keyIs k v = true → (∃ i t, k = Sum.inl i ∧ v = Value.int i t) ∨ (∃ x t, k = Sum.inr x ∧ v = Value.str x t)
  | .inl i, v, h => by
    obtain ⟨t, e⟩ := Value.isInt_shape (k := i) (v := v) h
    exact .inl ⟨i, t, rfl, e⟩
  | .inr x, v, h => by
    obtain ⟨t, e⟩ := Value.isStrOf_shape (x := x) (v := v) h
    exact .inr ⟨x, t, rfl, e⟩
theorem keyIs_int (i : Int) (t : Tok) : keyIs (.inl i) (.int i t) = true := by simp [keyIs, Value.isInt]
theorem keyIs_str (x : Str) (t : Tok) : keyIs (.inr x) (.str x t) = true := by simp [keyIs, Value.isStrOf]
theorem key_ll (a b : Int) : decide ((Sum.inl a : Key) = Sum.inl b) = (a == b) := by
  by_cases e : a = b
  · subst e; simp
  · have h : ¬ (Sum.inl a : Key) = Sum.inl b := fun q => e (Sum.inl.inj q)
    rw [decide_eq_false h]
    exact (beq_eq_false_iff_ne.mpr e).symm
theorem key_rr (a b : Str) : decide ((Sum.inr a : Key) = Sum.inr b) = decide (a = b) := by
  by_cases e : a = b
  · subst e; simp
  · have h : ¬ (Sum.inr a : Key) = Sum.inr b := fun q => e (Sum.inr.inj q)
    rw [decide_eq_false h, decide_eq_false e]
theorem key_lr (a : Int) (b : Str) : decide ((Sum.inl a : Key) = Sum.inr b) = false := decide_eq_false (fun q => nomatch q)
theorem key_rl (a : Str) (b : Int) : decide ((Sum.inr a : Key) = Sum.inl b) = false := decide_eq_false (fun q => nomatch q)
def mixKind (prog : Program) (w : World) : PySem.KeyKind prog w Key where
  is := keyIs
  hash := keyH w
  inj := fun v a b ha hb => by
    rcases keyIs_shape ha with ⟨i, t, rfl, rfl⟩ | ⟨x, t, rfl, rfl⟩
    · rcases keyIs_shape hb with ⟨j, u, rfl, e⟩ | ⟨y, u, rfl, e⟩
      · injection e with e1 _; rw [e1]
      · exact nomatch e
    · rcases keyIs_shape hb with ⟨j, u, rfl, e⟩ | ⟨y, u, rfl, e⟩
      · exact nomatch e
      · injection e with e1 _; rw [e1]
  byValue := fun k v h => by
    rcases keyIs_shape h with ⟨i, t, rfl, rfl⟩ | ⟨x, t, rfl, rfl⟩ <;> rfl
  pyHash := fun hv h => by
    rcases keyIs_shape hv with ⟨i, t, rfl, rfl⟩ | ⟨x, t, rfl, rfl⟩
    · exact wpAny_pyHash_int h
    · exact wpAny_pyHash_str h
  eqBool := fun hu hv h => by
    rcases keyIs_shape hu with ⟨i, t, rfl, rfl⟩ | ⟨x, t, rfl, rfl⟩
    · rcases keyIs_shape hv with ⟨j, u, rfl, rfl⟩ | ⟨y, u, rfl, rfl⟩
      · rw [key_ll] at h; exact wpAny_eqBool_int h
      · rw [key_lr] at h; exact SeqAt.EqAt.int_str i t y u _ _ _ _ h
    · rcases keyIs_shape hv with ⟨j, u, rfl, rfl⟩ | ⟨y, u, rfl, rfl⟩
      · rw [key_rl] at h; exact SeqAt.EqAt.str_int x t j u _ _ _ _ h
      · rw [key_rr] at h; exact wpAny_eqBool_str h
  «strs» := fun k x t v h => by
    rcases keyIs_shape h with ⟨i, u, rfl, e⟩ | ⟨y, u, rfl, e⟩
    · exact nomatch e
    · injection e with e1 _
      subst e1
      cases v <;> rfl
theorem mixKind_int (prog : Program) (w : World) (i : Int) (t : Tok) : (mixKind prog w).is (.inl i) (.int i t) = true := keyIs_int i t
theorem mixKind_str (prog : Program) (w : World) (x : Str) (t : Tok) : (mixKind prog w).is (.inr x) (.str x t) = true := keyIs_str x t
end L2
namespace L2
open PySem PySem.Spec PyProof.Rows
inductive V where
  | non | bl (b : Bool) | int (i : Int) | str (x : Str) | byt (b : Array UInt8) | flt (b : UInt64) | ref (a : Addr) | ty (n : String)
  deriving DecidableEq
def RelV : V → Value → Prop
  | .non, u => u = Value.none
  | .bl b, u => u = Value.bool b
  | .int i, u => ∃ t, u = Value.int i t
  | .str x, u => ∃ t, u = Value.str x t
  | .byt b, u => ∃ t, u = Value.bytes b t
  | .flt b, u => ∃ t, u = Value.float b t
  | .ref a, u => u = Value.ref a
  | .ty n, u => u = Value.type n
abbrev Vals : List V → List Value → Prop := Paired RelV
theorem Vals.length {xs : List V} {us : List Value} (r : Vals xs us) : xs.length = us.length := Paired.length r
theorem Vals.get : ∀ {xs : List V} {us : List Value} {i : Nat} {x : V}, Vals xs us → xs[i]? = some x → ∃ u, us[i]? = some u ∧ RelV x u
  | _, _, _, _, .nil, e => by simp at e
  | _, _, 0, _, .cons r _, e => by simp at e; subst e; exact ⟨_, rfl, r⟩
  | _, _, i + 1, x, .cons _ t, e => by
    obtain ⟨u, h1, h2⟩ := Vals.get (i := i) (x := x) t (by simpa using e)
    exact ⟨u, by simpa using h1, h2⟩
theorem Vals.set {x : V} {u : Value} (r : RelV x u) : ∀ {xs : List V} {us : List Value} (i : Nat), Vals xs us → Vals (xs.set i x) (us.set i u)
  | _, _, _, .nil => .nil
  | _, _, 0, .cons _ t => .cons r t
  | _, _, i + 1, .cons q t => .cons q (Vals.set r i t)
theorem Vals.append : ∀ {xs ys : List V} {us ws : List Value}, Vals xs us → Vals ys ws → Vals (xs ++ ys) (us ++ ws)
  | _, _, _, _, .nil, s => s
  | _, _, _, _, .cons r t, s => .cons r (Vals.append t s)
theorem Vals.take : ∀ {xs : List V} {us : List Value} (n : Nat), Vals xs us → Vals (xs.take n) (us.take n)
  | _, _, 0, _ => .nil
  | _, _, _ + 1, .nil => .nil
  | _, _, n + 1, .cons r t => .cons r (Vals.take n t)
theorem Vals.drop : ∀ {xs : List V} {us : List Value} (n : Nat), Vals xs us → Vals (xs.drop n) (us.drop n)
  | _, _, 0, r => r
  | _, _, _ + 1, .nil => .nil
  | _, _, n + 1, .cons _ t => Vals.drop n t
def RelO : Option V → Option Value → Prop
  | some v, some u => RelV v u
  | none, none => True
  | _, _ => False
def KV {κ : Type} : List (κ × V) → List (κ × Value) → Prop := Paired fun (p : κ × V) (q : κ × Value) => p.1 = q.1 ∧ RelV p.2 q.2
def kV : Key → V
  | .inl i => .int i
  | .inr x => .str x
inductive HO where
  | lst (xs : List V)
  | tup (xs : List V)
  | dK (kvs : List (Key × V)) | dT (kvs : List (List Key × V))
  | set (S : Int → Bool) (n : Nat)
  | ins (C dx : Addr) (fs : List (Str × V))
  | own (x : Addr)
  | xd (fs : List (Str × V))
  | met (f x : Addr)
  | rng (lo hi : Int)
  | frz (o : Obj) (u : HO)
  | tbl (ps : Array Value)
  | ext (φ : Heap → Prop)
abbrev Hp := Addr → Option HO
def upd (H : Hp) (a : Addr) (o : HO) : Hp := fun b => if b = a then some o else H b
theorem upd_same {H : Hp} {a : Addr} {o : HO} : upd H a o a = some o := by unfold upd; rw [if_pos rfl]
theorem upd_ne {H : Hp} {a b : Addr} {o : HO} (h : b ≠ a) : upd H a o b = H b := by unfold upd; rw [if_neg h]
theorem upd_upd {H : Hp} {a : Addr} {o u : HO} : upd (upd H a o) a u = upd H a u := by
  funext b; unfold upd; split <;> rfl
theorem ne_of {H : Hp} {a b : Addr} {o u : HO} (h : H a = some o) (h' : H b = some u) (d : o ≠ u) : a ≠ b := by
  intro e; subst e; rw [h] at h'; exact d (Option.some.inj h')
theorem ne_of_none {H : Hp} {a b : Addr} {o : HO} (h : H a = some o) (h' : H b = none) : a ≠ b := by
  intro e; subst e; rw [h] at h'; cases h'
section
variable (P : Program) (w : World)
def ObjOk (H : Hp) (h : Heap) (a : Addr) : HO → Prop
  | .lst xs => xs.length ≤ sizeLine ∧ ∃ (its : List Value) (n : Nat), Vals xs its ∧ h.get? a = some { cls := .type "list", data := .seq its.toArray n }
  | .tup xs => xs.length ≤ sizeLine ∧ ∃ its : List Value, Vals xs its ∧ IsTup h a its.toArray
  | .dK kvs => kvs.length ≤ sizeLine ∧ (a == sysModules) = false ∧ ∃ vs, KV kvs vs ∧ h.DictOf (mixKind P w) a vs
  | .dT kvs => kvs.length ≤ sizeLine ∧ (a == sysModules) = false ∧ ∃ xs : List (List Key × Addr × Value),
      Paired (fun (p : List Key × V) (q : List Key × Addr × Value) => p.1 = q.1 ∧ H q.2.1 = some (.tup (p.1.map kV)) ∧ RelV p.2 q.2.2) kvs xs ∧
      ∃ o es ep, h.get? a = some o ∧ o.ExactDict ∧ o.data = .dict es ep ∧ es.toList = xs.map (entryOfKey (tupleKind (mixKind P w))) ∧ (xs.map (·.1)).Nodup
  | .set S n => h.SetOf (intKind P w) a S n
  | .ins C dx fs => H dx = some (.own a) ∧ fs.length ≤ 1000 ∧ dx ≠ a ∧ h.get? a = some (PySem.W.instObj C dx) ∧
      ∃ mA, h.Ns1 dx mA ∧ (∀ f, RelO (fs.lookup f) (mA f)) ∧ PySem.Within mA (fs.map (·.1))
  | .own _ => ∃ o, h.get? a = some o
  | .xd fs => ∃ mA, h.Ns1 a mA ∧ ∀ f, RelO (fs.lookup f) (mA f)
  | .rng lo hi => ∃ t u v, h.get? a = some { cls := .type "range", data := .fields #[.int lo t, .int hi u, .int 1 v] }
  | .frz o u => h.get? a = some o ∧ ObjOk H h a u
  | .tbl ps => h.get? a = some { cls := .none, data := .fields ps }
  | .met f x => h.get? a = some (PySem.W.methodObj (.ref f) (.ref x))
  | .ext φ => φ h ∧ (∃ o, h.get? a = some o) ∧ ∀ h1 h2 : Heap, φ h1 → (∀ o, h1.get? a = some o → h2.get? a = some o) → φ h2
def HOk (H : Hp) (h : Heap) : Prop := ∀ a o, H a = some o → ObjOk P w H h a o
end
section
variable {P : Program} {w : World} {H H' : Hp} {h h' : Heap} {a : Addr} {o : HO}
theorem ObjOk.lt (x : ObjOk P w H h a o) : a < h.objs.size := by
  cases o with
  | lst xs => obtain ⟨_, _, _, _, e⟩ := x; exact Heap.lt_size e
  | tup xs => obtain ⟨_, _, _, p⟩ := x; exact p.lt
  | dK kvs => obtain ⟨_, _, _, _, o, _, _, e, _⟩ := x; exact Heap.lt_size e
  | dT kvs => obtain ⟨_, _, _, _, o, _, _, e, _⟩ := x; exact Heap.lt_size e
  | set S n => obtain ⟨o, _, _, _, e, _⟩ := x; exact Heap.lt_size e
  | ins C dx fs => obtain ⟨_, _, _, e, _⟩ := x; exact Heap.lt_size e
  | own y => obtain ⟨_, e⟩ := x; exact Heap.lt_size e
  | xd fs => obtain ⟨_, ⟨_, _, _, e, _⟩, _⟩ := x; exact Heap.lt_size e
  | rng lo hi => obtain ⟨_, _, _, e⟩ := x; exact Heap.lt_size e
  | frz ob u => obtain ⟨e, _⟩ := x; exact Heap.lt_size e
  | tbl ps => exact Heap.lt_size (show h.get? a = some _ from x)
  | met f y => exact Heap.lt_size (show h.get? a = some _ from x)
  | ext φ => obtain ⟨_, ⟨_, e⟩, _⟩ := x; exact Heap.lt_size e
theorem Paired.mapP {α β : Type} {F G : α → β → Prop} : ∀ {l₁ : List α} {l₂ : List β}, Paired F l₁ l₂ → (∀ a b, F a b → G a b) → Paired G l₁ l₂
  | _, _, .nil, _ => .nil
  | _, _, .cons r t, f => .cons (f _ _ r) (Paired.mapP t f)
theorem ObjOk.stay (x : ObjOk P w H h a o) (k : ∀ b u, (b = a ∨ H b = some (.own a)) → h.get? b = some u → h'.get? b = some u)
    (ho : ∀ b, H b = some (.own a) → H' b = some (.own a)) (ht : ∀ b xs, H b = some (.tup xs) → H' b = some (.tup xs)) : ObjOk P w H' h' a o := by
  induction o with
  | lst xs => obtain ⟨z, its, n, r, e⟩ := x; exact ⟨z, its, n, r, k _ _ (.inl rfl) e⟩
  | tup xs => obtain ⟨z, its, r, ob, e, c⟩ := x; exact ⟨z, its, r, ob, k _ _ (.inl rfl) e, c⟩
  | dK kvs => obtain ⟨z, y, vs, r, ob, es, ep, e, c⟩ := x; exact ⟨z, y, vs, r, ob, es, ep, k _ _ (.inl rfl) e, c⟩
  | dT kvs =>
    obtain ⟨z, y, xs, r, ob, es, ep, e, c⟩ := x
    exact ⟨z, y, xs, Paired.mapP r fun p q z => ⟨z.1, ht _ _ z.2.1, z.2.2⟩, ob, es, ep, k _ _ (.inl rfl) e, c⟩
  | set S n => obtain ⟨ob, es, ep, t, e, c⟩ := x; exact ⟨ob, es, ep, t, k _ _ (.inl rfl) e, c⟩
  | ins C dx fs =>
    obtain ⟨d, z, ne, e, mA, ⟨od, es, ep, e2, c⟩, r⟩ := x
    exact ⟨ho _ d, z, ne, k _ _ (.inl rfl) e, mA, ⟨od, es, ep, k _ _ (.inr d) e2, c⟩, r⟩
  | own y => obtain ⟨ob, e⟩ := x; exact ⟨ob, k _ _ (.inl rfl) e⟩
  | xd fs => obtain ⟨mA, ⟨od, es, ep, e, c⟩, r⟩ := x; exact ⟨mA, ⟨od, es, ep, k _ _ (.inl rfl) e, c⟩, r⟩
  | rng lo hi => obtain ⟨t, u, v, e⟩ := x; exact ⟨t, u, v, k _ _ (.inl rfl) e⟩
  | frz ob u ih => obtain ⟨e, q⟩ := x; exact ⟨k _ _ (.inl rfl) e, ih q⟩
  | tbl ps =>
    have e : h.get? a = some { cls := .none, data := .fields ps } := x
    show h'.get? a = some { cls := .none, data := .fields ps }
    exact k a _ (.inl rfl) e
  | met f y =>
    have e : h.get? a = some (PySem.W.methodObj (.ref f) (.ref y)) := x
    show h'.get? a = some (PySem.W.methodObj (.ref f) (.ref y))
    exact k a _ (.inl rfl) e
  | ext φ => obtain ⟨p, ⟨o, e⟩, st⟩ := x; exact ⟨st _ _ p fun o q => k _ _ (.inl rfl) q, ⟨o, k _ _ (.inl rfl) e⟩, st⟩
theorem HOk.lt (x : HOk P w H h) (e : H a = some o) : a < h.objs.size := (x a o e).lt
theorem HOk.fresh (x : HOk P w H h) (e : h.objs.size ≤ a) : H a = none := by
  cases q : H a with
  | none => rfl
  | some u => exact absurd (Nat.lt_of_lt_of_le (x.lt q) e) (Nat.lt_irrefl _)
theorem HOk.kept (x : HOk P w H h) (k : ∀ b u, h.get? b = some u → h'.get? b = some u) : HOk P w H h' := fun a o e =>
  (x a o e).stay (fun b u _ q => k b u q) (fun _ q => q) fun _ _ q => q
theorem HOk.laid (x : HOk P w H h) (k : ∀ b u, h.get? b = some u → h'.get? b = some u) (hp : h.objs.size ≤ a) (new : ObjOk P w (upd H a o) h' a o) : HOk P w (upd H a o) h' := fun b u e => by
  have hn := x.fresh hp
  by_cases hb : b = a
  · subst hb; rw [upd_same] at e; cases e; exact new
  · rw [upd_ne hb] at e
    exact (x b u e).stay (fun c v _ q => k c v q) (fun c q => by rw [upd_ne (ne_of_none q hn)]; exact q) fun c xs q => by rw [upd_ne (ne_of_none q hn)]; exact q
end
def Rd (H : Hp) (a : Addr) (u : HO) : Prop := H a = some u ∨ ∃ o, H a = some (.frz o u)
theorem Rd.ok {P : Program} {w : World} {H : Hp} {h : Heap} {a : Addr} {u : HO} (r : Rd H a u) (x : HOk P w H h) : ObjOk P w H h a u := by
  rcases r with r | ⟨o, r⟩
  · exact x a u r
  · obtain ⟨_, q⟩ := x a _ r
    exact q
def Mut : Option HO → Prop
  | some (.lst _) => True
  | some (.dK _) => True
  | some (.dT _) => True
  | some (.set _ _) => True
  | some (.ins _ _ _) => True
  | some (.ext _) => True
  | _ => False
section
variable {P : Program} {w : World} {H : Hp} {h h' : Heap} {x e : Addr} {o' : HO}
theorem HOk.write (ok : HOk P w H h) (mu : Mut (H x)) (he : e = x ∨ H e = some (.own x)) (k : ∀ b u, b ≠ e → h.get? b = some u → h'.get? b = some u) (heo : ∃ u, h'.get? e = some u)
    (new : ObjOk P w (upd H x o') h' x o') : HOk P w (upd H x o') h' := fun b u q => by
  have nown : ∀ c y, H c = some (.own y) → c ≠ x := fun c y r z => by subst z; rw [r] at mu; exact mu
  have ntup : ∀ c xs, H c = some (.tup xs) → c ≠ x := fun c xs r z => by subst z; rw [r] at mu; exact mu
  by_cases hb : b = x
  · subst hb; rw [upd_same] at q; cases q; exact new
  · rw [upd_ne hb] at q
    by_cases hbe : b = e
    · have q' : H b = some (.own x) := by
        rcases he with z | z
        · exact absurd (hbe.trans z) hb
        · rw [hbe]; exact z
      rw [q] at q'; cases q'
      obtain ⟨v, hv⟩ := heo
      exact ⟨v, by rw [hbe]; exact hv⟩
    · refine (ok b u q).stay (fun c v hc r => k c v ?_ r) (fun c r => by rw [upd_ne (nown c b r)]; exact r) fun c xs r => by rw [upd_ne (ntup c xs r)]; exact r
      rcases hc with rfl | hc
      · exact hbe
      · rintro rfl
        rcases he with z | z
        · exact nown c b hc z
        · rw [hc] at z; cases z; exact hb rfl
end
structure Un (fs ex : List Addr) (H H' : Hp) (h h' : Heap) : Prop where
  keep : ∀ b o, h.get? b = some o → H b = none → b ∉ fs → b ∉ ex → h'.get? b = some o
  slot : ∀ b o, h.get? b = some o → H b = none → b ∈ fs → b ∉ ex → ∃ sl, h'.get? b = some { o with slots := sl }
  free : ∀ b o, h.get? b = some o → H b = none → b ∉ ex → H' b = none
  there : ∀ b o, h.get? b = some o → b ∉ ex → ∃ o', h'.get? b = some o'
  tups : ∀ b xs, H b = some (.tup xs) → H' b = some (.tup xs)
  frzs : ∀ b o u, H b = some (.frz o u) → H' b = some (.frz o u)
  tbls : ∀ b ps, H b = some (.tbl ps) → ∃ more, H' b = some (.tbl (ps ++ more))
section
variable {fs fs' ex ex' : List Addr} {H H1 H2 : Hp} {h h1 h2 h' : Heap} {a x e : Addr} {o : HO}
theorem Un.any (u : Un fs ex H H1 h h1) {b : Addr} {ob : Obj} (q : h.get? b = some ob) (n : H b = none) (hx : b ∉ ex) : ∃ sl, h1.get? b = some { ob with slots := sl } := by
  by_cases hb : b ∈ fs
  · exact u.slot b ob q n hb hx
  · exact ⟨ob.slots, u.keep b ob q n hb hx⟩
theorem Un.kept (k : ∀ b u, h.get? b = some u → h'.get? b = some u) : Un fs ex H H h h' :=
  ⟨fun b ob q _ _ _ => k b ob q, fun b ob q _ _ _ => ⟨ob.slots, k b ob q⟩, fun _ _ _ n _ => n, fun b ob q _ => ⟨ob, k b ob q⟩, fun _ _ q => q, fun _ _ _ q => q, fun _ ps q => ⟨#[], by rw [q]; simp⟩⟩
theorem Un.refl : Un fs ex H H h h := Un.kept fun _ _ q => q
theorem Un.laid (k : ∀ b u, h.get? b = some u → h'.get? b = some u) (hp : h.objs.size ≤ a) (hn : H a = none) : Un fs ex H (upd H a o) h h' where
  keep := fun b u q _ _ _ => k b u q
  slot := fun b u q _ _ _ => ⟨u.slots, k b u q⟩
  free := fun b u q n _ => by rw [upd_ne (Nat.ne_of_lt (Nat.lt_of_lt_of_le (Heap.lt_size q) hp))]; exact n
  there := fun b u q _ => ⟨u, k b u q⟩
  tups := fun b xs q => by rw [upd_ne (ne_of_none q hn)]; exact q
  frzs := fun b u xs q => by rw [upd_ne (ne_of_none q hn)]; exact q
  tbls := fun b ps q => ⟨#[], by rw [upd_ne (ne_of_none q hn), q]; simp⟩
theorem Un.write (mu : Mut (H x)) (he : e = x ∨ H e = some (.own x)) (k : ∀ b u, b ≠ e → h.get? b = some u → h'.get? b = some u) (heo : ∃ u, h'.get? e = some u) : Un fs ex H (upd H x o) h h' := by
  have hx : ∀ b, H b = none → b ≠ x := fun b n z => by subst z; rw [n] at mu; exact mu
  have hb : ∀ b, H b = none → b ≠ e := fun b n z => by
    subst z
    rcases he with r | r
    · exact hx b n r
    · rw [n] at r; cases r
  have hm : ∀ b u, H b = some u → ¬ Mut (some u) → b ≠ x := fun b u q nm z => by subst z; rw [q] at mu; exact nm mu
  refine ⟨fun b u q n _ _ => k b u (hb b n) q, fun b u q n _ _ => ⟨u.slots, k b u (hb b n) q⟩, fun b u q n _ => by rw [upd_ne (hx b n)]; exact n, fun b u q _ => ?_,
    fun b xs q => by rw [upd_ne (hm b _ q fun z => z)]; exact q, fun b u xs q => by rw [upd_ne (hm b _ q fun z => z)]; exact q, fun b ps q => ⟨#[], by rw [upd_ne (hm b _ q fun z => z), q]; simp⟩⟩
  by_cases hbe : b = e
  · subst hbe; exact heo
  · exact ⟨u, k b u hbe q⟩
end
def trk (h : Heap) (H : Hp) : List Addr := (List.range h.objs.size).filter fun a => (H a).isSome
def hidT (h : Heap) (H : Hp) : Heap := PySem.W.hideAll h (trk h H)
theorem hidT_size (h : Heap) (H : Hp) : (hidT h H).objs.size = h.objs.size := PySem.W.hideAll_size _ _
theorem hidT_get {h : Heap} {H : Hp} {b : Addr} {o : Obj} (e : h.get? b = some o) (n : H b = none) : (hidT h H).get? b = some o :=
  PySem.W.hideAll_get _ e fun hm => by
    have q : (H b).isSome = true := (List.mem_filter.mp hm).2
    rw [n] at q; simp at q
theorem of_hidT {h : Heap} {H : Hp} {b : Addr} {o : Obj} (e : (hidT h H).get? b = some o) : h.get? b = some o ∧ H b = none := by
  have e' : h.get? b = some o := PySem.W.of_hideAll (trk h H) e
  refine ⟨e', ?_⟩
  cases q : H b with
  | none => rfl
  | some x =>
    have hm : b ∈ trk h H := List.mem_filter.mpr ⟨List.mem_range.mpr (Heap.lt_size e'), by simp [q]⟩
    have z : (hidT h H).get? b = none := PySem.W.hideAll_none (trk h H) hm
    rw [z] at e; cases e
end L2
namespace L2
open PySem PySem.Spec PyProof.Rows
structure Mod (K : PySem.W.Frag) (mg : Str → Option Value) (base : Heap) : Prop where
  kin : K.In base
  glob : base.Ns mainGlobals mg
  blt : ∃ mb, base.Ns builtinsNs mb ∧ ∀ x : Str, x ≠ "__name__" → mb x = bootBuiltins x
  nolimit : base.NoLimit
structure Cx where
  prog : Program
  w : World
  K : PySem.W.Frag
  mg : Str → Option Value
  base : Heap
  A : Around
  N : List Str
  s₀ : Shared
  H₀ : Hp
  env : Env
  outer : List Env
  stack : List Env
  ex : List Addr
  fn : Str → Bool
  calm : Bool
  pn : List (Addr × Obj)
  xe : Value → Shared → Prop
def frs (l : List Env) : List Addr := l.filterMap (·.frame)
abbrev Cx.fs (X : Cx) : List Addr := frs X.outer
def Vis (sc : Scope) (x : Str) : Prop := sc.names.lookup x = some .local ∨ sc.names.lookup x = some .cell ∨ sc.names.lookup x = some .free
def Loc (sc : Scope) (x : Str) : Prop := sc.names.lookup x = some .local ∨ sc.names.lookup x = some .cell
def Look (env : Env) (h : Heap) (m : Str → Option Value) (x : Str) (u : Value) : Prop :=
  (env.kindOf x = some .local ∧ m x = some u) ∨ ((env.kindOf x = some .cell ∨ env.kindOf x = some .free) ∧ ∃ c, env.cells.lookup x = some c ∧ h.IsCell c (some u))
structure Cx.Ok (X : Cx) : Prop where
  mod : Mod X.K X.mg X.base
  kind : X.env.scope.kind = .function
  glob : X.env.globals = mainGlobals
  blt : X.env.builtins = builtinsNs
  above : X.s₀.heap.objs.size ≤ X.env.locals
  inj : ∀ x y c, X.env.cells.lookup x = some c → X.env.cells.lookup y = some c → x = y
  has : ∀ x, (X.env.kindOf x = some .cell ∨ X.env.kindOf x = some .free) → ∃ c, X.env.cells.lookup x = some c
  cab : ∀ x c, X.fn x = true → X.env.cells.lookup x = some c → X.s₀.heap.objs.size ≤ c
  hd : X.calm = true → X.A.handled = none
  frames : X.A.frames = some X.stack
  stk : X.stack = X.outer ∨ (X.stack = X.env :: X.outer ∧ X.env.frame = some X.env.locals)
  exf : ∀ b ∈ X.ex, b ≠ X.env.locals ∧ ∀ x c, X.env.cells.lookup x = some c → c ≠ b
  bs : ∀ b o, X.base.get? b = some o → X.s₀.heap.get? b = some o ∧ X.H₀ b = none
  bsz : X.base.objs.size ≤ X.s₀.heap.objs.size
  noex : ∀ b o, X.base.get? b = some o → b ∉ X.ex
  exfs : ∀ b ∈ X.ex, b ∉ X.fs
  funs : X.s₀.heap.FunFrames X.base X.outer
  frf : ∀ b ∈ X.fs, X.H₀ b = none
structure Inv (X : Cx) (pins : List (Addr × Obj)) (σ : List (Option V)) (H : Hp) (s : Shared) : Prop where
  ok : X.Ok
  os : s.os = X.s₀.os
  bare : AllBare s.gens
  base : Un X.fs X.ex X.H₀ H X.s₀.heap s.heap
  loc : ∃ m, s.heap.Ns X.env.locals m ∧ ∀ (i : Nat) (x : Str) (v : V), X.N[i]? = some x → σ[i]? = some (some v) → Vis X.env.scope x → ∃ u, RelV v u ∧ Look X.env s.heap m x u
  cell : ∀ x c, X.env.cells.lookup x = some c → ∃ v, s.heap.IsCell c v
  free : H X.env.locals = none
  freeC : ∀ x c, X.env.cells.lookup x = some c → H c = none
  pin : ∀ p ∈ X.pn ++ pins, s.heap.get? p.1 = some p.2 ∧ H p.1 = none ∧ p.1 ≠ X.env.locals ∧ p.1 ∉ X.fs ∧ ∀ v, p.2.data ≠ .cell v
  hok : HOk X.prog X.w H s.heap
  len : σ.length = X.N.length
section
variable {X : Cx} {pins : List (Addr × Obj)} {σ : List (Option V)} {H H' : Hp} {s : Shared} {h' : Heap}
theorem Cx.Ok.nofr (ok : X.Ok) {b : Addr} {o : Obj} (e : X.base.get? b = some o) : b ∉ X.fs := fun hb => by
  have := (ok.funs.mem hb).1
  rw [e] at this; cases this
theorem Inv.bs (I : Inv X pins σ H s) : ∀ b o, X.base.get? b = some o → s.heap.get? b = some o ∧ H b = none := fun b o e =>
  ⟨I.base.keep b o (I.ok.bs b o e).1 (I.ok.bs b o e).2 (I.ok.nofr e) (I.ok.noex b o e), I.base.free b o (I.ok.bs b o e).1 (I.ok.bs b o e).2 (I.ok.noex b o e)⟩
theorem Inv.bk (I : Inv X pins σ H s) : ∀ b o, X.base.get? b = some o → s.heap.get? b = some o := fun b o e => (I.bs b o e).1
theorem Inv.mod (I : Inv X pins σ H s) : Mod X.K X.mg X.base := I.ok.mod
theorem Inv.kIn (I : Inv X pins σ H s) : X.K.In s.heap := I.ok.mod.kin.keeps I.bk
theorem Inv.lt (I : Inv X pins σ H s) : X.env.locals < s.heap.objs.size := let ⟨_, hn, _⟩ := I.loc; hn.lt
theorem Inv.sz (I : Inv X pins σ H s) : X.s₀.heap.objs.size ≤ s.heap.objs.size := Nat.le_trans I.ok.above (Nat.le_of_lt I.lt)
theorem Inv.nofs (I : Inv X pins σ H s) {a : Addr} (h : s.heap.objs.size ≤ a) : a ∉ X.fs := fun hb => by
  obtain ⟨_, o, ho, _⟩ := I.ok.funs.mem hb
  exact absurd (Nat.lt_of_lt_of_le (Heap.lt_size ho) (Nat.le_trans I.sz h)) (Nat.lt_irrefl _)
theorem Inv.cne (I : Inv X pins σ H s) : ∀ x c, X.env.cells.lookup x = some c → c ≠ X.env.locals := fun x c e z => by
  obtain ⟨v, o, ho, hd⟩ := I.cell x c e
  obtain ⟨m, ⟨o', es, ep, ho', hd', _⟩, _⟩ := I.loc
  rw [z, ho'] at ho; cases ho; rw [hd'] at hd; cases hd
theorem Inv.funs (I : Inv X pins σ H s) : s.heap.FunFrames X.base X.outer := by
  have all : ∀ (l : List Env), (∀ b ∈ frs l, b ∈ X.fs) → X.s₀.heap.FunFrames X.base l → s.heap.FunFrames X.base l := by
    intro l
    induction l with
    | nil => intro _ _; trivial
    | cons env r ih =>
      intro hs hl
      obtain ⟨hk, ⟨L, o, hf, hn, ho, hd⟩, hr⟩ := hl
      have hL : L ∈ X.fs := hs L (by unfold frs; rw [List.filterMap_cons, hf]; exact List.mem_cons_self)
      obtain ⟨sl, e⟩ := I.base.slot L o ho (I.ok.frf L hL) hL fun z => I.ok.exfs L z hL
      exact ⟨hk, ⟨L, _, hf, hn, e, hd⟩, ih (fun b hb => hs b (by unfold frs; rw [List.filterMap_cons, hf]; exact List.mem_cons_of_mem _ hb)) hr⟩
  exact all X.outer (fun _ hb => hb) I.ok.funs
theorem Inv.stack (I : Inv X pins σ H s) : s.heap.FunFrames X.base X.stack := by
  rcases I.ok.stk with e | ⟨e, hf⟩
  · rw [e]; exact I.funs
  · rw [e]
    obtain ⟨m, hn, _⟩ := I.loc
    refine .cons (by rw [I.ok.kind]; decide) hf hn ?_ I.funs
    exact Heap.get?_none_of_le (Nat.le_trans I.ok.bsz I.ok.above)
theorem Inv.stkSub (I : Inv X pins σ H s) : ∀ b ∈ frs X.stack, b ∈ X.env.locals :: X.fs := fun b hb => by
  rcases I.ok.stk with e | ⟨e, hf⟩
  · rw [e] at hb; exact List.mem_cons_of_mem _ hb
  · rw [e] at hb
    unfold frs at hb
    rw [List.filterMap_cons, hf] at hb
    exact hb
theorem Inv.stkFree (I : Inv X pins σ H s) : ∀ b ∈ frs X.stack, H b = none := fun b hb => by
  rcases List.mem_cons.mp (I.stkSub b hb) with e | hb
  · rw [e]; exact I.free
  · obtain ⟨_, o, ho, _⟩ := I.ok.funs.mem hb
    exact I.base.free b o ho (I.ok.frf b hb) fun z => I.ok.exfs b z hb
theorem Inv.step {g' : Array GenState} {t' : Nat} {d' : Drawn} {ch : List Addr} (I : Inv X pins σ H s)
    (hch : ∀ b ∈ ch, (b ∈ X.ex ∨ X.s₀.heap.objs.size ≤ b) ∧ b ≠ X.env.locals ∧ (∀ x c, X.env.cells.lookup x = some c → c ≠ b) ∧ ∀ p ∈ X.pn ++ pins, p.1 ≠ b)
    (keep : ∀ b o, b ≠ X.env.locals → b ∉ X.fs → b ∉ ch → s.heap.get? b = some o → H b = none → h'.get? b = some o)
    (slot : ∀ b o, b ≠ X.env.locals → b ∈ X.fs → b ∉ ch → s.heap.get? b = some o → H b = none → ∃ sl, h'.get? b = some { o with slots := sl }) (free : ∀ b o, b ∉ ch → s.heap.get? b = some o → H b = none → H' b = none)
    (there : ∀ b o, b ∉ ch → s.heap.get? b = some o → ∃ o', h'.get? b = some o')
    (tups : ∀ b xs, H b = some (.tup xs) → H' b = some (.tup xs)) (frzs : ∀ b o u, H b = some (.frz o u) → H' b = some (.frz o u)) (tbls : ∀ b ps, H b = some (.tbl ps) → ∃ more, H' b = some (.tbl (ps ++ more)))
    (ns : ∀ m, s.heap.Ns X.env.locals m → h'.Ns X.env.locals m) (hok : HOk X.prog X.w H' h') (hg : AllBare g') :
    Inv X pins σ H' { s with heap := h', gens := g', drawn := d', toks := t' } := by
  have neL : ∀ b o, X.s₀.heap.get? b = some o → b ≠ X.env.locals := fun b o e => Nat.ne_of_lt (Nat.lt_of_lt_of_le (Heap.lt_size e) I.ok.above)
  have neC : ∀ b o, X.s₀.heap.get? b = some o → b ∉ X.ex → b ∉ ch := fun b o e hx hb => by
    rcases (hch b hb).1 with z | z
    · exact hx z
    · exact absurd (Nat.lt_of_lt_of_le (Heap.lt_size e) z) (Nat.lt_irrefl _)
  have cellK : ∀ x c, X.env.cells.lookup x = some c → ∀ v, s.heap.IsCell c v → h'.IsCell c v := fun x c e v ⟨o, ho, hd⟩ => by
    have nch : c ∉ ch := fun z => (hch c z).2.2.1 x c e rfl
    by_cases hc : c ∈ X.fs
    · obtain ⟨sl, q⟩ := slot c o (I.cne x c e) hc nch ho (I.freeC x c e)
      exact ⟨_, q, hd⟩
    · exact ⟨o, keep c o (I.cne x c e) hc nch ho (I.freeC x c e), hd⟩
  refine ⟨I.ok, I.os, hg, ⟨fun b o e n hb hx => ?_, fun b o e n hb hx => ?_, fun b o e n hx => ?_, fun b o e hx => ?_, fun b xs e => tups b xs (I.base.tups b xs e), fun b o xs e => frzs b o xs (I.base.frzs b o xs e), fun b ps e => ?_⟩, ?_, fun x c e => ?_, ?_, fun x c e => ?_, fun p hp => ?_, hok, I.len⟩
  · exact keep b o (neL b o e) hb (neC b o e hx) (I.base.keep b o e n hb hx) (I.base.free b o e n hx)
  · obtain ⟨sl, e1⟩ := I.base.slot b o e n hb hx
    obtain ⟨sl', e2⟩ := slot b _ (neL b o e) hb (neC b o e hx) e1 (I.base.free b o e n hx)
    exact ⟨sl', e2⟩
  · obtain ⟨o', e1⟩ := I.base.there b o e hx
    exact free b o' (neC b o e hx) e1 (I.base.free b o e n hx)
  · obtain ⟨o', e1⟩ := I.base.there b o e hx
    exact there b o' (neC b o e hx) e1
  · obtain ⟨m1, e1⟩ := I.base.tbls b ps e
    obtain ⟨m2, e2⟩ := tbls b _ e1
    exact ⟨m1 ++ m2, by rw [e2, Array.append_assoc]⟩
  · obtain ⟨m, hn, hl⟩ := I.loc
    refine ⟨m, ns m hn, fun i x v e1 e2 e3 => ?_⟩
    obtain ⟨u, r, l⟩ := hl i x v e1 e2 e3
    refine ⟨u, r, ?_⟩
    rcases l with l | ⟨k, c, e, z⟩
    · exact .inl l
    · exact .inr ⟨k, c, e, cellK x c e _ z⟩
  · obtain ⟨v, z⟩ := I.cell x c e
    exact ⟨v, cellK x c e v z⟩
  · obtain ⟨m, ⟨o, _, _, ho, _⟩, _⟩ := I.loc
    exact free _ o (fun z => (hch _ z).2.1 rfl) ho I.free
  · obtain ⟨v, o, ho, hd⟩ := I.cell x c e
    exact free c o (fun z => (hch c z).2.2.1 x c e rfl) ho (I.freeC x c e)
  · obtain ⟨e, n, ne, nf, d⟩ := I.pin p hp
    have nch : p.1 ∉ ch := fun z => (hch p.1 z).2.2.2 p hp rfl
    exact ⟨keep p.1 p.2 ne nf nch e n, free p.1 p.2 nch e n, ne, nf, d⟩
theorem Inv.un {t' : Nat} (I : Inv X pins σ H s) (u : Un X.fs [] H H' s.heap h') (hok : HOk X.prog X.w H' h') : Inv X pins σ H' { s with heap := h', toks := t' } := by
  obtain ⟨m, ⟨o, es, ep, ho, r⟩, _⟩ := id I.loc
  obtain ⟨sl, hL⟩ := u.any ho I.free (by simp)
  exact I.step (g' := s.gens) (d' := s.drawn) (ch := []) (fun _ z => nomatch z) (fun b o _ hb _ e n => u.keep b o e n hb (by simp)) (fun b o _ hb _ e n => u.slot b o e n hb (by simp)) (fun b o _ e n => u.free b o e n (by simp)) (fun b o _ e => u.there b o e (by simp)) u.tups u.frzs u.tbls (fun m' hm => by
    obtain ⟨o', es', ep', ho', r'⟩ := hm
    rw [ho] at ho'; cases ho'
    exact ⟨_, es', ep', hL, r'⟩) hok I.bare
theorem Inv.call {g' : Array GenState} {t' : Nat} {d' : Drawn} {ch : List Addr} (I : Inv X pins σ H s) (u : Un (frs X.stack) ch H H' s.heap h') (hok : HOk X.prog X.w H' h') (hg : AllBare g')
    (hch : ∀ b ∈ ch, (b ∈ X.ex ∨ X.s₀.heap.objs.size ≤ b) ∧ b ≠ X.env.locals ∧ (∀ x c, X.env.cells.lookup x = some c → c ≠ b) ∧ ∀ p ∈ X.pn ++ pins, p.1 ≠ b) :
    Inv X pins σ H' { s with heap := h', gens := g', drawn := d', toks := t' } := by
  obtain ⟨m, ⟨o, es, ep, ho, r⟩, _⟩ := id I.loc
  obtain ⟨sl, hL⟩ := u.any ho I.free fun z => (hch _ z).2.1 rfl
  exact I.step (ch := ch) hch (fun b o hL hb hc e n => u.keep b o e n (fun z => (List.mem_cons.mp (I.stkSub b z)).elim hL hb) hc) (fun b o _ _ hc e n => u.any e n hc) (fun b o hc e n => u.free b o e n hc) (fun b o hc e => u.there b o e hc) u.tups u.frzs u.tbls (fun m' hm => by
    obtain ⟨o', es', ep', ho', r'⟩ := hm
    rw [ho] at ho'; cases ho'
    exact ⟨_, es', ep', hL, r'⟩) hok hg
theorem Inv.turned {t' : Nat} {it : Addr} (I : Inv X pins σ H s) (k : ∀ b o, b ≠ it → s.heap.get? b = some o → h'.get? b = some o) (hn : H it = none) (hL : it ≠ X.env.locals)
    (h1 : it ∈ X.ex ∨ X.s₀.heap.objs.size ≤ it) (h2 : ∀ x c, X.env.cells.lookup x = some c → c ≠ it) (h3 : ∀ p ∈ X.pn ++ pins, p.1 ≠ it) : Inv X pins σ H { s with heap := h', toks := t' } := by
  have nit : ∀ b u, H b = some u → b ≠ it := fun b u e z => by rw [z, hn] at e; cases e
  refine I.step (g' := s.gens) (d' := s.drawn) (ch := [it]) (fun b hb => ?_) (fun b o _ _ hc e _ => k b o (fun z => hc (by simp [z])) e) (fun b o _ _ hc e _ => ⟨o.slots, k b o (fun z => hc (by simp [z])) e⟩) (fun _ _ _ _ n => n)
    (fun b o hc e => ⟨o, k b o (fun z => hc (by simp [z])) e⟩) (fun _ _ e => e) (fun _ _ _ e => e) (fun b ps e => ⟨#[], by rw [e]; simp⟩) (fun m hm => ?_) (fun b u e => ?_) I.bare
  · have e : b = it := by simpa using hb
    subst e
    exact ⟨h1, hL, h2, h3⟩
  · obtain ⟨o, es, ep, ho, r⟩ := hm
    exact ⟨o, es, ep, k _ o (Ne.symm hL) ho, r⟩
  · refine (I.hok b u e).stay (fun c v hc q => k c v ?_ q) (fun _ q => q) fun _ _ q => q
    rcases hc with z | z
    · rw [z]; exact nit b u e
    · exact nit c _ z
theorem Inv.tok (I : Inv X pins σ H s) (t : Nat) : Inv X pins σ H { s with toks := t } := I.un (h' := s.heap) (t' := t) Un.refl I.hok
theorem Inv.kept {t' : Nat} (I : Inv X pins σ H s) (k : ∀ b u, s.heap.get? b = some u → h'.get? b = some u) : Inv X pins σ H { s with heap := h', toks := t' } := I.un (Un.kept k) (I.hok.kept k)
theorem Inv.laid {a : Addr} {o : HO} {t' : Nat} (I : Inv X pins σ H s) (k : ∀ b u, s.heap.get? b = some u → h'.get? b = some u) (hp : s.heap.objs.size ≤ a) (new : ObjOk X.prog X.w (upd H a o) h' a o) :
    Inv X pins σ (upd H a o) { s with heap := h', toks := t' } := I.un (Un.laid k hp (I.hok.fresh hp)) (I.hok.laid k hp new)
theorem Inv.write {x e : Addr} {o : HO} {t' : Nat} (I : Inv X pins σ H s) (mu : Mut (H x)) (he : e = x ∨ H e = some (.own x)) (k : ∀ b u, b ≠ e → s.heap.get? b = some u → h'.get? b = some u) (heo : ∃ u, h'.get? e = some u)
    (new : ObjOk X.prog X.w (upd H x o) h' x o) : Inv X pins σ (upd H x o) { s with heap := h', toks := t' } := I.un (Un.write mu he k heo) (I.hok.write mu he k heo new)
theorem Inv.weak {σ' : List (Option V)} (I : Inv X pins σ H s) (hl : σ'.length = σ.length) (w : ∀ (i : Nat) v, σ'[i]? = some (some v) → σ[i]? = some (some v)) : Inv X pins σ' H s :=
  ⟨I.ok, I.os, I.bare, I.base, let ⟨m, hn, hl'⟩ := I.loc; ⟨m, hn, fun i x v e1 e2 e3 => hl' i x v e1 (w i v e2) e3⟩, I.cell, I.free, I.freeC, I.pin, I.hok, hl.trans I.len⟩
theorem Inv.pins_of {pins' : List (Addr × Obj)} (I : Inv X pins σ H s) (h : ∀ p ∈ pins', s.heap.get? p.1 = some p.2 ∧ H p.1 = none ∧ p.1 ≠ X.env.locals ∧ p.1 ∉ X.fs ∧ ∀ v, p.2.data ≠ .cell v) : Inv X pins' σ H s :=
  ⟨I.ok, I.os, I.bare, I.base, I.loc, I.cell, I.free, I.freeC, fun p hp => (List.mem_append.mp hp).elim (fun z => I.pin p (List.mem_append_left _ z)) (h p), I.hok, I.len⟩
theorem nodup_ix {N : List Str} (hN : N.Nodup) {i j : Nat} {x : Str} (a : N[i]? = some x) (b : N[j]? = some x) : i = j := by
  obtain ⟨h1, e1⟩ := List.getElem?_eq_some_iff.mp a
  obtain ⟨h2, e2⟩ := List.getElem?_eq_some_iff.mp b
  exact (List.getElem_inj hN).mp (e1.trans e2.symm)
theorem store_ok2 {M : Model} {A : Around} {E : Value → Shared → Prop} {i : Nat} {x : Str} {v : V} {u : Value} {Q : Unit → Shared → Prop} (I : Inv X pins σ H s) (hN : X.N.Nodup) (hi : X.N[i]? = some x) (hx : Loc X.env.scope x) (r : RelV v u)
    (h : ∀ s', Inv X pins (σ.set i (some v)) H s' → (∃ a, Heap.SameBut a s.heap s'.heap ∧ (a = X.env.locals ∨ X.env.cells.lookup x = some a)) → Q () s') (hf : X.fn x = true ∨ X.env.scope.names.lookup x = some .local := by first | exact .inl rfl | exact .inr rfl | assumption) : wpAny M A (storeName X.env x u) Q E s := by
  obtain ⟨m, hn, hl⟩ := id I.loc
  have hcls : (X.env.scope.kind == .class || (X.env.scope.kind == .module && X.env.locals != X.env.globals)) = false := by rw [I.ok.kind]; rfl
  have hiσ : i < σ.length := by rw [I.len]; exact (List.getElem?_eq_some_iff.mp hi).1
  have cne := I.cne
  have tracked : ∀ {a : Addr} {h' : Heap}, (∃ o, s.heap.get? a = some o ∧ H a = none) → Heap.SameBut a s.heap h' → HOk X.prog X.w H h' := fun {a h'} ha hs b ob e => by
    obtain ⟨_, _, hfree⟩ := ha
    refine (I.hok b ob e).stay (fun c w' hc q => (hs.2 c ?_).trans q) (fun _ q => q) fun _ _ q => q
    rintro rfl
    rcases hc with rfl | hc
    · rw [hfree] at e; cases e
    · rw [hfree] at hc; cases hc
  rcases hx with hk | hk
  · refine wpAny_storeName_local hk hn (fun h' hn' hs => ?_) hcls
    obtain ⟨oL, _, _, hoL, _⟩ := id hn
    refine h _ ⟨I.ok, I.os, I.bare, ⟨fun b o e n hb hx => ?_, fun b o e n hb hx => ?_, I.base.free, fun b o e hx => ?_, I.base.tups, I.base.frzs, I.base.tbls⟩, ⟨_, hn', fun j y v' e1 e2 e3 => ?_⟩, fun y c e => ?_, I.free, I.freeC, fun p hp => ?_, tracked ⟨oL, hoL, I.free⟩ hs, by simpa using I.len⟩ ⟨_, hs, .inl rfl⟩
    · exact (hs.2 b (Nat.ne_of_lt (Nat.lt_of_lt_of_le (Heap.lt_size e) I.ok.above))).trans (I.base.keep b o e n hb hx)
    · obtain ⟨sl, e1⟩ := I.base.slot b o e n hb hx
      exact ⟨sl, (hs.2 b (Nat.ne_of_lt (Nat.lt_of_lt_of_le (Heap.lt_size e) I.ok.above))).trans e1⟩
    · obtain ⟨o', e1⟩ := I.base.there b o e hx
      exact ⟨o', (hs.2 b (Nat.ne_of_lt (Nat.lt_of_lt_of_le (Heap.lt_size e) I.ok.above))).trans e1⟩
    · by_cases hj : j = i
      · subst hj
        rw [hi] at e1; cases e1
        rw [List.getElem?_set_self hiσ] at e2
        cases e2
        exact ⟨u, r, .inl ⟨hk, by simp⟩⟩
      · rw [List.getElem?_set_ne (Ne.symm hj)] at e2
        obtain ⟨u', r', q⟩ := hl j y v' e1 e2 e3
        refine ⟨u', r', ?_⟩
        rcases q with ⟨k, e⟩ | ⟨k, c, e, z⟩
        · refine .inl ⟨k, ?_⟩
          have : y ≠ x := fun e => hj (nodup_ix hN e1 (e ▸ hi))
          simp [this, e]
        · exact .inr ⟨k, c, e, z.sameBut hs (cne y c e)⟩
    · obtain ⟨w', z⟩ := I.cell y c e
      exact ⟨w', z.sameBut hs (cne y c e)⟩
    · obtain ⟨e, n, ne, nf, d⟩ := I.pin p hp
      exact ⟨(hs.2 p.1 ne).trans e, n, ne, nf, d⟩
  · have hfn : X.fn x = true := by
      rcases hf with z | z
      · exact z
      · rw [z] at hk; cases hk
    obtain ⟨c, hc⟩ := I.ok.has x (.inl hk)
    obtain ⟨w', z⟩ := I.cell x c hc
    refine wpAny_storeName_cell I.ok.kind hk hc z (fun h' hc' hs => ?_)
    obtain ⟨oc, hoc, hocd⟩ := id z
    refine h { s with heap := h' } ⟨I.ok, I.os, I.bare, ⟨fun b o e n hb hx => ?_, fun b o e n hb hx => ?_, I.base.free, fun b o e hx => ?_, I.base.tups, I.base.frzs, I.base.tbls⟩, ⟨m, hn.sameBut hs (Ne.symm (cne x c hc)), fun j y v' e1 e2 e3 => ?_⟩, fun y c' e => ?_, I.free, I.freeC, fun p hp => ?_, tracked ⟨oc, hoc, I.freeC x c hc⟩ hs, by simpa using I.len⟩ ⟨c, hs, .inr hc⟩
    · exact (hs.2 b (Nat.ne_of_lt (Nat.lt_of_lt_of_le (Heap.lt_size e) (I.ok.cab x c hfn hc)))).trans (I.base.keep b o e n hb hx)
    · obtain ⟨sl, e1⟩ := I.base.slot b o e n hb hx
      exact ⟨sl, (hs.2 b (Nat.ne_of_lt (Nat.lt_of_lt_of_le (Heap.lt_size e) (I.ok.cab x c hfn hc)))).trans e1⟩
    · obtain ⟨o', e1⟩ := I.base.there b o e hx
      exact ⟨o', (hs.2 b (Nat.ne_of_lt (Nat.lt_of_lt_of_le (Heap.lt_size e) (I.ok.cab x c hfn hc)))).trans e1⟩
    · by_cases hj : j = i
      · subst hj
        rw [hi] at e1; cases e1
        rw [List.getElem?_set_self hiσ] at e2
        cases e2
        exact ⟨u, r, .inr ⟨.inl hk, c, hc, hc'⟩⟩
      · rw [List.getElem?_set_ne (Ne.symm hj)] at e2
        obtain ⟨u', r', q⟩ := hl j y v' e1 e2 e3
        refine ⟨u', r', ?_⟩
        rcases q with q | ⟨k, c', e, z'⟩
        · exact .inl q
        · refine .inr ⟨k, c', e, z'.sameBut hs ?_⟩
          rintro rfl
          exact hj (nodup_ix hN e1 (I.ok.inj _ _ _ e hc ▸ hi))
    · by_cases hcc : c' = c
      · subst hcc; exact ⟨_, hc'⟩
      · obtain ⟨w2, z2⟩ := I.cell y c' e
        exact ⟨w2, z2.sameBut hs hcc⟩
    · obtain ⟨e, n, ne, nf, d⟩ := I.pin p hp
      refine ⟨(hs.2 p.1 ?_).trans e, n, ne, nf, d⟩
      intro q
      rw [q, hoc] at e
      have q' : oc = p.2 := Option.some.inj e
      exact d w' (by rw [← q']; exact hocd)
theorem store_ok {M : Model} {A : Around} {E : Value → Shared → Prop} {i : Nat} {x : Str} {v : V} {u : Value} {Q : Unit → Shared → Prop} (I : Inv X pins σ H s) (hN : X.N.Nodup) (hi : X.N[i]? = some x) (hx : Loc X.env.scope x) (r : RelV v u)
    (h : ∀ s', Inv X pins (σ.set i (some v)) H s' → Q () s') (hf : X.fn x = true ∨ X.env.scope.names.lookup x = some .local := by first | exact .inl rfl | exact .inr rfl | assumption) : wpAny M A (storeName X.env x u) Q E s :=
  store_ok2 I hN hi hx r (fun s' I' _ => h s' I') hf
theorem Inv.call' {s' : Shared} {ch : List Addr} (I : Inv X pins σ H s) (ho : s'.os = s.os) (u : Un (frs X.stack) ch H H' s.heap s'.heap) (hok : HOk X.prog X.w H' s'.heap) (hg : AllBare s'.gens)
    (hch : ∀ b ∈ ch, (b ∈ X.ex ∨ X.s₀.heap.objs.size ≤ b) ∧ b ≠ X.env.locals ∧ (∀ x c, X.env.cells.lookup x = some c → c ≠ b) ∧ ∀ p ∈ X.pn ++ pins, p.1 ≠ b) : Inv X pins σ H' s' := by
  obtain ⟨h', g', d', t', o'⟩ := s'
  have e : o' = s.os := ho
  subst e
  exact I.call (g' := g') (t' := t') (d' := d') u hok hg hch
end
abbrev XK := Value → Option Addr → Hp → Prop
abbrev St := List (Option V)
abbrev VK := V → Hp → Prop
abbrev TE := St → Hp → VK → Prop
abbrev TT := St → Hp → (Bool → Hp → Prop) → Prop
abbrev TA := St → Hp → (List V → Hp → Prop) → Prop
structure Ends where
  nx : St → Hp → Prop
  rt : VK
  bk : St → Hp → Prop := fun _ _ => False
  ct : St → Hp → Prop := fun _ _ => False
abbrev TS := Ends → St → Hp → Prop
def EP (X : Cx) (pins : List (Addr × Obj)) (σ : St) (Q : VK) (u : Value) (s' : Shared) : Prop := ∃ v H', Inv X pins σ H' s' ∧ RelV v u ∧ Q v H'
def TP (X : Cx) (pins : List (Addr × Obj)) (σ : St) (Q : Bool → Hp → Prop) (b : Bool) (s' : Shared) : Prop := ∃ H', Inv X pins σ H' s' ∧ Q b H'
def AP (X : Cx) (pins : List (Addr × Obj)) (σ : St) (Q : List V → Hp → Prop) (us : List Value) (s' : Shared) : Prop := ∃ vs H', Inv X pins σ H' s' ∧ Vals vs us ∧ Q vs H'
def SP (X : Cx) (pins : List (Addr × Obj)) (D : Ends) (f : Flow) (s' : Shared) : Prop :=
  match f with
  | .next => ∃ σ' H', Inv X pins σ' H' s' ∧ D.nx σ' H'
  | .brk => ∃ σ' H', Inv X pins σ' H' s' ∧ D.bk σ' H'
  | .cont => ∃ σ' H', Inv X pins σ' H' s' ∧ D.ct σ' H'
  | .ret u => ∃ v σ' H', Inv X pins σ' H' s' ∧ RelV v u ∧ D.rt v H'
def PE (X : Cx) (e : Expr) (t : TE) : Prop :=
  ∀ (pins : List (Addr × Obj)) (s : Shared) (σ : St) (H : Hp) (Q : VK), Inv X pins σ H s → t σ H Q → wpAny (model X.prog X.w) X.A (eval e X.env) (EP X pins σ Q) X.xe s
def PT (X : Cx) (e : Expr) (t : TT) : Prop :=
  ∀ (pins : List (Addr × Obj)) (s : Shared) (σ : St) (H : Hp) (Q : Bool → Hp → Prop), Inv X pins σ H s → t σ H Q → wpAny (model X.prog X.w) X.A (isTrue e X.env (eval e X.env)) (TP X pins σ Q) X.xe s
def PW (X : Cx) (e : Expr) (t : TT) : Prop :=
  ∀ (whole : Sem Value) (pins : List (Addr × Obj)) (s : Shared) (σ : St) (H : Hp) (Q : Bool → Hp → Prop), Inv X pins σ H s → t σ H Q → wpAny (model X.prog X.w) X.A (isTrue e X.env whole) (TP X pins σ Q) X.xe s
theorem PW.pt {X : Cx} {e : Expr} {t : TT} (h : PW X e t) : PT X e t := h _
def PA (X : Cx) (es : List Expr) (t : TA) : Prop :=
  ∀ (pos : Pos) (pins : List (Addr × Obj)) (s : Shared) (σ : St) (H : Hp) (Q : List V → Hp → Prop), Inv X pins σ H s → t σ H Q → wpAny (model X.prog X.w) X.A (spliced (backTo pos (starEach es X.env))) (AP X pins σ Q) X.xe s
def PS (X : Cx) (st : Stmt) (t : TS) : Prop :=
  ∀ (pins : List (Addr × Obj)) (s : Shared) (σ : St) (H : Hp) (D : Ends), Inv X pins σ H s → t D σ H → wpAny (model X.prog X.w) X.A (exec st X.env) (SP X pins D) X.xe s
def PSs (X : Cx) (st : List Stmt) (t : TS) : Prop :=
  ∀ (pins : List (Addr × Obj)) (s : Shared) (σ : St) (H : Hp) (D : Ends), Inv X pins σ H s → t D σ H → wpAny (model X.prog X.w) X.A (execs st X.env) (SP X pins D) X.xe s
theorem thn {α : Type} {t : Sem α} {Q Q' : α → Shared → Prop} {M : Model} {A : Around} {E : Value → Shared → Prop} {s : Shared} (h : wpAny M A t Q E s) (hQ : ∀ a s, Q a s → Q' a s) : wpAny M A t Q' E s := wpAny_mono h hQ fun _ _ x => x
end L2
namespace L2
open PySem PySem.Spec PyProof.Rows
section
variable {X : Cx}
def tVar (i : Nat) : TE := fun σ H Q => ∃ v, σ[i]? = some (some v) ∧ Q v H
def tC (v : V) : TE := fun _ H Q => Q v H
theorem pe_var {i : Nat} {x : Str} {pos : Pos} (hN : X.N[i]? = some x) (hv : Vis X.env.scope x) (hd : (x == ("__debug__" : Str)) = false := by decide) (hcd : (x == ("__classdict__" : Str)) = false := by decide) : PE X (.Name x pos) (tVar i) := by
  intro pins s σ H Q I h
  obtain ⟨v, e, h⟩ := h
  obtain ⟨m, hn, hl⟩ := I.loc
  obtain ⟨u, r, l⟩ := hl i x v hN e hv
  have fin : EP X pins σ Q u s := ⟨v, H, I, r, h⟩
  rcases l with ⟨hk, hm⟩ | ⟨hk, c, hc, hcell⟩
  · exact wpAny_Name (wpAny_loadName_local I.ok.kind hk hn hm fin) hd
  · rcases hk with hk | hk
    · exact wpAny_Name (wpAny_loadName_cell I.ok.kind hk hc hcell fin) hd
    · exact wpAny_Name (wpAny_loadName_free I.ok.kind hk hc hcell fin hcd) hd
theorem pe_int {i j pos} : PE X (.Constant (.int i) j pos) (tC (.int i)) := fun _ _ _ H _ I h => wpAny_Constant_int ⟨.int i, H, I.tok _, ⟨_, rfl⟩, h⟩
theorem pe_bl {b j pos} : PE X (.Constant (.bool b) j pos) (tC (.bl b)) := fun _ _ _ H _ I h => Constant_bool ⟨.bl b, H, I, rfl, h⟩
theorem pe_str {x j pos} : PE X (.Constant (.str x) j pos) (tC (.str x)) := fun _ _ _ H _ I h => Calls.Constant_str ⟨.str x, H, I.tok _, ⟨_, rfl⟩, h⟩
def Gl (X : Cx) (x : Str) : Prop := X.env.kindOf x = some .globalImplicit
theorem ld_glob {E : Value → Shared → Prop} {pins : List (Addr × Obj)} {s : Shared} {σ : St} {H : Hp} {x : Str} {u : Value} {pos : Pos} {Q : Value → Shared → Prop} (I : Inv X pins σ H s) (hg : Gl X x) (hm : X.mg x = some u) (h : Q u s)
    (hd : (x == ("__debug__" : Str)) = false := by decide) : wpAny (model X.prog X.w) X.A (eval (.Name x pos) X.env) Q E s :=
  Calls.Name_function_global I.ok.kind hg (Calls.loadGlobal_global (by rw [I.ok.glob]; exact I.mod.glob.keeps I.bk) hm h) hd
theorem ld_blt {E : Value → Shared → Prop} {pins : List (Addr × Obj)} {s : Shared} {σ : St} {H : Hp} {x : Str} {u : Value} {pos : Pos} {Q : Value → Shared → Prop} (I : Inv X pins σ H s) (hg : Gl X x) (hm : X.mg x = none) (hv : bootBuiltins x = some u) (h : Q u s)
    (hn : x ≠ "__name__" := by decide) (hd : (x == ("__debug__" : Str)) = false := by decide) : wpAny (model X.prog X.w) X.A (eval (.Name x pos) X.env) Q E s := by
  obtain ⟨mb, h1, h2⟩ := I.mod.blt
  exact Calls.Name_function_global I.ok.kind hg (Calls.loadGlobal_builtin (by rw [I.ok.glob]; exact I.mod.glob.keeps I.bk) hm (by rw [I.ok.blt]; exact h1.keeps I.bk) ((h2 x hn).trans hv) h) hd
theorem pe_glob {x : Str} {v : V} {u : Value} {pos : Pos} (hg : Gl X x) (hm : X.mg x = some u) (r : RelV v u) (hd : (x == ("__debug__" : Str)) = false := by decide) : PE X (.Name x pos) (tC v) :=
  fun _ _ _ H _ I h => ld_glob I hg hm ⟨v, H, I, r, h⟩ hd
theorem pe_bltn {x : Str} {v : V} {u : Value} {pos : Pos} (hg : Gl X x) (hm : X.mg x = none) (hv : bootBuiltins x = some u) (r : RelV v u) (hn : x ≠ "__name__" := by decide) (hd : (x == ("__debug__" : Str)) = false := by decide) : PE X (.Name x pos) (tC v) :=
  fun _ _ _ H _ I h => ld_blt I hg hm hv ⟨v, H, I, r, h⟩ hn hd
variable {a b : Expr} {ta tb : TE} {pos : Pos}
def tB (t : TE) : TT := fun σ H Q => t σ H fun x H1 => ∃ c, x = .bl c ∧ Q c H1
theorem pt_val {e : Expr} {t : TE} (h : PE X e t) (he : ∀ whole, isTrue e X.env whole = (do let v ← whole; standAt e.pos; holding [v] (truthy v)) := by intro _; rfl) : PT X e (tB t) := by
  intro pins s σ H Q I hw
  refine isTrue_plain (thn (h pins s σ H _ I hw) fun v s1 ⟨x, H1, I1, r1, q1⟩ => ?_) (he _)
  obtain ⟨d, rfl, q⟩ := q1
  cases r1
  exact wpAny_truthy_bool ⟨H1, I1, q⟩
variable {tA tB' : TT} {rest : List Expr}
def tAnd (t u : TT) : TT := fun σ H Q => t σ H fun c H1 => if c = true then u σ H1 Q else Q false H1
def tOr (t u : TT) : TT := fun σ H Q => t σ H fun c H1 => if c = true then Q true H1 else u σ H1 Q
def tNot (t : TT) : TT := fun σ H Q => t σ H fun c H1 => Q (!c) H1
theorem pw_and1 (ha : PT X a tA) : PW X (.BoolOp .And [a] pos) tA := by
  intro wh pins s σ H Q I h
  refine isTrue_and (thn (ha pins s σ H Q I h) fun c s1 e => ?_)
  cases c with
  | true => exact isTrue_and_nil e
  | false => exact e
theorem pw_or1 (ha : PT X a tA) : PW X (.BoolOp .Or [a] pos) tA := by
  intro wh pins s σ H Q I h
  refine isTrue_or (thn (ha pins s σ H Q I h) fun c s1 e => ?_)
  cases c with
  | false => exact isTrue_or_nil e
  | true => exact e
theorem pw_and (ha : PT X a tA) (hb : PW X (.BoolOp .And (b :: rest) pos) tB') : PW X (.BoolOp .And (a :: b :: rest) pos) (tAnd tA tB') := by
  intro wh pins s σ H Q I h
  refine isTrue_and (thn (ha pins s σ H _ I h) fun c s1 ⟨H1, I1, q1⟩ => ?_)
  cases c with
  | true => exact hb wh pins s1 σ H1 Q I1 q1
  | false => exact ⟨H1, I1, q1⟩
theorem pw_or (ha : PT X a tA) (hb : PW X (.BoolOp .Or (b :: rest) pos) tB') : PW X (.BoolOp .Or (a :: b :: rest) pos) (tOr tA tB') := by
  intro wh pins s σ H Q I h
  refine isTrue_or (thn (ha pins s σ H _ I h) fun c s1 ⟨H1, I1, q1⟩ => ?_)
  cases c with
  | true => exact ⟨H1, I1, q1⟩
  | false => exact hb wh pins s1 σ H1 Q I1 q1
theorem pt_not (ha : PT X a tA) : PT X (.UnaryOp .Not a pos) (tNot tA) := by
  intro pins s σ H Q I h
  exact isTrue_not (ha pins s σ H (fun c H1 => Q (!c) H1) I h)
def tAndV (ta tb : TE) : TE := fun σ H Q => ta σ H fun x H1 => ∃ c, x = .bl c ∧ if c = true then tb σ H1 Q else Q (.bl false) H1
def tOrV (ta tb : TE) : TE := fun σ H Q => ta σ H fun x H1 => ∃ c, x = .bl c ∧ if c = true then Q (.bl true) H1 else tb σ H1 Q
def tNotV (ta : TE) : TE := fun σ H Q => ta σ H fun x H1 => ∃ c, x = .bl c ∧ Q (.bl (!c)) H1
theorem pe_one {op} {t : TE} (h : PE X a t) : PE X (.BoolOp op [a] pos) t := fun pins s σ H Q I hw => BoolOp_one (h pins s σ H Q I hw)
theorem pe_and (ha : PE X a ta) (hb : PE X (.BoolOp .And (b :: rest) pos) tb) : PE X (.BoolOp .And (a :: b :: rest) pos) (tAndV ta tb) := by
  intro pins s σ H Q I h
  refine BoolOp_and (thn (ha pins s σ H _ I h) fun v s1 ⟨x, H1, I1, r1, q1⟩ => ?_)
  obtain ⟨c, rfl, q1⟩ := q1
  cases r1
  refine wpAny_truthy_bool ?_
  cases c with
  | true => exact hb pins s1 σ H1 Q I1 q1
  | false => exact ⟨.bl false, H1, I1, rfl, q1⟩
theorem pe_or (ha : PE X a ta) (hb : PE X (.BoolOp .Or (b :: rest) pos) tb) : PE X (.BoolOp .Or (a :: b :: rest) pos) (tOrV ta tb) := by
  intro pins s σ H Q I h
  refine BoolOp_or (thn (ha pins s σ H _ I h) fun v s1 ⟨x, H1, I1, r1, q1⟩ => ?_)
  obtain ⟨c, rfl, q1⟩ := q1
  cases r1
  refine wpAny_truthy_bool ?_
  cases c with
  | false => exact hb pins s1 σ H1 Q I1 q1
  | true => exact ⟨.bl true, H1, I1, rfl, q1⟩
theorem pe_not (ha : PE X a ta) : PE X (.UnaryOp .Not a pos) (tNotV ta) := by
  intro pins s σ H Q I h
  refine UnaryOp_ (thn (ha pins s σ H _ I h) fun v s1 ⟨x, H1, I1, r1, q1⟩ => ?_)
  obtain ⟨c, rfl, q1⟩ := q1
  cases r1
  exact not_of (wpAny_truthy_bool ⟨.bl (!c), H1, I1, rfl, q1⟩)
def tIf (t : TT) (ta tb : TE) : TE := fun σ H Q => t σ H fun c H1 => if c = true then ta σ H1 Q else tb σ H1 Q
theorem pe_ifExp {c : Expr} (hc : PT X c tA) (ha : PE X a ta) (hb : PE X b tb) : PE X (.IfExp c a b pos) (tIf tA ta tb) := by
  intro pins s σ H Q I h
  refine wpAny_IfExp (thn (hc pins s σ H _ I h) fun d s1 ⟨H1, I1, q1⟩ => ?_)
  cases d with
  | true => exact ha pins s1 σ H1 Q I1 q1
  | false => exact hb pins s1 σ H1 Q I1 q1
end
end L2
namespace L2
open PySem PySem.Spec PyProof.Rows
def SqL (K : PySem.W.Frag) (H : Hp) (a : Addr) (xs : List V) : Prop :=
  Rd H a (.lst xs) ∨
    ∃ (o : Obj) (its : Array Value) (n : Nat), K.lookup a = some o ∧ o.cls = .type "list" ∧ o.dict = none ∧ o.data = .seq its n ∧ its.size ≤ sizeLine ∧ Vals xs its.toList
def SqT (K : PySem.W.Frag) (H : Hp) (a : Addr) (xs : List V) : Prop :=
  Rd H a (.tup xs) ∨
    ∃ (o : Obj) (its : Array Value) (n : Nat), K.lookup a = some o ∧ o.cls = .type "tuple" ∧ o.data = .seq its n ∧ its.size ≤ sizeLine ∧ Vals xs its.toList
def absV : Value → Option V
  | .none => some .non
  | .bool b => some (.bl b)
  | .int i _ => some (.int i)
  | .str x _ => some (.str x)
  | .bytes b _ => some (.byt b)
  | .float b _ => some (.flt b)
  | .ref a => some (.ref a)
  | .type n => some (.ty n)
  | _ => none
theorem RelV.abs {x : V} {u : Value} (r : RelV x u) : absV u = some x := by
  cases x with
  | non => cases r; rfl
  | bl _ => cases r; rfl
  | int _ => obtain ⟨t, rfl⟩ := r; rfl
  | str _ => obtain ⟨t, rfl⟩ := r; rfl
  | byt _ => obtain ⟨t, rfl⟩ := r; rfl
  | flt _ => obtain ⟨t, rfl⟩ := r; rfl
  | ref _ => cases r; rfl
  | ty _ => cases r; rfl
theorem RelV.inj {x y : V} {u : Value} (r : RelV x u) (q : RelV y u) : x = y := Option.some.inj (r.abs.symm.trans q.abs)
theorem Vals.inj : ∀ {xs ys : List V} {us : List Value}, Vals xs us → Vals ys us → xs = ys
  | _, _, _, .nil, .nil => rfl
  | _, _, _, .cons r t, .cons r' t' => by rw [r.inj r', Vals.inj t t']
section
variable {X : Cx} {pins : List (Addr × Obj)} {σ : St} {H : Hp} {s : Shared} {a : Addr} {xs ys : List V}
theorem SqL.of {K : PySem.W.Frag} (h : H a = some (.lst xs)) : SqL K H a xs := .inl (.inl h)
theorem SqT.of {K : PySem.W.Frag} (h : H a = some (.tup xs)) : SqT K H a xs := .inl (.inl h)
theorem Inv.list (I : Inv X pins σ H s) (h : SqL X.K H a xs) : ∃ its : List Value, Vals xs its ∧ PlainL s.heap a its.toArray ∧ xs.length ≤ sizeLine := by
  rcases h with h | ⟨o, its, n, hk, hc, hd, hs, hz, r⟩
  · obtain ⟨z, its, n, r, e⟩ := h.ok I.hok
    exact ⟨its, r, ⟨_, n, e, rfl, rfl, rfl⟩, z⟩
  · refine ⟨its.toList, r, ⟨o, n, I.kIn a o hk, hc, hd, by simpa using hs⟩, ?_⟩
    have e := r.length
    simp only [Array.length_toList] at e
    omega
theorem Inv.tuple (I : Inv X pins σ H s) (h : SqT X.K H a xs) : ∃ its : List Value, Vals xs its ∧ IsTup s.heap a its.toArray ∧ xs.length ≤ sizeLine := by
  rcases h with h | ⟨o, its, n, hk, hc, hs, hz, r⟩
  · obtain ⟨z, its, r, p⟩ := h.ok I.hok
    exact ⟨its, r, p, z⟩
  · refine ⟨its.toList, r, ⟨o, I.kIn a o hk, hc, n, by simpa using hs⟩, ?_⟩
    have e := r.length
    simp only [Array.length_toList] at e
    omega
theorem Inv.list_inj (I : Inv X pins σ H s) (h : SqL X.K H a xs) (h' : SqL X.K H a ys) : xs = ys := by
  obtain ⟨its, r, ⟨o, n, e, _, _, d⟩, _⟩ := I.list h
  obtain ⟨its', r', ⟨o', n', e', _, _, d'⟩, _⟩ := I.list h'
  rw [e] at e'; cases e'
  rw [d] at d'
  injection d' with d1 _
  have : its = its' := by simpa using congrArg Array.toList d1
  subst this
  exact r.inj r'
theorem Inv.tuple_inj (I : Inv X pins σ H s) (h : SqT X.K H a xs) (h' : SqT X.K H a ys) : xs = ys := by
  obtain ⟨its, r, ⟨o, e, _, n, d⟩, _⟩ := I.tuple h
  obtain ⟨its', r', ⟨o', e', _, n', d'⟩, _⟩ := I.tuple h'
  rw [e] at e'; cases e'
  rw [d] at d'
  injection d' with d1 _
  have : its = its' := by simpa using congrArg Array.toList d1
  subst this
  exact r.inj r'
end
abbrev Cx.wish (X : Cx) (E : Value → Shared → Prop) : Cx := { X with xe := E }
abbrev Cx.nox (X : Cx) : Cx := X.wish fun _ _ => False
theorem Cx.Ok.wish {X : Cx} (ok : X.Ok) (E : Value → Shared → Prop) : (X.wish E).Ok :=
  ⟨ok.mod, ok.kind, ok.glob, ok.blt, ok.above, ok.inj, ok.has, ok.cab, ok.hd, ok.frames, ok.stk, ok.exf, ok.bs, ok.bsz, ok.noex, ok.exfs, ok.funs, ok.frf⟩
theorem Cx.Ok.unwish {X : Cx} {E : Value → Shared → Prop} (ok : (X.wish E).Ok) : X.Ok :=
  ⟨ok.mod, ok.kind, ok.glob, ok.blt, ok.above, ok.inj, ok.has, ok.cab, ok.hd, ok.frames, ok.stk, ok.exf, ok.bs, ok.bsz, ok.noex, ok.exfs, ok.funs, ok.frf⟩
section
variable {X : Cx} {pins : List (Addr × Obj)} {σ : St} {H : Hp} {s : Shared} {E : Value → Shared → Prop}
theorem Inv.wish (I : Inv X pins σ H s) (E : Value → Shared → Prop) : Inv (X.wish E) pins σ H s := ⟨I.ok.wish E, I.os, I.bare, I.base, I.loc, I.cell, I.free, I.freeC, I.pin, I.hok, I.len⟩
theorem Inv.unwish (I : Inv (X.wish E) pins σ H s) : Inv X pins σ H s := ⟨I.ok.unwish, I.os, I.bare, I.base, I.loc, I.cell, I.free, I.freeC, I.pin, I.hok, I.len⟩
theorem SP.unwish {D : Ends} {f : Flow} {s' : Shared} (h : SP (X.wish E) pins D f s') : SP X pins D f s' := by
  cases f with
  | next => obtain ⟨σ', H', I, q⟩ := h; exact ⟨σ', H', I.unwish, q⟩
  | brk => obtain ⟨σ', H', I, q⟩ := h; exact ⟨σ', H', I.unwish, q⟩
  | cont => obtain ⟨σ', H', I, q⟩ := h; exact ⟨σ', H', I.unwish, q⟩
  | ret u => obtain ⟨v, σ', H', I, r, q⟩ := h; exact ⟨v, σ', H', I.unwish, r, q⟩
theorem PSs.nox {st : List Stmt} {t : TS} (h : PSs X.nox st t) : PSs X st t := fun pins s σ H D I hw =>
  wpAny_mono (h pins s σ H D (I.wish _) hw) (fun _ _ q => q.unwish) fun _ _ z => False.elim z
end
section
variable {X : Cx} {st : Stmt} {rest : List Stmt} {t u : TS} {e : Expr} {te : TE} {pos : Pos}
def tNext : TS := fun D σ H => D.nx σ H
def tSeq (t u : TS) : TS := fun D σ H => t { D with nx := u D } σ H
theorem pss_nil : PSs X [] tNext := fun _ _ σ H _ I h => wpAny_execs_nil ⟨σ, H, I, h⟩
theorem pss_cons (h1 : PS X st t) (h2 : PSs X rest u) : PSs X (st :: rest) (tSeq t u) := by
  intro pins s σ H D I h
  refine wpAny_execs_cons (thn (h1 pins s σ H { D with nx := u D } I h) fun f s1 q => ?_)
  cases f with
  | next =>
    obtain ⟨σ', H', I', q⟩ := q
    exact h2 pins s1 σ' H' D I' q
  | ret v => exact q
  | brk => exact q
  | cont => exact q
theorem pss_one (h1 : PS X st t) : PSs X [st] t := by
  intro pins s σ H D I h
  refine wpAny_execs_cons (thn (h1 pins s σ H D I h) fun f s1 q => ?_)
  cases f with
  | next => exact wpAny_execs_nil q
  | ret v => exact q
  | brk => exact q
  | cont => exact q
theorem Inv.quiet {pins : List (Addr × Obj)} {σ : St} {H : Hp} {s : Shared} (I : Inv X pins σ H s) : interactive X.env = false := by simp [interactive, I.ok.kind]
def tDrop (te : TE) : TS := fun D σ H => te σ H fun _ H1 => D.nx σ H1
theorem ps_expr (he : PE X e te) (hs : swapsWith e none pos.line X.env = pure false := by rfl) : PS X (.Expr e pos) (tDrop te) := by
  intro pins s σ H D I h
  exact wpAny_Expr_any (thn (he pins s σ H _ I h) fun v s1 ⟨x, H1, I1, r1, q1⟩ => ⟨σ, H1, I1, q1⟩) I.quiet hs
def tRet (te : TE) : TS := fun D σ H => te σ H D.rt
theorem ps_ret (he : PE X e te) : PS X (.Return (some e) pos) (tRet te) := by
  intro pins s σ H D I h
  exact wpAny_Return_some (thn (he pins s σ H _ I h) fun v s1 ⟨x, H1, I1, r1, q1⟩ => ⟨x, σ, H1, I1, r1, q1⟩)
def tIfS (c : TT) (t u : TS) : TS := fun D σ H => c σ H fun b H1 => if b = true then t D σ H1 else u D σ H1
theorem ps_if {c : Expr} {a b : List Stmt} {tc : TT} (hc : PT X c tc) (ha : PSs X a t) (hb : PSs X b u) : PS X (.If c a b pos) (tIfS tc t u) := by
  intro pins s σ H D I h
  refine wpAny_If (thn (hc pins s σ H _ I h) fun d s1 ⟨H1, I1, q1⟩ => ?_)
  cases d with
  | true => exact ha pins s1 σ H1 D I1 q1
  | false => exact hb pins s1 σ H1 D I1 q1
def tNever : TS := fun _ _ _ => False
theorem pss_never {sts : List Stmt} : PSs X sts tNever := fun _ _ _ _ _ _ h => h.elim
end
abbrev TG := V → St → Hp → (St → Hp → Prop) → Prop
abbrev TGs := List V → St → Hp → (St → Hp → Prop) → Prop
def PG (X : Cx) (target : Expr) (t : TG) : Prop :=
  ∀ (pins : List (Addr × Obj)) (s : Shared) (σ : St) (H : Hp) (v : V) (u : Value) (Q : St → Hp → Prop), Inv X pins σ H s → RelV v u → t v σ H Q →
    wpAny (model X.prog X.w) X.A (assign target X.env u) (fun _ s' => ∃ σ' H', Inv X pins σ' H' s' ∧ Q σ' H') X.xe s
def PGs (X : Cx) (ts : List Expr) (t : TGs) : Prop :=
  ∀ (pins : List (Addr × Obj)) (s : Shared) (σ : St) (H : Hp) (vs : List V) (us : List Value) (Q : St → Hp → Prop), Inv X pins σ H s → Vals vs us → t vs σ H Q →
    wpAny (model X.prog X.w) X.A (assignInOrder ((assignEach ts X.env).map (·.2)) us) (fun _ s' => ∃ σ' H', Inv X pins σ' H' s' ∧ Q σ' H') X.xe s
abbrev TSet := V → V → V → Hp → (Hp → Prop) → Prop
def PSet (X : Cx) (t : TSet) : Prop :=
  ∀ (pins : List (Addr × Obj)) (s : Shared) (σ : St) (H : Hp) (o i v : V) (ov iv u : Value) (Q : Hp → Prop), Inv X pins σ H s → RelV o ov → RelV i iv → RelV v u → t o i v H Q →
    wpAny (model X.prog X.w) X.A (setItem ov iv u) (fun _ s' => ∃ H', Inv X pins σ H' s' ∧ Q H') X.xe s
abbrev TIp := V → V → Hp → VK → Prop
def PIp (X : Cx) (op : Operator) (t : TIp) : Prop :=
  ∀ (pins : List (Addr × Obj)) (s : Shared) (σ : St) (H : Hp) (x y : V) (v u : Value) (Q : VK), Inv X pins σ H s → RelV x v → RelV y u → t x y H Q →
    wpAny (model X.prog X.w) X.A (inplaceOp op v u) (EP X pins σ Q) X.xe s
section
variable {X : Cx} {pos : Pos}
def gName (i : Nat) : TG := fun v σ H Q => Q (σ.set i (some v)) H
theorem pg_name {i : Nat} {x : Str} (hN : X.N.Nodup) (hi : X.N[i]? = some x) (hx : Loc X.env.scope x) (hf : X.fn x = true ∨ X.env.scope.names.lookup x = some .local := by first | exact .inl rfl | exact .inr rfl | assumption) : PG X (.Name x pos) (gName i) := by
  intro pins s σ H v u Q I r h
  exact wpAny_assign_Name (store_ok I hN hi hx r (fun s' I' => ⟨_, H, I', h⟩) hf)
def gNil : TGs := fun vs σ H Q => vs = [] ∧ Q σ H
def gCons (t : TG) (u : TGs) : TGs := fun vs σ H Q => ∃ v r, vs = v :: r ∧ t v σ H fun σ' H' => u r σ' H' Q
theorem pgs_nil : PGs X [] gNil := by
  intro pins s σ H vs us Q I r h
  obtain ⟨e, h⟩ := h
  subst e
  cases r
  exact assignInOrder_nil ⟨σ, H, I, h⟩
theorem pgs_cons {e : Expr} {es : List Expr} {t : TG} {u : TGs} (h1 : PG X e t) (h2 : PGs X es u)
    (hs : (assignEach (e :: es) X.env).map (·.2) = assign e X.env :: (assignEach es X.env).map (·.2) := by rfl) : PGs X (e :: es) (gCons t u) := by
  intro pins s σ H vs us Q I r h
  obtain ⟨v, vr, e1, h⟩ := h
  subst e1
  cases r with
  | cons r rr =>
    rw [hs]
    refine assignInOrder_cons (thn (h1 pins s σ H _ _ _ I r h) fun _ s1 ⟨σ1, H1, I1, q1⟩ => ?_)
    exact h2 pins s1 σ1 H1 _ _ Q I1 rr q1
def gTup (K : PySem.W.Frag) (n : Nat) (t : TGs) : TG := fun v σ H Q => ∃ a xs, v = .ref a ∧ SqT K H a xs ∧ xs.length = n ∧ t xs σ H Q
theorem pg_tup {es : List Expr} {k : Nat} {t : TGs} {n : Nat} (hc : X.calm = true) (h : PGs X es t)
    (hn : (assignEach es X.env).length = n := by rfl) (hst : (assignEach es X.env).findIdx? (·.1) = none := by rfl) : PG X (.Tuple es k pos) (gTup X.K n t) := by
  intro pins s σ H v u Q I r hw
  obtain ⟨a, xs, e1, hq, hl, hw⟩ := hw
  subst e1
  cases r
  obtain ⟨its, rv, ht, hz⟩ := I.tuple hq
  refine assign_Tuple_tuple (I.ok.hd hc) ht (by simp [hn, ← hl, rv.length]) hst fun h' hx => ?_
  have I1 : Inv X pins σ H { s with heap := h' } := I.kept (t' := s.toks) fun b o e => hx b o (Nat.ne_of_lt (Heap.lt_size e)) e
  exact h pins _ σ H xs _ Q I1 (by simpa using rv) hw
def gSub (to ti : TE) (t : TSet) : TG := fun v σ H Q => to σ H fun o H1 => ti σ H1 fun i H2 => t o i v H2 fun H3 => Q σ H3
theorem pg_sub {o i : Expr} {to ti : TE} {t : TSet} (ho : PE X o to) (hi : PE X i ti) (hs : PSet X t)
    (ha : ∀ v, assign (.Subscript o i pos) X.env v = (do
      let ov ← holding [v] (eval o X.env)
      let iv ← holding [v, ov] (eval i X.env)
      standAt pos
      holding [v, ov, iv] (setItem ov iv v)
      release [v, ov, iv] []) := by intro _; rfl) : PG X (.Subscript o i pos) (gSub to ti t) := by
  intro pins s σ H v u Q I r h
  rw [ha]
  refine wpAny_bind (wpAny_holding (thn (ho pins s σ H _ I h) fun ov s1 ⟨x, H1, I1, r1, q1⟩ => ?_))
  refine wpAny_bind (wpAny_holding (thn (hi pins s1 σ H1 _ I1 q1) fun iv s2 ⟨y, H2, I2, r2, q2⟩ => ?_))
  refine wpAny_bind (wpAny_standAt (wpAny_bind (wpAny_holding (thn (hs pins s2 σ H2 x y v ov iv u _ I2 r1 r2 r q2) fun _ s3 ⟨H3, I3, q3⟩ => ?_))))
  exact wpAny_release ⟨σ, H3, I3, q3⟩
def tAsg (te : TE) (g : TG) : TS := fun D σ H => te σ H fun x H1 => g x σ H1 D.nx
theorem ps_asg {tg e : Expr} {te : TE} {g : TG} (he : PE X e te) (hg : PG X tg g) (hs : swapsWithSole [tg] e pos.line X.env = pure false := by rfl) (hw : swappedStores [tg] e X.env = pure none := by rfl)
    (h1 : (assignEach [tg] X.env).map (·.2) = [assign tg X.env] := by rfl) : PS X (.Assign [tg] e pos) (tAsg te g) := by
  intro pins s σ H D I h
  refine wpAny_Assign_stores (thn (he pins s σ H _ I h) fun v s1 ⟨x, H1, I1, r1, q1⟩ => ?_) hs hw
  rw [h1]
  exact thn (hg pins s1 σ H1 x v _ I1 r1 q1) fun _ s2 q => q
theorem ps_set {i : Nat} {x : Str} {e : Expr} {te : TE} {pos' : Pos} (hN : X.N.Nodup) (hi : X.N[i]? = some x) (hx : Loc X.env.scope x) (he : PE X e te) (hs : swapsWith e (some (.Name x pos')) pos.line X.env = pure false := by rfl) (hf : X.fn x = true ∨ X.env.scope.names.lookup x = some .local := by first | exact .inl rfl | exact .inr rfl | assumption) :
    PS X (.Assign [.Name x pos'] e pos) (tAsg te (gName i)) := by
  intro pins s σ H D I h
  refine wpAny_Assign_Name (thn (he pins s σ H _ I h) fun v s1 ⟨y, H1, I1, r1, q1⟩ => ?_) hs
  exact store_ok I1 hN hi hx r1 (fun s2 I2 => ⟨_, H1, I2, q1⟩) hf
def tAug (i : Nat) (te : TE) (ti : TIp) : TS := fun D σ H => ∃ x, σ[i]? = some (some x) ∧ te σ H fun y H1 => ti x y H1 fun z H2 => D.nx (σ.set i (some z)) H2
theorem ps_aug {i : Nat} {x : Str} {e : Expr} {te : TE} {op : Operator} {ti : TIp} {pos' : Pos} (hN : X.N.Nodup) (hi : X.N[i]? = some x) (hx : Loc X.env.scope x) (he : PE X e te) (ho : PIp X op ti) (hf : X.fn x = true ∨ X.env.scope.names.lookup x = some .local := by first | exact .inl rfl | exact .inr rfl | assumption) :
    PS X (.AugAssign (.Name x pos') op e pos) (tAug i te ti) := by
  intro pins s σ H D I h
  obtain ⟨v, e1, h⟩ := h
  obtain ⟨m, hn, hl⟩ := I.loc
  have vis : Vis X.env.scope x := by rcases hx with k | k; exact .inl k; exact .inr (.inl k)
  obtain ⟨u, r, l⟩ := hl i x v hi e1 vis
  refine wpAny_AugAssign_Name ?_
  have go : wpAny (model X.prog X.w) X.A (eval e X.env) (fun w s₂ => wpAny (model X.prog X.w) X.A (inplaceOp op u w) (fun r s₃ => wpAny (model X.prog X.w) X.A (storeName X.env x r) (fun _ => SP X pins D .next) X.xe s₃) X.xe s₂) X.xe s := by
    refine thn (he pins s σ H _ I h) fun w s1 ⟨y, H1, I1, r1, q1⟩ => ?_
    refine thn (ho pins s1 σ H1 v y u w _ I1 r r1 q1) fun z s2 ⟨zv, H2, I2, r2, q2⟩ => ?_
    exact store_ok I2 hN hi hx r2 (fun s3 I3 => ⟨_, H2, I3, q2⟩) hf
  rcases l with ⟨hk, hm⟩ | ⟨hk, c, hc, hcell⟩
  · exact wpAny_loadName_local I.ok.kind hk hn hm go
  · rcases hk with hk | hk
    · exact wpAny_loadName_cell I.ok.kind hk hc hcell go
    · rcases hx with k | k
      · have : X.env.scope.names.lookup x = some .free := hk
        rw [k] at this; cases this
      · have : X.env.scope.names.lookup x = some .free := hk
        rw [k] at this; cases this
def ipI (f : Int → Int → Int) : TIp := fun x y H Q => ∃ i j, x = .int i ∧ y = .int j ∧ Q (.int (f i j)) H
theorem ip_add : PIp X .Add (ipI fun i j => i + j) := by
  intro pins s σ H x y v u Q I r1 r2 h
  obtain ⟨i, j, e1, e2, q⟩ := h
  subst e1; subst e2
  obtain ⟨t, rfl⟩ := r1
  obtain ⟨t', rfl⟩ := r2
  exact iadd_int ⟨.int _, H, I.tok _, ⟨_, rfl⟩, q⟩
end
structure It where
  go : Nat → Hp → Prop
  yld : Nat → Hp → V → Hp → Prop
  stop : Nat → Hp → Prop
def FpOk (X : Cx) (pins : List (Addr × Obj)) (H : Hp) (b : Addr) : Prop :=
  H b = none ∧ b ≠ X.env.locals ∧ b ∉ X.fs ∧ (b ∈ X.ex ∨ X.s₀.heap.objs.size ≤ b) ∧ (∀ x c, X.env.cells.lookup x = some c → c ≠ b) ∧ ∀ p ∈ X.pn ++ pins, p.1 ≠ b
theorem Inv.fpOk {X : Cx} {pins : List (Addr × Obj)} {σ : St} {H H' : Hp} {s : Shared} {b : Addr} (I : Inv X pins σ H s) (hb : s.heap.objs.size ≤ b) (hn : H' b = none) : FpOk X pins H' b := by
  refine ⟨hn, Nat.ne_of_gt (Nat.lt_of_lt_of_le I.lt hb), I.nofs hb, .inr (Nat.le_trans I.sz hb), fun x c e z => ?_, fun p hp z => ?_⟩
  · obtain ⟨v, q⟩ := I.cell x c e
    exact absurd (Nat.lt_of_lt_of_le q.lt (by rw [z]; exact hb)) (Nat.lt_irrefl _)
  · exact absurd (Nat.lt_of_lt_of_le (Heap.lt_size (I.pin p hp).1) (by rw [z]; exact hb)) (Nat.lt_irrefl _)
structure Turn (P : Program) (w : World) (K : PySem.W.Frag) (tg : Expr) (J : It) (fp : List Addr) (it : Addr) (tn : Nat → Heap → Prop) : Prop where
  mem : it ∈ fp
  obj : ∀ i h, tn i h → ∀ b ∈ fp, ∃ o, h.get? b = some o ∧ ∀ v, o.data ≠ .cell v
  keep : ∀ i h h', tn i h → (∀ b ∈ fp, ∀ o, h.get? b = some o → h'.get? b = some o) → tn i h'
  item : ∀ (X : Cx), X.prog = P → X.w = w → X.K = K → X.calm = true → ∀ (i : Nat) (pins : List (Addr × Obj)) (s : Shared) (σ : St) (H : Hp) (E : Value → Shared → Prop), Inv X pins σ H s → (∀ b ∈ fp, FpOk X pins H b) → tn i s.heap → J.go i H →
    wpAny (model P w) X.A (pyNext (.ref it)) (fun r s1 => ∃ u, r = some u ∧
      wpAny (model P w) X.A (letOwnedTupleGo tg (.ref it) u) (fun _ s2 => ∃ x H', Inv X pins σ H' s2 ∧ RelV x u ∧ J.yld i H x H' ∧ tn (i + 1) s2.heap ∧ ∀ b ∈ fp, H' b = none) E s1) E s
  done : ∀ (X : Cx), X.prog = P → X.w = w → X.K = K → X.calm = true → ∀ (i : Nat) (pins : List (Addr × Obj)) (s : Shared) (σ : St) (H : Hp) (E : Value → Shared → Prop), Inv X pins σ H s → (∀ b ∈ fp, FpOk X pins H b) → tn i s.heap → J.stop i H →
    wpAny (model P w) X.A (pyNext (.ref it)) (fun r s1 => r = none ∧ Inv X pins σ H s1) E s
  self : ∀ (A : Around) (i : Nat) (s : Shared) (Q : Value → Shared → Prop) (E : Value → Shared → Prop), tn i s.heap → Q (.ref it) s → wpAny (model P w) A (pyIter (.ref it)) Q E s
abbrev TI := St → Hp → (It → Hp → Prop) → Prop
def PIE (X : Cx) (pins : List (Addr × Obj)) (σ : St) (tg : Expr) (R : It → Hp → Prop) (itv : Value) (s2 : Shared) : Prop :=
  ∃ (it : Addr) (fp : List Addr) (tn : Nat → Heap → Prop) (J : It) (H' : Hp), itv = .ref it ∧ Inv X pins σ H' s2 ∧ Turn X.prog X.w X.K tg J fp it tn ∧ tn 0 s2.heap ∧ (∀ b ∈ fp, FpOk X pins H' b) ∧ R J H'
def PI (X : Cx) (tg iter : Expr) (wi : TI) : Prop :=
  ∀ (pins : List (Addr × Obj)) (s : Shared) (σ : St) (H : Hp) (R : It → Hp → Prop), Inv X pins σ H s → wi σ H R →
    wpAny (model X.prog X.w) X.A (eval iter X.env) (fun v s1 => wpAny (model X.prog X.w) X.A (pyIter v) (PIE X pins σ tg R) X.xe s1) X.xe s
theorem go_of {M : Model} {A : Around} {E : Value → Shared → Prop} {s : Shared} {tg : Expr} {it : Addr} {u : Value} {o : Obj} {n : String} {vs : Array Value} {Q : Unit → Shared → Prop} (ho : s.heap.get? it = some o) (hc : o.cls = .type n) (hd : o.data = .fields vs)
    (hn : ["enumerate", "zip", "dict_itemiterator", "dict_reverseitemiterator", "odict_iterator", "itertools.zip_longest", "itertools.pairwise"].contains n = false) (hQ : Q () s) : wpAny M A (letOwnedTupleGo tg (.ref it) u) Q E s := by
  unfold letOwnedTupleGo
  cases tg <;> first
    | exact wpAny_pure hQ
    | (cases u <;> first
        | exact wpAny_pure hQ
        | (refine wpAny_bind (wpAny_load ho ?_)
           rw [hc, hd]
           show wpAny M A (if (["enumerate", "zip", "dict_itemiterator", "dict_reverseitemiterator", "odict_iterator", "itertools.zip_longest", "itertools.pairwise"].contains n && vs[0]? == some (rawInt _)) = true then _ else _) Q E s
           rw [if_neg (by intro h; rw [hn, Bool.false_and] at h; cases h)]
           exact wpAny_pure hQ))
def Itl (K : PySem.W.Frag) (a : Addr) : It :=
  ⟨fun i H => ∃ xs x, SqL K H a xs ∧ xs[i]? = some x, fun i H x H' => H' = H ∧ ∀ xs, SqL K H a xs → xs[i]? = some x, fun i H => ∃ xs, SqL K H a xs ∧ xs.length ≤ i⟩
def Itt (K : PySem.W.Frag) (a : Addr) : It :=
  ⟨fun i H => ∃ xs x, SqT K H a xs ∧ xs[i]? = some x, fun i H x H' => H' = H ∧ ∀ xs, SqT K H a xs → xs[i]? = some x, fun i H => ∃ xs, SqT K H a xs ∧ xs.length ≤ i⟩
def Itr (lo : Int) (n : Nat) : It := ⟨fun i _ => i < n, fun i H x H' => H' = H ∧ x = .int (lo + i), fun i _ => n ≤ i⟩
theorem turn_list {P : Program} {w : World} {K : PySem.W.Frag} {tg : Expr} (a it : Addr) : Turn P w K tg (Itl K a) [it] it (fun i h => h.IsListIter it a i) where
  mem := by simp
  obj := fun i h st b hb => by
    have e : b = it := by simpa using hb
    subst e
    obtain ⟨o, e, c, d⟩ := st
    exact ⟨o, e, fun v z => by rw [d] at z; cases z⟩
  keep := fun i h h' st k => st.at fun o e => k it (by simp) o e
  item := by
    intro X hP hw hK hc i pins s σ H E I hf st hg
    subst hP hw hK
    obtain ⟨xs, x, hq, hx⟩ := hg
    obtain ⟨its, rv, p, hz⟩ := I.list hq
    obtain ⟨u, hu, ru⟩ := rv.get hx
    obtain ⟨f0, f1, f2, f3, f4, f5⟩ := hf it (by simp)
    refine wpAny_pyNext_list_item st p.isList (x := u) (by simpa using hu) fun h' st' sb => ?_
    have I1 : Inv X pins σ H { s with heap := h' } := I.turned (t' := s.toks) (fun b o hb e => (sb.2 b hb).trans e) f0 f1 f3 f4 f5
    obtain ⟨o, e, c, d⟩ := id st'
    exact ⟨u, rfl, go_of (s := { s with heap := h' }) e c d (by decide) ⟨x, H, I1, ru, ⟨rfl, fun ys hy => by rw [I.list_inj hy hq]; exact hx⟩, st', fun b hb => (hf b hb).1⟩⟩
  done := by
    intro X hP hw hK hc i pins s σ H E I hf st hg
    subst hP hw hK
    obtain ⟨xs, hq, hx⟩ := hg
    obtain ⟨its, rv, p, hz⟩ := I.list hq
    obtain ⟨f0, f1, f2, f3, f4, f5⟩ := hf it (by simp)
    have hl := rv.length
    exact wpAny_pyNext_list_end (I.ok.hd hc) st p.isList (by simp; omega) fun h' eb => ⟨rfl, I.turned (t' := s.toks) (fun b o hb e => eb b o hb e) f0 f1 f3 f4 f5⟩
  self := fun _ _ _ _ _ st h => wpAny_pyIter_listiter st h
theorem turn_tuple {P : Program} {w : World} {K : PySem.W.Frag} {tg : Expr} (a it : Addr) : Turn P w K tg (Itt K a) [it] it (fun i h => h.IsTupleIter it a i) where
  mem := by simp
  obj := fun i h st b hb => by
    have e : b = it := by simpa using hb
    subst e
    obtain ⟨o, e, c, d⟩ := st
    exact ⟨o, e, fun v z => by rw [d] at z; cases z⟩
  keep := fun i h h' st k => st.at fun o e => k it (by simp) o e
  item := by
    intro X hP hw hK hc i pins s σ H E I hf st hg
    subst hP hw hK
    obtain ⟨xs, x, hq, hx⟩ := hg
    obtain ⟨its, rv, p, hz⟩ := I.tuple hq
    obtain ⟨u, hu, ru⟩ := rv.get hx
    obtain ⟨f0, f1, f2, f3, f4, f5⟩ := hf it (by simp)
    refine wpAny_pyNext_tuple_item st (show s.heap.IsTuple a its.toArray from p) (x := u) (by simpa using hu) fun h' st' sb => ?_
    have I1 : Inv X pins σ H { s with heap := h' } := I.turned (t' := s.toks) (fun b o hb e => (sb.2 b hb).trans e) f0 f1 f3 f4 f5
    obtain ⟨o, e, c, d⟩ := id st'
    exact ⟨u, rfl, go_of (s := { s with heap := h' }) e c d (by decide) ⟨x, H, I1, ru, ⟨rfl, fun ys hy => by rw [I.tuple_inj hy hq]; exact hx⟩, st', fun b hb => (hf b hb).1⟩⟩
  done := by
    intro X hP hw hK hc i pins s σ H E I hf st hg
    subst hP hw hK
    obtain ⟨xs, hq, hx⟩ := hg
    obtain ⟨its, rv, p, hz⟩ := I.tuple hq
    obtain ⟨f0, f1, f2, f3, f4, f5⟩ := hf it (by simp)
    have hl := rv.length
    exact wpAny_pyNext_tuple_end (I.ok.hd hc) st (show s.heap.IsTuple a its.toArray from p) (by simp; omega) fun h' eb => ⟨rfl, I.turned (t' := s.toks) (fun b o hb e => eb b o hb e) f0 f1 f3 f4 f5⟩
  self := fun _ _ _ _ _ st h => wpAny_pyIter_tupleiter st h
theorem turn_range {P : Program} {w : World} {K : PySem.W.Frag} {tg : Expr} (it : Addr) (lo : Int) (n : Nat) : Turn P w K tg (Itr lo n) [it] it (fun i h => IsRangeIter h it (lo + (i : Nat) * 1) ((n : Int) - (i : Nat)) 1) where
  mem := by simp
  obj := fun i h st b hb => by
    have e : b = it := by simpa using hb
    subst e
    exact ⟨_, st, fun v z => by
      have z' : Data.fields _ = Data.cell v := z
      cases z'⟩
  keep := fun i h h' st k => k it (by simp) _ st
  item := by
    intro X hP hw hK hc i pins s σ H E I hf st hg
    subst hP hw hK
    obtain ⟨f0, f1, f2, f3, f4, f5⟩ := hf it (by simp)
    have W := Walks.range (prog := X.prog) (w := X.w) (I.ok.hd hc) it lo 1 n
    refine W.item i s _ _ hg st fun v h' tk hv st' kk => ?_
    obtain ⟨t, rfl⟩ := hv
    have I1 : Inv X pins σ H { s with heap := h', toks := tk } := I.turned (fun b o hb e => kk b o (by simpa using hb) e) f0 f1 f3 f4 f5
    refine ⟨_, rfl, go_of (s := { s with heap := h', toks := tk }) (n := "range_iterator") st' rfl rfl (by decide) ⟨.int (lo + i), H, I1, ⟨t, ?_⟩, ⟨rfl, rfl⟩, st', fun b hb => (hf b hb).1⟩⟩
    rw [Int.mul_one]
  done := by
    intro X hP hw hK hc i pins s σ H E I hf st hg
    subst hP hw hK
    obtain ⟨f0, f1, f2, f3, f4, f5⟩ := hf it (by simp)
    exact wpAny_pyNext_range_end (I.ok.hd hc) st (by have : n ≤ i := hg; omega) fun h' eb => ⟨rfl, I.turned (t' := s.toks) (fun b o hb e => eb b o hb e) f0 f1 f3 f4 f5⟩
  self := fun _ _ _ _ _ st h => wpAny_pyIter_rangeiter st h
end L2
namespace L2
open PySem PySem.Spec PyProof.Rows
section
variable {X : Cx} {tg : Expr}
def iList (K : PySem.W.Frag) (tl : TE) : TI := fun σ H R => tl σ H fun x H1 => ∃ a, x = .ref a ∧ (∃ xs, SqL K H1 a xs) ∧ R (Itl K a) H1
def iTup (K : PySem.W.Frag) (tl : TE) : TI := fun σ H R => tl σ H fun x H1 => ∃ a, x = .ref a ∧ (∃ xs, SqT K H1 a xs) ∧ R (Itt K a) H1
theorem pi_list {l : Expr} {tl : TE} (hl : PE X l tl) : PI X tg l (iList X.K tl) := by
  intro pins s σ H R I h
  refine thn (hl pins s σ H _ I h) fun v s1 ⟨x, H1, I1, r1, q1⟩ => ?_
  obtain ⟨a, e, ⟨xs, hq⟩, q⟩ := q1
  subst e
  cases r1
  obtain ⟨its, rv, p, hz⟩ := I1.list hq
  refine wpAny_pyIter_list p.isList ?_
  refine ⟨s1.heap.objs.size, [s1.heap.objs.size], _, _, H1, rfl, I1.kept (t' := s1.toks) fun b o e => Heap.get?_push_of_some _ e, turn_list a _, ⟨_, Heap.get?_push_size _ rfl, rfl, rfl⟩, fun b hb => ?_, q⟩
  have e : b = s1.heap.objs.size := by simpa using hb
  subst e
  exact I1.fpOk (Nat.le_refl _) (I1.hok.fresh (Nat.le_refl _))
theorem pi_tup {l : Expr} {tl : TE} (hl : PE X l tl) : PI X tg l (iTup X.K tl) := by
  intro pins s σ H R I h
  refine thn (hl pins s σ H _ I h) fun v s1 ⟨x, H1, I1, r1, q1⟩ => ?_
  obtain ⟨a, e, ⟨xs, hq⟩, q⟩ := q1
  subst e
  cases r1
  obtain ⟨its, rv, p, hz⟩ := I1.tuple hq
  refine wpAny_pyIter_tuple (show s1.heap.IsTuple a its.toArray from p) ?_
  refine ⟨s1.heap.objs.size, [s1.heap.objs.size], _, _, H1, rfl, I1.kept (t' := s1.toks) fun b o e => Heap.get?_push_of_some _ e, turn_tuple a _, ⟨_, Heap.get?_push_size _ rfl, rfl, rfl⟩, fun b hb => ?_, q⟩
  have e : b = s1.heap.objs.size := by simpa using hb
  subst e
  exact I1.fpOk (Nat.le_refl _) (I1.hok.fresh (Nat.le_refl _))
theorem range_it {pins : List (Addr × Obj)} {σ : St} {H : Hp} {s : Shared} {R : It → Hp → Prop} {E : Value → Shared → Prop} {lo hi : Int} {t u v : Tok} {tk : Nat} (I : Inv X pins σ H s) (h1 : -(2 ^ 62) ≤ lo) (h2 : lo < 2 ^ 62) (h3 : -(2 ^ 62) ≤ hi) (h4 : hi < 2 ^ 62)
    (q : R (Itr lo (hi - lo).toNat) H) : wpAny (model X.prog X.w) X.A (pyIter (.ref s.heap.objs.size)) (PIE X pins σ tg R) E { s with heap := s.heap.push { cls := .type "range", data := .fields #[.int lo t, .int hi u, .int 1 v] }, toks := tk } := by
  refine wpAny_pyIter_range (IsRange.new ..) (small_one h1 h2 h3 h4) ?_
  have I1 : Inv X pins σ H { s with heap := s.heap.push { cls := .type "range", data := .fields #[.int lo t, .int hi u, .int 1 v] }, toks := tk } := I.kept fun b o e => Heap.get?_push_of_some _ e
  refine ⟨(s.heap.push { cls := .type "range", data := .fields #[.int lo t, .int hi u, .int 1 v] }).objs.size, [(s.heap.push { cls := .type "range", data := .fields #[.int lo t, .int hi u, .int 1 v] }).objs.size], _, _, H, rfl,
    I1.kept (t' := tk) fun b o e => Heap.get?_push_of_some _ e, turn_range _ lo (hi - lo).toNat, ?_, fun b hb => ?_, q⟩
  · have e1 : lo + ((0 : Nat) : Int) * 1 = lo := by simp
    have e2 : (((hi - lo).toNat : Nat) : Int) - ((0 : Nat) : Int) = Builtin.Range.rangeSize lo hi 1 := by rw [rangeSize_one]; split <;> omega
    show IsRangeIter _ _ (lo + ((0 : Nat) : Int) * 1) ((((hi - lo).toNat : Nat) : Int) - ((0 : Nat) : Int)) 1
    rw [e1, e2]
    exact Heap.get?_push_size _ rfl
  · have e : b = (s.heap.push { cls := .type "range", data := .fields #[.int lo t, .int hi u, .int 1 v] }).objs.size := by simpa using hb
    subst e
    exact I1.fpOk (Nat.le_refl _) (I1.hok.fresh (Nat.le_refl _))
def iRng1 (ta : TA) : TI := fun σ H R => ta σ H fun vs H1 => ∃ j : Int, vs = [.int j] ∧ -(2 ^ 62) ≤ j ∧ j < 2 ^ 62 ∧ R (Itr 0 j.toNat) H1
theorem pi_range1 {a : Expr} {ta : TA} {p pos : Pos} (hg : Gl X "range") (hm : X.mg "range" = none) (ha : PA X [a] ta) (hs : starEach [a] X.env = [(false, eval a X.env)] := by rfl) : PI X tg (.Call (.Name "range" p) [a] [] pos) (iRng1 ta) := by
  intro pins s σ H R I h
  refine Call_ (ld_blt I hg hm boot_range (PyProof.Rows.callWith_type1 (thn (ha pos pins s σ H _ I h) fun us s1 ⟨vs, H1, I1, r1, q1⟩ => ?_) hs rfl))
  obtain ⟨j, e, q1, q2, q⟩ := q1
  subst e
  cases r1 with
  | cons r rr =>
    cases rr
    obtain ⟨t, rfl⟩ := r
    exact call_range_1 (range_it I1 (by omega) (by omega) q1 q2 (by simpa using q))
def tFor (wi : TI) (g : TG) (tb : TS) : TS := fun D σ H => wi σ H fun J H1 => ∃ W : Nat → Nat → St → Hp → Prop, (∃ m, W 0 m σ H1) ∧ ∀ i m σ H, W i m σ H →
  (J.stop i H ∧ D.nx σ H) ∨ (J.go i H ∧ ∃ N : St → Hp → Prop, (∀ σ' H', N σ' H' → ∃ m', m' < m ∧ W (i + 1) m' σ' H') ∧ ∀ x H', J.yld i H x H' → g x σ H' fun σ2 H2 => tb { D with nx := N, ct := N, bk := D.nx } σ2 H2)
def pinsAt (fp : List Addr) (h : Heap) : List (Addr × Obj) := fp.filterMap fun b => (h.get? b).map fun o => (b, o)
theorem mem_pinsAt {fp : List Addr} {h : Heap} {b : Addr} {o : Obj} (hb : b ∈ fp) (e : h.get? b = some o) : (b, o) ∈ pinsAt fp h := List.mem_filterMap.mpr ⟨b, hb, by rw [e]; rfl⟩
theorem of_pinsAt {fp : List Addr} {h : Heap} {p : Addr × Obj} (hp : p ∈ pinsAt fp h) : p.1 ∈ fp ∧ h.get? p.1 = some p.2 := by
  obtain ⟨b, hb, e⟩ := List.mem_filterMap.mp hp
  cases q : h.get? b with
  | none => rw [q] at e; cases e
  | some o =>
    rw [q] at e
    have e' : (b, o) = p := Option.some.inj e
    subst e'
    exact ⟨hb, q⟩
theorem Inv.pinned {pins : List (Addr × Obj)} {σ : St} {H : Hp} {s : Shared} {fp : List Addr} (I : Inv X pins σ H s) (hf : ∀ b ∈ fp, FpOk X pins H b) (ho : ∀ b ∈ fp, ∃ o, s.heap.get? b = some o ∧ ∀ v, o.data ≠ .cell v) : Inv X (pins ++ pinsAt fp s.heap) σ H s :=
  I.pins_of fun p hp => (List.mem_append.mp hp).elim (fun z => I.pin p (List.mem_append_right _ z)) fun z => by
    obtain ⟨hb, e⟩ := of_pinsAt z
    obtain ⟨f0, f1, f2, _⟩ := hf p.1 hb
    obtain ⟨o, e', d⟩ := ho p.1 hb
    rw [e] at e'; cases e'
    exact ⟨e, f0, f1, f2, d⟩
theorem Inv.unpinned {pins pl : List (Addr × Obj)} {σ : St} {H : Hp} {s : Shared} (I : Inv X (pins ++ pl) σ H s) : Inv X pins σ H s := I.pins_of fun p hp => I.pin p (List.mem_append_right _ (List.mem_append_left _ hp))
theorem ps_for {iter : Expr} {body : List Stmt} {wi : TI} {g : TG} {tb : TS} {pos : Pos} (hp : PassesOwn (model X.prog X.w) X.A X.env X.xe) (hc : X.calm = true) (hi : PI X tg iter wi) (hg : PG X tg g) (hb : PSs X body tb)
    (hs : ∀ x, foldedSetIterable iter X.env x = pure x := by intro _; rfl) : PS X (.For tg iter body [] pos) (tFor wi g tb) := by
  intro pins s σ H D I h
  refine wpAny_For (thn (hi pins s σ H _ I h) fun v s1 h1 => thn h1 fun itv s2 h2 => ?_) hs
  obtain ⟨it, fp, tn, J, H2, e, I2, T, st2, f2, W, ⟨m0, w0⟩, turn⟩ := h2
  subst e
  have stat : ∀ {H' : Hp}, (∀ b ∈ fp, H' b = none) → ∀ b ∈ fp, FpOk X pins H' b := fun hn b hb => ⟨hn b hb, (f2 b hb).2⟩
  refine codeAny_forLoop_any (fun n s' => ∃ i σ' H', Inv X pins σ' H' s' ∧ tn i s'.heap ∧ (∀ b ∈ fp, H' b = none) ∧ W i n σ' H') ?_ m0 ⟨0, σ, H2, I2, st2, fun b hb => (f2 b hb).1, w0⟩
  rintro n s3 ⟨i, σ3, H3, I3, st3, fr3, w3⟩
  rcases turn i n σ3 H3 w3 with ⟨stop, qn⟩ | ⟨go, N, hN, step⟩
  · refine wpAny_passesOwn hp (thn (T.done X rfl rfl rfl hc i pins s3 σ3 H3 X.xe I3 (stat fr3) st3 stop) fun r s4 ⟨hr, I4⟩ => ?_)
    subst hr
    exact wpAny_execs_nil ⟨σ3, H3, I4, qn⟩
  · refine wpAny_passesOwn hp (thn (T.item X rfl rfl rfl hc i pins s3 σ3 H3 X.xe I3 (stat fr3) st3 go) fun r s4 ⟨u, hr, h4⟩ => ?_)
    subst hr
    refine wpAny_passesOwn hp (thn h4 fun _ s5 ⟨x, H5, I5, r5, y5, st5, fr5⟩ => ?_)
    have I5' := I5.pinned (stat fr5) (T.obj _ _ st5)
    refine wpAny_passesOwn hp (thn (hg _ s5 σ3 H5 x u _ I5' r5 (step x H5 y5)) fun _ s6 ⟨σ6, H6, I6, q6⟩ => ?_)
    refine wpAny_passesOwn hp (thn (hb _ s6 σ6 H6 _ I6 q6) fun f s7 q7 => ?_)
    have again : ∀ {σ7 : St} {H7 : Hp}, Inv X (pins ++ pinsAt fp s5.heap) σ7 H7 s7 → N σ7 H7 → ∃ m, m < n ∧ ∃ i σ' H', Inv X pins σ' H' s7 ∧ tn i s7.heap ∧ (∀ b ∈ fp, H' b = none) ∧ W i m σ' H' := fun {σ7 H7} I7 n7 => by
      obtain ⟨m', hm, w7⟩ := hN σ7 H7 n7
      refine ⟨m', hm, i + 1, σ7, H7, I7.unpinned, T.keep _ _ _ st5 fun b hb o e => (I7.pin (b, o) (List.mem_append_right _ (List.mem_append_right _ (mem_pinsAt hb e)))).1, fun b hb => ?_, w7⟩
      obtain ⟨o, e, d⟩ := T.obj _ _ st5 b hb
      exact (I7.pin (b, o) (List.mem_append_right _ (List.mem_append_right _ (mem_pinsAt hb e)))).2.1
    cases f with
    | next => obtain ⟨σ7, H7, I7, n7⟩ := q7; exact again I7 n7
    | cont => obtain ⟨σ7, H7, I7, n7⟩ := q7; exact again I7 n7
    | brk => obtain ⟨σ7, H7, I7, q7⟩ := q7; exact ⟨σ7, H7, I7.unpinned, q7⟩
    | ret v => obtain ⟨x7, σ7, H7, I7, r7, q7⟩ := q7; exact ⟨x7, σ7, H7, I7.unpinned, r7, q7⟩
end
theorem for_list {K : PySem.W.Frag} {a : Addr} {xs : List V} {g : TG} {tb : TS} {D : Ends} {σ : St} {H : Hp} (Pv : Nat → St → Hp → Prop) (h0 : Pv 0 σ H) (hl : ∀ i σ H, i ≤ xs.length → Pv i σ H → SqL K H a xs)
    (hs : ∀ i x σ H, xs[i]? = some x → Pv i σ H → g x σ H fun σ2 H2 => tb { D with nx := Pv (i + 1), ct := Pv (i + 1), bk := D.nx } σ2 H2) (hd : ∀ σ H, Pv xs.length σ H → D.nx σ H) :
    ∃ W : Nat → Nat → St → Hp → Prop, (∃ m, W 0 m σ H) ∧ ∀ i m σ H, W i m σ H →
      ((Itl K a).stop i H ∧ D.nx σ H) ∨ ((Itl K a).go i H ∧ ∃ N : St → Hp → Prop, (∀ σ' H', N σ' H' → ∃ m', m' < m ∧ W (i + 1) m' σ' H') ∧ ∀ x H', (Itl K a).yld i H x H' → g x σ H' fun σ2 H2 => tb { D with nx := N, ct := N, bk := D.nx } σ2 H2) := by
  refine ⟨fun i m σ H => m = xs.length - i ∧ i ≤ xs.length ∧ Pv i σ H, ⟨xs.length, by simp, Nat.zero_le _, h0⟩, ?_⟩
  rintro i m σ H ⟨rfl, hi, p⟩
  have q := hl i σ H hi p
  by_cases hlt : i < xs.length
  · refine .inr ⟨⟨xs, xs[i], q, by simp [hlt]⟩, Pv (i + 1), fun σ' H' p' => ⟨xs.length - (i + 1), by omega, rfl, hlt, p'⟩, fun x H' y => ?_⟩
    obtain ⟨e, y⟩ := y
    subst e
    exact hs i x σ _ (y xs q) p
  · have e : i = xs.length := by omega
    subst e
    exact .inl ⟨⟨xs, q, Nat.le_refl _⟩, hd σ H p⟩
theorem for_range {lo : Int} {n : Nat} {g : TG} {tb : TS} {D : Ends} {σ : St} {H : Hp} (Pv : Nat → St → Hp → Prop) (h0 : Pv 0 σ H)
    (hs : ∀ i σ H, i < n → Pv i σ H → g (.int (lo + i)) σ H fun σ2 H2 => tb { D with nx := Pv (i + 1), ct := Pv (i + 1), bk := D.nx } σ2 H2) (hd : ∀ σ H, Pv n σ H → D.nx σ H) :
    ∃ W : Nat → Nat → St → Hp → Prop, (∃ m, W 0 m σ H) ∧ ∀ i m σ H, W i m σ H →
      ((Itr lo n).stop i H ∧ D.nx σ H) ∨ ((Itr lo n).go i H ∧ ∃ N : St → Hp → Prop, (∀ σ' H', N σ' H' → ∃ m', m' < m ∧ W (i + 1) m' σ' H') ∧ ∀ x H', (Itr lo n).yld i H x H' → g x σ H' fun σ2 H2 => tb { D with nx := N, ct := N, bk := D.nx } σ2 H2) := by
  refine ⟨fun i m σ H => m = n - i ∧ i ≤ n ∧ Pv i σ H, ⟨n, by simp, Nat.zero_le _, h0⟩, ?_⟩
  rintro i m σ H ⟨rfl, hi, p⟩
  by_cases hlt : i < n
  · refine .inr ⟨hlt, Pv (i + 1), fun σ' H' p' => ⟨n - (i + 1), by omega, rfl, hlt, p'⟩, fun x H' y => ?_⟩
    obtain ⟨e, y⟩ := y
    subst e y
    exact hs i σ _ hlt p
  · have e : i = n := by omega
    subst e
    exact .inl ⟨Nat.le_refl _, hd σ H p⟩
end L2
namespace L2
open PySem PySem.Spec PyProof.Rows
abbrev R2 := V → V → Hp → VK → Prop
def OpR (X : Cx) (f : Value → Value → Sem Value) (r : R2) : Prop :=
  ∀ (pins : List (Addr × Obj)) (s : Shared) (σ : St) (H : Hp) (x y : V) (v u : Value) (Q : VK), Inv X pins σ H s → RelV x v → RelV y u → r x y H Q →
    wpAny (model X.prog X.w) X.A (f v u) (EP X pins σ Q) X.xe s
def UnR (X : Cx) (f : Value → Sem Value) (r : V → Hp → VK → Prop) : Prop :=
  ∀ (pins : List (Addr × Obj)) (s : Shared) (σ : St) (H : Hp) (x : V) (v : Value) (Q : VK), Inv X pins σ H s → RelV x v → r x H Q →
    wpAny (model X.prog X.w) X.A (f v) (EP X pins σ Q) X.xe s
def CallR (X : Cx) (f : Value) (r : List V → Hp → VK → Prop) : Prop :=
  ∀ (pins : List (Addr × Obj)) (s : Shared) (σ : St) (H : Hp) (xs : List V) (us : List Value) (Q : VK), Inv X pins σ H s → Vals xs us → r xs H Q →
    wpAny (model X.prog X.w) X.A (call f us) (EP X pins σ Q) X.xe s
def tOp (r : R2) (ta tb : TE) : TE := fun σ H Q => ta σ H fun x H1 => tb σ H1 fun y H2 => r x y H2 Q
def tUn (r : V → Hp → VK → Prop) (ta : TE) : TE := fun σ H Q => ta σ H fun x H1 => r x H1 Q
def rI (C : Int → Int → Prop) (g : Int → Int → V) : R2 := fun x y H Q => ∃ i j, x = .int i ∧ y = .int j ∧ C i j ∧ Q (g i j) H
def rI0 (g : Int → Int → V) : R2 := fun x y H Q => ∃ i j, x = .int i ∧ y = .int j ∧ Q (g i j) H
def rU (g : Int → V) : V → Hp → VK → Prop := fun x H Q => ∃ i, x = .int i ∧ Q (g i) H
section
variable {X : Cx} {a b c : Expr} {ta tb tc : TE} {pos : Pos}
theorem binT (ha : PE X a ta) (hb : PE X b tb) {pins : List (Addr × Obj)} {s : Shared} {σ : St} {H : Hp} {R : V → V → Hp → Prop} (I : Inv X pins σ H s)
    (h : ta σ H fun x H1 => tb σ H1 fun y H2 => R x y H2) {Q : Value → Shared → Prop} {f : Value → Value → Sem Value}
    (hf : ∀ v u s2 x y H2, Inv X pins σ H2 s2 → RelV x v → RelV y u → R x y H2 → wpAny (model X.prog X.w) X.A (f v u) Q X.xe s2) :
    wpAny (model X.prog X.w) X.A (eval a X.env) (fun v s₁ => wpAny (model X.prog X.w) X.A (eval b X.env) (fun u s₂ => wpAny (model X.prog X.w) X.A (f v u) Q X.xe s₂) X.xe s₁) X.xe s := by
  refine thn (ha pins s σ H _ I h) fun v s1 ⟨x, H1, I1, r1, q1⟩ => ?_
  refine thn (hb pins s1 σ H1 _ I1 q1) fun u s2 ⟨y, H2, I2, r2, q2⟩ => ?_
  exact hf v u s2 x y H2 I2 r1 r2 q2
theorem pe_op {op : Operator} {r : R2} (ho : OpR X (binaryOp op) r) (ha : PE X a ta) (hb : PE X b tb) : PE X (.BinOp a op b pos) (tOp r ta tb) := by
  intro pins s σ H Q I h
  exact wpAny_BinOp (binT ha hb I h fun v u s2 x y H2 I2 rx ry q => ho pins s2 σ H2 x y v u Q I2 rx ry q)
theorem pe_un {op : UnaryOp} {r : V → Hp → VK → Prop} (ho : UnR X (unaryOp op) r) (ha : PE X a ta) : PE X (.UnaryOp op a pos) (tUn r ta) := by
  intro pins s σ H Q I h
  exact UnaryOp_ (thn (ha pins s σ H _ I h) fun v s1 ⟨x, H1, I1, r1, q1⟩ => ho pins s1 σ H1 x v Q I1 r1 q1)
theorem opI {f : Value → Value → Sem Value} {C : Int → Int → Prop} {g : Int → Int → Int}
    (rule : ∀ (i j : Int) (t u : Tok) (s : Shared) (Q : Value → Shared → Prop) (E : Value → Shared → Prop), C i j → Q (.int (g i j) s.toks) { s with toks := s.toks + 1 } → wpAny (model X.prog X.w) X.A (f (.int i t) (.int j u)) Q E s) :
    OpR X f (rI C fun i j => .int (g i j)) := by
  intro pins s σ H x y v u Q I rx ry h
  obtain ⟨i, j, rfl, rfl, hc, q⟩ := h
  obtain ⟨t, rfl⟩ := rx
  obtain ⟨t', rfl⟩ := ry
  exact rule i j t t' s _ _ hc ⟨.int (g i j), H, I.tok _, ⟨_, rfl⟩, q⟩
theorem opI0 {f : Value → Value → Sem Value} {g : Int → Int → Int}
    (rule : ∀ (i j : Int) (t u : Tok) (s : Shared) (Q : Value → Shared → Prop) (E : Value → Shared → Prop), Q (.int (g i j) s.toks) { s with toks := s.toks + 1 } → wpAny (model X.prog X.w) X.A (f (.int i t) (.int j u)) Q E s) :
    OpR X f (rI0 fun i j => .int (g i j)) := by
  intro pins s σ H x y v u Q I rx ry h
  obtain ⟨i, j, rfl, rfl, q⟩ := h
  obtain ⟨t, rfl⟩ := rx
  obtain ⟨t', rfl⟩ := ry
  exact rule i j t t' s _ _ ⟨.int (g i j), H, I.tok _, ⟨_, rfl⟩, q⟩
theorem opB0 {f : Value → Value → Sem Value} {g : Int → Int → Bool}
    (rule : ∀ (i j : Int) (t u : Tok) (s : Shared) (Q : Value → Shared → Prop) (E : Value → Shared → Prop), Q (.bool (g i j)) s → wpAny (model X.prog X.w) X.A (f (.int i t) (.int j u)) Q E s) :
    OpR X f (rI0 fun i j => .bl (g i j)) := by
  intro pins s σ H x y v u Q I rx ry h
  obtain ⟨i, j, rfl, rfl, q⟩ := h
  obtain ⟨t, rfl⟩ := rx
  obtain ⟨t', rfl⟩ := ry
  exact rule i j t t' s _ _ ⟨.bl (g i j), H, I, rfl, q⟩
def CPow (i j : Int) : Prop := 0 ≤ j ∧ j ≤ 1000000 ∧ i.natAbs < 2 ^ 64
def CMul (i j : Int) : Prop := (-(2 ^ 64) < i ∧ i < 2 ^ 64) ∨ (-(2 ^ 64) < j ∧ j < 2 ^ 64)
theorem CMul.ok {i j : Int} (h : CMul i j) : IntMulOk i j := by
  rcases h with ⟨h1, h2⟩ | ⟨h1, h2⟩
  · exact .of_left (intBits_le_64 h1 h2)
  · exact .of_right (intBits_le_64 h1 h2)
theorem op_add : OpR X (binaryOp .Add) (rI0 fun i j => .int (i + j)) := opI0 fun _ _ _ _ _ _ _ q => add_int q
theorem op_sub : OpR X (binaryOp .Sub) (rI0 fun i j => .int (i - j)) := opI0 fun _ _ _ _ _ _ _ q => sub_int q
theorem op_mul : OpR X (binaryOp .Mult) (rI CMul fun i j => .int (i * j)) := opI fun _ _ _ _ _ _ _ hc q => mul_int q hc.ok
theorem op_mod : OpR X (binaryOp .Mod) (rI (fun _ j => 0 < j) fun i j => .int (i % j)) := opI fun i j _ _ _ _ _ hc q => by
  have h1 : (0 : Int) < j := hc
  exact mod_int' (by omega) (by rw [Int.fmod_eq_emod_of_nonneg i (by omega)]; exact q)
theorem op_pow : OpR X (binaryOp .Pow) (rI CPow fun i j => .int (i ^ j.toNat)) := opI fun _ _ _ _ _ _ _ hc q => pow_int_small hc.1 hc.2.1 hc.2.2 q
theorem unI {f : Value → Sem Value} {g : Int → Int}
    (rule : ∀ (i : Int) (t : Tok) (s : Shared) (Q : Value → Shared → Prop) (E : Value → Shared → Prop), Q (.int (g i) s.toks) { s with toks := s.toks + 1 } → wpAny (model X.prog X.w) X.A (f (.int i t)) Q E s) :
    UnR X f (rU fun i => .int (g i)) := by
  intro pins s σ H x v Q I rx h
  obtain ⟨i, rfl, q⟩ := h
  obtain ⟨t, rfl⟩ := rx
  exact rule i t s _ _ ⟨.int (g i), H, I.tok _, ⟨_, rfl⟩, q⟩
theorem un_neg : UnR X (unaryOp .USub) (rU fun i => .int (-i)) := unI fun _ _ _ _ _ q => neg_int q
end
def scal : V → V → Bool
  | .non, .non => true | .non, .int _ => true | .int _, .non => true | .non, .bl _ => true | .bl _, .non => true | .non, .str _ => true | .str _, .non => true
  | .int _, .int _ => true | .bl _, .bl _ => true | .str _, .str _ => true | .byt _, .byt _ => true
  | .int _, .str _ => true | .str _, .int _ => true | .bl _, .str _ => true | .str _, .bl _ => true
  | _, _ => false
def rEq : R2 := fun x y H Q => scal x y = true ∧ Q (.bl (decide (x = y))) H
def rNe : R2 := fun x y H Q => scal x y = true ∧ Q (.bl (!decide (x = y))) H
theorem dec_int {i j : Int} : decide (V.int i = V.int j) = (i == j) := by
  rw [Bool.eq_iff_iff]
  simp
theorem dec_bl {i j : Bool} : decide (V.bl i = V.bl j) = (i == j) := by
  rw [Bool.eq_iff_iff]
  simp
theorem dec_str {i j : Str} : decide (V.str i = V.str j) = (i == j) := by
  rw [Bool.eq_iff_iff]
  simp
theorem dec_byt {i j : Array UInt8} : decide (V.byt i = V.byt j) = (i.toList == j.toList) := by
  rw [Bool.eq_iff_iff]
  cases i
  cases j
  simp
section
variable {X : Cx} {a b c : Expr} {ta tb tc : TE} {pos : Pos}
theorem fin_bl {pins : List (Addr × Obj)} {σ : St} {H : Hp} {s : Shared} {Q : VK} {k k' : Bool} (I : Inv X pins σ H s) (q : Q (.bl k) H) (e : k = k') : EP X pins σ Q (.bool k') s := by
  subst e
  exact ⟨.bl k, H, I, rfl, q⟩
theorem op_eq : OpR X (compareOp .Eq) rEq := by
  intro pins s σ H x y v u Q I rx ry h
  obtain ⟨hs, q⟩ := h
  cases x with
  | non =>
    cases rx
    cases y with
    | non => cases ry; exact PySem.EqNone.eq_none_none (fin_bl I q (by simp))
    | bl j => cases ry; exact PySem.EqNone.eq_none_bool (fin_bl I q (by simp))
    | int j => obtain ⟨t', rfl⟩ := ry; exact PySem.EqNone.eq_none_int (fin_bl I q (by simp))
    | str j => obtain ⟨t', rfl⟩ := ry; exact PySem.EqNone.eq_none_str (fin_bl I q (by simp))
    | _ => exact absurd (show false = true from hs) Bool.false_ne_true
  | bl i =>
    cases rx
    cases y with
    | non => cases ry; exact PySem.EqNone.eq_bool_none (fin_bl I q (by simp))
    | bl j => cases ry; exact eq_bool (fin_bl I q dec_bl)
    | str j => obtain ⟨t', rfl⟩ := ry; exact PySem.EqMixed.eq_bool_str (fin_bl I q (by simp))
    | _ => exact absurd (show false = true from hs) Bool.false_ne_true
  | int i =>
    obtain ⟨t, rfl⟩ := rx
    cases y with
    | non => cases ry; exact PySem.EqNone.eq_int_none (fin_bl I q (by simp))
    | int j => obtain ⟨t', rfl⟩ := ry; exact eq_int (fin_bl I q dec_int)
    | str j => obtain ⟨t', rfl⟩ := ry; exact PySem.EqMixed.eq_int_str (fin_bl I q (by simp))
    | _ => exact absurd (show false = true from hs) Bool.false_ne_true
  | str i =>
    obtain ⟨t, rfl⟩ := rx
    cases y with
    | non => cases ry; exact PySem.EqNone.eq_str_none (fin_bl I q (by simp))
    | bl j => cases ry; exact PySem.EqMixed.eq_str_bool (fin_bl I q (by simp))
    | int j => obtain ⟨t', rfl⟩ := ry; exact PySem.EqMixed.eq_str_int (fin_bl I q (by simp))
    | str j => obtain ⟨t', rfl⟩ := ry; exact eq_str (fin_bl I q dec_str)
    | _ => exact absurd (show false = true from hs) Bool.false_ne_true
  | byt i =>
    obtain ⟨t, rfl⟩ := rx
    cases y with
    | byt j => obtain ⟨t', rfl⟩ := ry; exact PySem.W.eq_bytes (fin_bl I q dec_byt)
    | _ => exact absurd (show false = true from hs) Bool.false_ne_true
  | _ => cases y <;> exact absurd (show false = true from hs) Bool.false_ne_true
theorem op_ne : OpR X (compareOp .NotEq) rNe := by
  intro pins s σ H x y v u Q I rx ry h
  obtain ⟨hs, q⟩ := h
  cases x with
  | non =>
    cases rx
    cases y with
    | non => cases ry; exact PySem.EqNone.ne_none_none (fin_bl I q (by simp))
    | bl j => cases ry; exact PySem.EqNone.ne_none_bool (fin_bl I q (by simp))
    | int j => obtain ⟨t', rfl⟩ := ry; exact PySem.EqNone.ne_none_int (fin_bl I q (by simp))
    | str j => obtain ⟨t', rfl⟩ := ry; exact PySem.EqNone.ne_none_str (fin_bl I q (by simp))
    | _ => exact absurd (show false = true from hs) Bool.false_ne_true
  | bl i =>
    cases rx
    cases y with
    | non => cases ry; exact PySem.EqNone.ne_bool_none (fin_bl I q (by simp))
    | bl j => cases ry; exact ne_bool (fin_bl I q (congrArg not dec_bl))
    | str j => obtain ⟨t', rfl⟩ := ry; exact PySem.EqMixed.ne_bool_str (fin_bl I q (by simp))
    | _ => exact absurd (show false = true from hs) Bool.false_ne_true
  | int i =>
    obtain ⟨t, rfl⟩ := rx
    cases y with
    | non => cases ry; exact PySem.EqNone.ne_int_none (fin_bl I q (by simp))
    | int j => obtain ⟨t', rfl⟩ := ry; exact ne_int (fin_bl I q (congrArg not dec_int))
    | str j => obtain ⟨t', rfl⟩ := ry; exact PySem.EqMixed.ne_int_str (fin_bl I q (by simp))
    | _ => exact absurd (show false = true from hs) Bool.false_ne_true
  | str i =>
    obtain ⟨t, rfl⟩ := rx
    cases y with
    | non => cases ry; exact PySem.EqNone.ne_str_none (fin_bl I q (by simp))
    | bl j => cases ry; exact PySem.EqMixed.ne_str_bool (fin_bl I q (by simp))
    | int j => obtain ⟨t', rfl⟩ := ry; exact PySem.EqMixed.ne_str_int (fin_bl I q (by simp))
    | str j => obtain ⟨t', rfl⟩ := ry; exact ne_str (fin_bl I q (congrArg not dec_str))
    | _ => exact absurd (show false = true from hs) Bool.false_ne_true
  | byt i =>
    obtain ⟨t, rfl⟩ := rx
    cases y with
    | byt j => obtain ⟨t', rfl⟩ := ry; exact PySem.W.ne_bytes (fin_bl I q (congrArg not dec_byt))
    | _ => exact absurd (show false = true from hs) Bool.false_ne_true
  | _ => cases y <;> exact absurd (show false = true from hs) Bool.false_ne_true
theorem op_lt : OpR X (compareOp .Lt) (rI0 fun i j => .bl (decide (i < j))) := opB0 fun _ _ _ _ _ _ _ q => lt_int q
theorem op_gt : OpR X (compareOp .Gt) (rI0 fun i j => .bl (decide (j < i))) := opB0 fun _ _ _ _ _ _ _ q => gt_int q
theorem op_ge : OpR X (compareOp .GtE) (rI0 fun i j => .bl (decide (j ≤ i))) := opB0 fun _ _ _ _ _ _ _ q => ge_int q
theorem nomark (b : Expr) {op : CmpOp} (h : op ≠ .In := by decide) (h2 : op ≠ .NotIn := by decide) : behindInMarks op b = false := by
  have e1 : (op == CmpOp.In) = false := by cases op <;> first | rfl | exact absurd rfl h
  have e2 : (op == CmpOp.NotIn) = false := by cases op <;> first | rfl | exact absurd rfl h2
  cases b <;> simp [behindInMarks, e1, e2]
theorem pe_cmpR {op : CmpOp} {r : R2} (ho : OpR X (compareOp op) r) (ha : PE X a ta) (hb : PE X b tb) (hm : behindInMarks op b = false) : PE X (.Compare a [op] [b] pos) (tOp r ta tb) := by
  intro pins s σ H Q I h
  exact wpAny_Compare1 (binT ha hb I h fun v u s2 x y H2 I2 rx ry q => ho pins s2 σ H2 x y v u Q I2 rx ry q) hm
def tTest (t : TE) : TT := fun σ H Q => t σ H fun x H' => ∃ k, x = .bl k ∧ Q k H'
theorem pt_cmpR {op : CmpOp} {r : R2} (ho : OpR X (compareOp op) r) (ha : PE X a ta) (hb : PE X b tb) (hm : behindInMarks op b = false) : PT X (.Compare a [op] [b] pos) (tTest (tOp r ta tb)) := by
  intro pins s σ H Q I h
  refine wpAny_isTrue_Compare1 (thn (ha pins s σ H _ I h) fun v s1 ⟨x, H1, I1, r1, q1⟩ => thn (hb pins s1 σ H1 _ I1 q1) fun u s2 ⟨y, H2, I2, r2, q2⟩ =>
    thn (ho pins s2 σ H2 x y v u _ I2 r1 r2 q2) fun c s3 ⟨z, H3, I3, r3, k, e, q3⟩ => ?_) hm
  subst e
  cases r3
  exact wpAny_truthy_bool ⟨H3, I3, q3⟩
theorem line63 : (sizeLine : Nat) < 2 ^ 63 := by rw [sizeLine_eq]; decide
theorem vals1 {x : V} {us : List Value} (r : Vals [x] us) : ∃ u, us = [u] ∧ RelV x u := by
  cases r with
  | cons r1 r2 => cases r2; exact ⟨_, rfl, r1⟩
theorem vals2 {x y : V} {us : List Value} (r : Vals [x, y] us) : ∃ u w', us = [u, w'] ∧ RelV x u ∧ RelV y w' := by
  cases r with
  | cons r1 r2 =>
    cases r2 with
    | cons r3 r4 => cases r4; exact ⟨_, _, rfl, r1, r3⟩
theorem call_max2 (hc : X.calm = true) : CallR X (.builtin "max") (fun xs H Q => ∃ i j, xs = [.int i, .int j] ∧ Q (.int (if j > i then j else i)) H) := by
  intro pins s σ H xs us Q I r h
  obtain ⟨i, j, rfl, q⟩ := h
  obtain ⟨u, w', rfl, ⟨t, rfl⟩, ⟨t', rfl⟩⟩ := vals2 r
  refine max_two_ints (I.ok.hd hc) fun h' tk k => ⟨_, H, I.kept k, ?_, q⟩
  by_cases hj : j > i
  · rw [if_pos hj, if_pos hj]; exact ⟨_, rfl⟩
  · rw [if_neg hj, if_neg hj]; exact ⟨_, rfl⟩
theorem call_min2 (hc : X.calm = true) : CallR X (.builtin "min") (fun xs H Q => ∃ i j, xs = [.int i, .int j] ∧ Q (.int (if j < i then j else i)) H) := by
  intro pins s σ H xs us Q I r h
  obtain ⟨i, j, rfl, q⟩ := h
  obtain ⟨u, w', rfl, ⟨t, rfl⟩, ⟨t', rfl⟩⟩ := vals2 r
  refine min_two_ints (I.ok.hd hc) fun h' tk k => ⟨_, H, I.kept k, ?_, q⟩
  by_cases hj : j < i
  · rw [if_pos hj, if_pos hj]; exact ⟨_, rfl⟩
  · rw [if_neg hj, if_neg hj]; exact ⟨_, rfl⟩
theorem call_int1 : CallR X (.type "int") (fun xs H Q => (∃ i, xs = [.int i] ∧ Q (.int i) H) ∨ ∃ k, xs = [.bl k] ∧ Q (.int (if k then 1 else 0)) H) := by
  intro pins s σ H xs us Q I r h
  rcases h with ⟨i, rfl, q⟩ | ⟨k, rfl, q⟩
  · obtain ⟨u, rfl, t, rfl⟩ := vals1 r
    exact call_int_int ⟨.int i, H, I, ⟨_, rfl⟩, q⟩
  · obtain ⟨u, rfl, r1⟩ := vals1 r
    cases r1
    exact call_int_bool ⟨.int (if k then 1 else 0), H, I.tok _, ⟨_, rfl⟩, q⟩
end
end L2
namespace L2
open PySem PySem.Spec PyProof.Rows
theorem RelO.some_of {v : V} {o : Option Value} (r : RelO (some v) o) : ∃ u, o = some u ∧ RelV v u := by
  cases o with
  | none => exact (show False from r).elim
  | some u => exact ⟨u, rfl, r⟩
end L2
namespace L2
open PySem PySem.Spec PyProof.Rows
structure Room (k : Nat) (A : Around) : Prop where
  hd : A.handled = none
  dp : A.depth + 3 * k + 5 < recursionLimit
  un : A.units + 16 * k + 200 < cLine
theorem Room.mono {j k : Nat} {A : Around} (r : Room k A) (h : j ≤ k) : Room j A := ⟨r.hd, by have := r.dp; omega, by have := r.un; omega⟩
theorem Room.deeper {k : Nat} {A : Around} (r : Room (k + 1) A) (env : Env) : Room k (A.deeper env) :=
  ⟨r.hd, by have := r.dp; show A.depth + 1 + 3 * k + 5 < _; omega, by have := r.un; show A.units + 3 + 16 * k + 200 < _; omega⟩
theorem Room.depth {k : Nat} {A : Around} (r : Room k A) : A.depth < recursionLimit := by have := r.dp; omega
theorem Room.units {k : Nat} {A : Around} (r : Room k A) : A.units + 64 < cLine := by have := r.un; omega
def tNil : TA := fun _ H Q => Q [] H
def tCons (ta : TE) (tr : TA) : TA := fun σ H Q => ta σ H fun x H1 => tr σ H1 fun xs H2 => Q (x :: xs) H2
section
variable {X : Cx} {e : Expr} {es : List Expr} {te : TE} {t : TA} {pos : Pos}
theorem pa_nil : PA X [] tNil := fun _ _ _ _ H Q I h => Calls.spliced_nil ⟨[], H, I, .nil, h⟩
theorem pa_cons (ha : PE X e te) (hr : PA X es t) (hs : starEach (e :: es) X.env = (false, eval e X.env) :: starEach es X.env := by rfl) : PA X (e :: es) (tCons te t) := by
  intro pos pins s σ H Q I h
  rw [hs]
  show wpAny _ _ (spliced ((false, eval e X.env) :: backTo pos (starEach es X.env))) _ _ s
  refine Calls.spliced_cons (thn (ha pins s σ H _ I h) fun u s1 ⟨x, H1, I1, r1, q1⟩ => ?_)
  exact thn (hr pos pins s1 σ H1 _ I1 q1) fun us s2 ⟨xs, H2, I2, r2, q2⟩ => ⟨x :: xs, H2, I2, .cons r1 r2, q2⟩
def tTup (t : TA) : TE := fun σ H Q => t σ H fun xs H1 => xs.length ≤ sizeLine ∧ ∀ p, H1 p = none → Q (.ref p) (upd H1 p (.tup xs))
def tLst (t : TA) : TE := fun σ H Q => t σ H fun xs H1 => xs.length ≤ sizeLine ∧ ∀ p, H1 p = none → Q (.ref p) (upd H1 p (.lst xs))
theorem pe_tup {x1} (h : PA X es t) : PE X (.Tuple es x1 pos) (tTup t) := by
  intro pins s σ H Q I hq
  refine wpAny_Tuple_spliced (thn (h pos pins s σ H _ I hq) fun us s1 ⟨xs, H1, I1, r, z, q⟩ => ⟨by rw [← r.length]; exact z, ?_⟩)
  have hf : H1 s1.heap.objs.size = none := I1.hok.fresh (Nat.le_refl _)
  refine ⟨.ref s1.heap.objs.size, upd H1 s1.heap.objs.size (.tup xs), I1.laid (t' := s1.toks) (fun b u e => Heap.get?_push_of_some _ e) (Nat.le_refl _) ?_, rfl, q _ hf⟩
  exact ⟨z, us, r, ⟨_, Heap.get?_push_size _ rfl, rfl, _, rfl⟩⟩
theorem pe_lst (h : PA X es t) : PE X (.List es pos) (tLst t) := by
  intro pins s σ H Q I hq
  refine wpAny_List_spliced (thn (h pos pins s σ H _ I hq) fun us s1 ⟨xs, H1, I1, r, z, q⟩ => ⟨by rw [← r.length]; exact z, ?_⟩)
  have hf : H1 s1.heap.objs.size = none := I1.hok.fresh (Nat.le_refl _)
  refine ⟨.ref s1.heap.objs.size, upd H1 s1.heap.objs.size (.lst xs), I1.laid (t' := s1.toks) (fun b u e => Heap.get?_push_of_some _ e) (Nat.le_refl _) ?_, rfl, q _ hf⟩
  exact ⟨z, us, 0, r, Heap.get?_push_size _ rfl⟩
end
abbrev Sp := List V → Hp → VK → XK → Prop
abbrev CXT := List Env → Hp → Shared → XK → Value → Shared → Prop
structure Env0 (P : Program) (w : World) (K : PySem.W.Frag) (mg : Str → Option Value) (base : Heap) (A : Around) (outer : List Env) (s : Shared) (H : Hp) : Prop where
  frames : A.frames = some outer
  mod : Mod K mg base
  bs : ∀ b o, base.get? b = some o → s.heap.get? b = some o ∧ H b = none
  bsz : base.objs.size ≤ s.heap.objs.size
  funs : s.heap.FunFrames base outer
  frf : ∀ b ∈ frs outer, H b = none
  hok : HOk P w H s.heap
  bare : AllBare s.gens
def CE (outer : List Env) (P : Program) (w : World) (H : Hp) (s : Shared) (Q : VK) (u : Value) (s' : Shared) : Prop :=
  ∃ v H', s'.os = s.os ∧ AllBare s'.gens ∧ Un (frs outer) [] H H' s.heap s'.heap ∧ HOk P w H' s'.heap ∧ RelV v u ∧ Q v H'
def CR (CX : CXT) (outer : List Env) (P : Program) (w : World) (H : Hp) (s : Shared) (Q : VK) (E : XK) (r : Result) (s' : Shared) : Prop :=
  match r with
  | .ok (.ret u) => CE outer P w H s Q u s'
  | .ok _ => False
  | .error e => CX outer H s E e s'
structure FnOk (P : Program) (w : World) (K : PySem.W.Frag) (mg : Str → Option Value) (base : Heap) (CX : CXT) (k : Nat) (f : Addr) (fd : FuncData) (ps : List Str) (sp : Sp) : Prop where
  len : ∀ vs H Q E, sp vs H Q E → vs.length = ps.length
  run : ∀ (A : Around) (outer : List Env) (s : Shared) (H : Hp) (args : Args) (us : List Value) (vs : List V) (Q : VK) (E : XK), Room k A → Env0 P w K mg base A outer s H → BindsTo s fd args (ps.zip us) → Vals vs us → sp vs H Q E →
    codeAny (model P w) A (.call (.ref f) args) (CR CX outer P w H s Q E) s
theorem FnOk.mono {P : Program} {w : World} {K : PySem.W.Frag} {mg : Str → Option Value} {base : Heap} {CX : CXT} {j k : Nat} {f : Addr} {fd : FuncData} {ps : List Str} {sp : Sp} (F : FnOk P w K mg base CX j f fd ps sp) (h : j ≤ k) :
    FnOk P w K mg base CX k f fd ps sp := ⟨F.len, fun A outer s H args us vs Q E hr => F.run A outer s H args us vs Q E (hr.mono h)⟩
section
variable {X : Cx} {pins : List (Addr × Obj)} {σ : St} {H : Hp} {s s' : Shared}
theorem Inv.env0 (I : Inv X pins σ H s) : Env0 X.prog X.w X.K X.mg X.base X.A X.stack s H :=
  ⟨I.ok.frames, I.ok.mod, I.bs, Nat.le_trans I.ok.bsz I.sz, I.stack, I.stkFree, I.hok, I.bare⟩
theorem Inv.after {Q : VK} {u : Value} (I : Inv X pins σ H s) (h : CE X.stack X.prog X.w H s Q u s') : EP X pins σ Q u s' := by
  obtain ⟨v, H', os, bare, un, hok, r, q⟩ := h
  obtain ⟨hh, g, d, t, os'⟩ := s'
  obtain rfl : os' = s.os := os
  exact ⟨v, H', I.call (h' := hh) (g' := g) (d' := d) (t' := t) (ch := []) un hok bare (fun b z => absurd z (by simp)), r, q⟩
end
def tCall (sp : Sp) (dvs : List V) (E : XK) (t : TA) : TE := fun σ H Q => t σ H fun vs H1 => sp (vs ++ dvs) H1 Q E
def Binds (K : PySem.W.Frag) (fd : FuncData) (ps : List Str) (ds : List Value) : Prop :=
  ∀ (s : Shared) (us : List Value), K.In s.heap → (us ++ ds).length = ps.length → BindsTo s fd ⟨us, []⟩ (ps.zip (us ++ ds))
theorem Binds.all {K : PySem.W.Frag} {fd : FuncData} {ps : List Str} (h : ∀ us : List Value, us.length = ps.length → bindArgs fd ⟨us, []⟩ = pure (ps.zip us)) : Binds K fd ps [] := fun s us _ hl => by
  rw [List.append_nil] at hl ⊢
  exact .of_eq (h us hl)
def Passes (CX : CXT) (X : Cx) (E : XK) : Prop := ∀ (pins : List (Addr × Obj)) (σ : St) (H : Hp) (s : Shared) (e : Value) (s' : Shared), Inv X pins σ H s → CX X.stack H s E e s' → X.xe e s'
section
variable {X : Cx} {CX : CXT} {k : Nat} {f C : Addr} {fd : FuncData} {ps : List Str} {sp : Sp} {dvs : List V} {ds : List Value} {E : XK} {x m : Str} {p pos apos : Pos} {e o : Expr} {es : List Expr} {ta : TE} {t : TA}
theorem run_fn {pins : List (Addr × Obj)} {σ : St} {H : Hp} {s : Shared} {Q : VK} {us : List Value} {vs : List V} (F : FnOk X.prog X.w X.K X.mg X.base CX k f fd ps sp) (hr : Room k X.A) (hb : Binds X.K fd ps ds) (hd : Vals dvs ds) (hx : Passes CX X E)
    (I : Inv X pins σ H s) (r : Vals vs us) (h : sp (vs ++ dvs) H Q E) : wpAny (model X.prog X.w) X.A (call (.ref f) us) (EP X pins σ Q) X.xe s := by
  have r2 : Vals (vs ++ dvs) (us ++ ds) := r.append hd
  have hl : (us ++ ds).length = ps.length := by rw [← r2.length]; exact F.len _ _ _ _ h
  refine wpAny_call (codeAny_mono (F.run X.A X.stack s H ⟨us, []⟩ (us ++ ds) (vs ++ dvs) Q E hr I.env0 (hb s us I.kIn hl) r2 h) fun r s' hq => ?_)
  cases r with
  | error e => exact hx pins σ H s e s' I hq
  | ok fl =>
    cases fl with
    | ret u => exact I.after hq
    | next => exact False.elim hq
    | brk => exact False.elim hq
    | cont => exact False.elim hq
theorem pe_call (F : FnOk X.prog X.w X.K X.mg X.base CX k f fd ps sp) (hr : Room k X.A) (hg : Gl X x) (hm : X.mg x = some (.ref f)) (hk : PySem.W.keepIn X.K (.ref f) = true) (hb : Binds X.K fd ps ds) (hd : Vals dvs ds) (hx : Passes CX X E)
    (ha : PA X (e :: es) t) (hdb : (x == ("__debug__" : Str)) = false := by decide) (he : starEach (e :: es) X.env = (false, eval e X.env) :: starEach es X.env := by rfl) (hpl : (backTo pos (starEach es X.env)).any (·.1) = false := by rfl) :
    PE X (.Call (.Name x p) (e :: es) [] pos) (tCall sp dvs E t) := by
  intro pins s σ H Q I h
  refine wpAny_Call_Name_kw (ld_glob I hg hm ?_ hdb)
  refine PySem.W.callWith_K (h₀ := X.base) I.ok.mod.kin hk (thn (ha pos pins s σ H _ I h) fun us s1 ⟨vs, H1, I1, r, q⟩ => ⟨I1.kIn, ?_⟩) he hpl
  exact run_fn F hr hb hd hx I1 r q
end
structure FnScope (N P : List Str) (sc : Scope) : Prop where
  kind : sc.kind = .function
  co : sc.isCoroutine = false
  gen : sc.isGenerator = false
  nd : N.Nodup
  pre : N.take P.length = P
  par : ∀ x ∈ P, sc.names.lookup x = some .local ∨ sc.names.lookup x = some .cell
  nofree : ∀ y ∈ sc.names, y.2 ≠ .free
theorem bindL_out {kindOf : Str → Option NameKind} {x : Str} : ∀ {binds : List (Str × Value)} {m : Str → Option Value}, (∀ v, (x, v) ∉ binds) → bindL kindOf binds m x = m x
  | [], _, _ => rfl
  | (n, v) :: r, m, h => by
    unfold bindL
    rw [bindL_out fun w hw => h w (List.mem_cons_of_mem _ hw)]
    split
    · have : x ≠ n := by rintro rfl; exact h v List.mem_cons_self
      simp [this]
    · rfl
theorem bindC_out {kindOf : Str → Option NameKind} {x : Str} : ∀ {binds : List (Str × Value)} {m : Str → Option Value}, (∀ v, (x, v) ∉ binds) → bindC kindOf binds m x = m x
  | [], _, _ => rfl
  | (n, v) :: r, m, h => by
    unfold bindC
    rw [bindC_out fun w hw => h w (List.mem_cons_of_mem _ hw)]
    split
    · rfl
    · have : x ≠ n := by rintro rfl; exact h v List.mem_cons_self
      simp [this]
theorem bindL_get {kindOf : Str → Option NameKind} {x : Str} {v : Value} : ∀ {P : List Str} {vs : List Value} {i : Nat} {m : Str → Option Value}, P.Nodup → P[i]? = some x → vs[i]? = some v → kindOf x = some .local →
    bindL kindOf (P.zip vs) m x = some v
  | [], _, _, _, _, h, _, _ => by simp at h
  | _ :: _, [], _, _, _, _, h, _ => by simp at h
  | p :: P, w :: vs, 0, m, nd, h1, h2, hk => by
    simp at h1 h2; subst h1; subst h2
    show bindL kindOf ((p, w) :: P.zip vs) m p = _
    unfold bindL
    rw [bindL_out fun v hv => (List.nodup_cons.mp nd).1 (List.of_mem_zip hv).1, if_pos hk]
    simp
  | p :: P, w :: vs, i + 1, m, nd, h1, h2, hk => by
    show bindL kindOf ((p, w) :: P.zip vs) m x = _
    unfold bindL
    exact bindL_get (i := i) (List.nodup_cons.mp nd).2 (by simpa using h1) (by simpa using h2) hk
theorem bindC_get {kindOf : Str → Option NameKind} {x : Str} {v : Value} : ∀ {P : List Str} {vs : List Value} {i : Nat} {m : Str → Option Value}, P.Nodup → P[i]? = some x → vs[i]? = some v → kindOf x ≠ some .local →
    bindC kindOf (P.zip vs) m x = some v
  | [], _, _, _, _, h, _, _ => by simp at h
  | _ :: _, [], _, _, _, _, h, _ => by simp at h
  | p :: P, w :: vs, 0, m, nd, h1, h2, hk => by
    simp at h1 h2; subst h1; subst h2
    show bindC kindOf ((p, w) :: P.zip vs) m p = _
    unfold bindC
    rw [bindC_out fun v hv => (List.nodup_cons.mp nd).1 (List.of_mem_zip hv).1, if_neg hk]
    simp
  | p :: P, w :: vs, i + 1, m, nd, h1, h2, hk => by
    show bindC kindOf ((p, w) :: P.zip vs) m x = _
    unfold bindC
    exact bindC_get (i := i) (List.nodup_cons.mp nd).2 (by simpa using h1) (by simpa using h2) hk
def start (N : List Str) (vs : List V) : St := vs.map some ++ List.replicate (N.length - vs.length) none
def cxOf (CX : CXT) (P : Program) (w : World) (K : PySem.W.Frag) (mg : Str → Option Value) (base : Heap) (N : List Str) (qual : Str) (scope : Scope) (f : Addr) (cd : Value) (A : Around) (outer : List Env) (s : Shared) (H : Hp) (E : XK) : Cx where
  prog := P
  w := w
  K := K
  mg := mg
  base := base
  A := A.deeper (envOfC qual scope s.heap.objs.size f cd)
  N := N
  s₀ := s
  H₀ := H
  env := envOfC qual scope s.heap.objs.size f cd
  outer := outer
  stack := envOfC qual scope s.heap.objs.size f cd :: outer
  ex := []
  calm := true
  fn := fun _ => true
  pn := []
  xe := fun e s' => wpAny (model P w) (A.deeper (envOfC qual scope s.heap.objs.size f cd)) (leaving (envOfC qual scope s.heap.objs.size f cd) e) (fun _ s'' => CX outer H s E e s'') (fun e' s'' => CX outer H s E e' s'') s'
theorem cell_has {sc : Scope} {n : Nat} {x : Str} (h : sc.names.lookup x = some .cell) : ∃ c, (cellsFrom n sc.names []).lookup x = some c := by
  have q := PySem.W.cellsFrom_some sc.names n [] (.inl h)
  exact Option.isSome_iff_exists.mp q
theorem inv_start {CX : CXT} {P : Program} {w : World} {K : PySem.W.Frag} {mg : Str → Option Value} {base : Heap} {N ps : List Str} {qual : Str} {scope : Scope} {f : Addr} {cd : Value} {A : Around} {outer : List Env} {s s1 : Shared} {H : Hp} {E : XK} {us : List Value} {vs : List V}
    (S : FnScope N ps scope) (hd : A.handled = none) (e0 : Env0 P w K mg base A outer s H) (hl : vs.length = ps.length) (r : Vals vs us)
    (x : InCallC s s.heap.objs.size (bindL (envOfC qual scope s.heap.objs.size f cd).kindOf (ps.zip us) fun _ => none) (cellsFrom (s.heap.objs.size + 1) scope.names []) (bindC (envOfC qual scope s.heap.objs.size f cd).kindOf (ps.zip us) fun _ => none) s1) :
    Inv (cxOf CX P w K mg base N qual scope f cd A outer s H E) [] (start N vs) H s1 := by
  have hpl : ps.length ≤ N.length := by have := congrArg List.length S.pre; rw [List.length_take] at this; omega
  obtain ⟨h1, tk, rfl, hk⟩ := x.done
  have noA : ∀ b : Addr, b ∉ (cxOf CX P w K mg base N qual scope f cd A outer s H E).ex := fun b z => absurd (show b ∈ ([] : List Addr) from z) (by simp)
  refine ⟨⟨e0.mod, S.kind, rfl, rfl, Nat.le_refl _, fun y z c h1 h2 => ?_, fun y hy => ?_, fun y c _ h => ?_, fun _ => hd, Around.frames_deeper e0.frames, .inr ⟨rfl, rfl⟩, fun b z => absurd z (noA b), e0.bs, e0.bsz, fun b _ _ => noA b, fun b z => absurd z (noA b), e0.funs, e0.frf⟩,
    rfl, e0.bare, Un.kept hk, ⟨_, x.toInCall.ns, fun i y v h1 h2 h3 => ?_⟩, fun y c h => ⟨_, x.cell y c h⟩, e0.hok.fresh (Nat.le_refl _), fun y c h => ?_, fun p hp => absurd (show p ∈ ([] : List (Addr × Obj)) from hp) (by simp), e0.hok.kept hk, ?_⟩
  · exact name_of_addr x.apart (PySem.mem_of_lookup h1) (PySem.mem_of_lookup h2)
  · have hy : scope.names.lookup y = some .cell ∨ scope.names.lookup y = some .free := hy
    rcases hy with hy | hy
    · exact cell_has hy
    · exact absurd rfl (S.nofree _ (PySem.mem_of_lookup hy))
  · exact Nat.le_of_lt (x.above y c (PySem.mem_of_lookup h))
  · have hi : i < vs.length := by
      unfold start at h2
      by_cases hi : i < vs.length
      · exact hi
      · rw [List.getElem?_append_right (by simpa using hi)] at h2
        rw [List.getElem?_replicate] at h2
        split at h2 <;> cases h2
    have ha : vs[i]? = some v := by
      unfold start at h2
      rw [List.getElem?_append_left (by simpa using hi), List.getElem?_map] at h2
      cases e : vs[i]? with
      | none => rw [e] at h2; cases h2
      | some a => rw [e] at h2; cases h2; rfl
    obtain ⟨u, hu, rv⟩ := r.get ha
    have hp : ps[i]? = some y := by
      rw [← S.pre, List.getElem?_take_of_lt (by omega)]; exact h1
    have ndP : ps.Nodup := by rw [← S.pre]; exact S.nd.sublist (List.take_sublist _ _)
    refine ⟨u, rv, ?_⟩
    rcases S.par y (List.mem_of_getElem? hp) with k | k
    · exact .inl ⟨k, bindL_get ndP hp hu k⟩
    · obtain ⟨c, e⟩ := cell_has (n := s.heap.objs.size + 1) k
      refine .inr ⟨.inl k, c, e, ?_⟩
      have q := x.cell y c e
      rw [bindC_get ndP hp hu (by show scope.names.lookup y ≠ _; rw [k]; decide)] at q
      exact q
  · exact e0.hok.fresh (Nat.le_of_lt (x.above y c (PySem.mem_of_lookup h)))
  · unfold start
    show _ = N.length
    rw [List.length_append, List.length_map, List.length_replicate]
    omega
theorem fn_of {CX : CXT} {P : Program} {w : World} {K : PySem.W.Frag} {mg : Str → Option Value} {base : Heap} {k : Nat} {f : Addr} {name qual : Str} {params : Arguments} {body : List Stmt} {scope : Scope} {dV kV doc pm cdv ct oc : Value} {an od : Option Addr}
    {osl : Array (Option Value)} {N ps : List Str} {sp : Sp} (lk : K.lookup f = some ⟨oc, od, .func (PySem.W.fnOf name qual params body scope dV kV doc pm an cdv ct), osl⟩) (hcd : PySem.W.codeIn K cdv qual = true) (S : FnScope N ps scope)
    (len : ∀ vs H Q E, sp vs H Q E → vs.length = ps.length)
    (hbody : ∀ (A : Around) (outer : List Env) (s : Shared) (H : Hp) (vs : List V) (Q : VK) (E : XK), Room k (A.deeper (envOfC qual scope s.heap.objs.size f cdv)) → sp vs H Q E →
      ∃ t, PSs (cxOf CX P w K mg base N qual scope f cdv A outer s H E) body t ∧ t { nx := fun _ H' => Q .non H', rt := Q } (start N vs) H) :
    FnOk P w K mg base CX (k + 1) f (PySem.W.fnOf name qual params body scope dV kV doc pm an cdv ct) ps sp := by
  refine ⟨len, fun A outer s H args us vs Q E hr e0 hb r hsp => ?_⟩
  have hl := len _ _ _ _ hsp
  have KX : K.In s.heap := e0.mod.kin.keeps fun b o e => (e0.bs b o e).1
  have lim : s.heap.NoLimit := e0.mod.nolimit.keeps fun b o e => (e0.bs b o e).1
  have hkind : ∀ y ∈ ps.zip us, scope.names.lookup y.1 = some .local ∨ (scope.names.lookup y.1 = some .cell ∧ ((cellsFrom (s.heap.objs.size + 1) scope.names []).lookup y.1).isSome = true) := fun ⟨n, v⟩ hy => by
    rcases S.par n (List.of_mem_zip hy).1 with q | q
    · exact .inl q
    · exact .inr ⟨q, PySem.W.cellsFrom_some _ _ _ (.inl q)⟩
  refine codeAny_call_function hr.depth (KX _ _ lk) rfl S.co S.gen rfl (PySem.W.codeRec_of KX hcd) (hb _ _ _ _ ?_)
  refine wpAny_newFunctionEnv_cells S.kind hkind fun env he s1 x => ?_
  subst he
  refine ⟨lim.keeps x.toInCall.keep, codeAny_func ?_⟩
  obtain ⟨t, ht, hq⟩ := hbody A outer s H vs Q E (hr.deeper _) hsp
  have I : Inv (cxOf CX P w K mg base N qual scope f cdv A outer s H E) [] (start N vs) H s1 := inv_start S hr.hd e0 hl r x
  refine wpAny_mono (ht [] s1 (start N vs) H _ I hq) (fun fl s' hs => ?_) fun e s' hs => hs
  have fin : ∀ {σ' : St} {H' : Hp} {v : V} {u : Value}, Inv (cxOf CX P w K mg base N qual scope f cdv A outer s H E) [] σ' H' s' → RelV v u → Q v H' → CE outer P w H s Q u s' :=
    fun {σ' H' v u} J rv q => ⟨v, H', J.os, J.bare, J.base, J.hok, rv, q⟩
  cases fl with
  | ret u =>
    obtain ⟨v, σ', H', J, rv, q⟩ := hs
    exact fin J rv q
  | next =>
    obtain ⟨σ', H', J, q⟩ := hs
    exact fin (v := V.non) (u := Value.none) J rfl q
  | brk =>
    obtain ⟨_, _, _, q⟩ := hs
    exact False.elim q
  | cont =>
    obtain ⟨_, _, _, q⟩ := hs
    exact False.elim q
end L2
namespace L2
open PySem PySem.Spec PyProof.Rows
section
variable {X : Cx} {x : Str} {p pos : Pos} {e : Expr} {es : List Expr} {t : TA} {id T : String} {r : List V → Hp → VK → Prop}
def tCB (r : List V → Hp → VK → Prop) (t : TA) : TE := fun σ H Q => t σ H fun vs H1 => r vs H1 Q
theorem pe_callB (hc : CallR X (.builtin id) r) (hg : Gl X x) (hm : X.mg x = none) (hv : bootBuiltins x = some (.builtin id)) (ha : PA X (e :: es) t) (hn : x ≠ "__name__" := by decide) (hdb : (x == ("__debug__" : Str)) = false := by decide)
    (he : starEach (e :: es) X.env = (false, eval e X.env) :: starEach es X.env := by rfl) (hpl : (backTo pos (starEach es X.env)).any (·.1) = false := by rfl) : PE X (.Call (.Name x p) (e :: es) [] pos) (tCB r t) := by
  intro pins s σ H Q I h
  refine wpAny_Call_Name_kw (ld_blt I hg hm hv ?_ hn hdb)
  exact PyProof.Rows.callWith_builtin1 (thn (ha pos pins s σ H _ I h) fun us s1 ⟨vs, H1, I1, r1, q1⟩ => hc pins s1 σ H1 vs us Q I1 r1 q1) he hpl
theorem pe_callTy (hc : CallR X (.type T) r) (hg : Gl X x) (hm : X.mg x = none) (hv : bootBuiltins x = some (.type T)) (ha : PA X (e :: es) t) (hn : x ≠ "__name__" := by decide) (hdb : (x == ("__debug__" : Str)) = false := by decide)
    (he : starEach (e :: es) X.env = (false, eval e X.env) :: starEach es X.env := by rfl) (hpl : (backTo pos (starEach es X.env)).any (·.1) = false := by rfl) : PE X (.Call (.Name x p) (e :: es) [] pos) (tCB r t) := by
  intro pins s σ H Q I h
  refine wpAny_Call_Name_kw (ld_blt I hg hm hv ?_ hn hdb)
  exact PyProof.Rows.callWith_type1 (thn (ha pos pins s σ H _ I h) fun us s1 ⟨vs, H1, I1, r1, q1⟩ => hc pins s1 σ H1 vs us Q I1 r1 q1) he hpl
end
end L2
namespace HT
open PySem PyProof.Rows
section
variable {prog : Program} {w : World} {A : Around} {E : Value → Shared → Prop} {s : Shared}
theorem cat_tup {t b : Addr} {vs ws : List Value} {Q : Value → Shared → Prop} (ht : IsTup s.heap t vs.toArray) (hb : IsTup s.heap b ws.toArray) (hv : vs ≠ [])
    (h1 : ws = [] → Q (.ref t) s) (h2 : ws ≠ [] → Q (.ref s.heap.objs.size) { s with heap := s.heap.push { cls := .type "tuple", data := .seq (vs ++ ws).toArray } })
    (hsz : vs.length + ws.length ≤ sizeLine) : wpAny (model prog w) A (binaryOp .Add (.ref t) (.ref b)) Q E s := by
  obtain ⟨⟨cls, dd, data, sl⟩, ho, hc, n, hd⟩ := id ht
  obtain ⟨⟨cls2, dd2, data2, sl2⟩, ho2, hc2, n2, hd2⟩ := id hb
  simp only at hc hd hc2 hd2
  subst hc hd hc2 hd2
  have e : vs.toArray ++ ws.toArray = (vs ++ ws).toArray := by simp
  by_cases hw : ws = []
  · exact concat_meets ⟨_, ho, rfl⟩ ⟨_, ho2, rfl⟩ noFill_tuple_add seq_tuple_add PySem.F.slot_tuple_add PySem.F.entry_tuple_add (PySem.F.args_tuple_add_2 _ _)
      (tuple_addW1 t b vs.toArray ws.toArray n n2 dd dd2 sl sl2 (by simpa using hv) (by simp [hw])) ⟨ho, ho2, h1 hw⟩
  · refine concat_meets ⟨_, ho, rfl⟩ ⟨_, ho2, rfl⟩ noFill_tuple_add seq_tuple_add PySem.F.slot_tuple_add PySem.F.entry_tuple_add (PySem.F.args_tuple_add_2 _ _)
      (tuple_addW2 t b vs.toArray ws.toArray n n2 dd dd2 sl sl2 (by simpa using hv) (by simpa using hw) (by rw [List.size_toArray, List.size_toArray]; exact hsz)) ⟨ho, ho2, ?_⟩
    rw [e]
    exact h2 hw
def sIx (n d : Nat) : Option Int → Nat
  | none => d
  | some v => if v < 0 then (v + (n : Int)).toNat else min v.toNat n
theorem sIx_none (n d : Nat) : sIx n d none = d := rfl
theorem sIx_nat (n d k : Nat) : sIx n d (some (k : Int)) = min k n := by
  show (if (k : Int) < 0 then ((k : Int) + (n : Int)).toNat else min (k : Int).toNat n) = min k n
  rw [if_neg (by omega), Int.toNat_natCast]
theorem sIx_le (n d : Nat) (hd : d ≤ n) (o : Option Int) : sIx n d o ≤ n := by
  cases o with
  | none => exact hd
  | some v =>
    show (if v < 0 then (v + (n : Int)).toNat else min v.toNat n) ≤ n
    by_cases hv : v < 0
    · rw [if_pos hv]; omega
    · rw [if_neg hv]; exact Nat.min_le_right _ _
theorem clip_eq (v : Int) (n d : Nat) : (if v < 0 then max (v + (n : Int)) 0 else min v (n : Int)) = ((sIx n d (some v) : Nat) : Int) := by
  show (if v < 0 then max (v + (n : Int)) 0 else min v (n : Int)) = (((if v < 0 then (v + (n : Int)).toNat else min v.toNat n) : Nat) : Int)
  by_cases hv : v < 0
  · simp only [if_pos hv]; omega
  · simp only [if_neg hv]; omega
theorem adjust_gen (lo hi : Option Int) (n : Nat) : Builtin.Slice.sliceAdjust lo hi 1 (n : Int) = (((sIx n 0 lo : Nat) : Int), ((sIx n n hi : Nat) : Int)) := by
  have h1 : ¬ ((1 : Int) < 0) := by omega
  unfold Builtin.Slice.sliceAdjust
  simp only [h1, if_false]
  refine Prod.ext ?_ ?_
  · cases lo with
    | none => rfl
    | some v => exact clip_eq v n 0
  · cases hi with
    | none => rfl
    | some v => exact clip_eq v n n
theorem places_gen (i j : Nat) : Builtin.Slice.slicePlaces (i : Int) (j : Int) 1 = j - i := by
  unfold Builtin.Slice.slicePlaces
  have h1 : (1 : Int) > 0 := by omega
  simp only [h1, if_true, Int.ediv_one]
  split <;> omega
theorem slicePart_ {v : Value} {o : Option Int} {Q : Option Int → Shared → Prop} (p : IsPart v o) (h : Q o s) : wpAny (model prog w) A (Builtin.Slice.slicePartIndex v) Q E s := by
  cases p with
  | none => exact slicePart_none h
  | int i t => exact slicePart_int h
theorem sliceApplied_gen {sl : Addr} {vl vu : Value} {lo hi : Option Int} {n : Nat} {Q : Int × Int × Nat → Shared → Prop} (hs : s.heap.IsSliceOf sl vl vu .none) (pl : IsPart vl lo) (pu : IsPart vu hi)
    (h : Q (((sIx n 0 lo : Nat) : Int), 1, sIx n n hi - sIx n 0 lo) s) : wpAny (model prog w) A (Builtin.Slice.sliceApplied (.ref sl) (pure (n : Int))) Q E s := by
  obtain ⟨os, hos, hcs, hds⟩ := id hs
  unfold Builtin.Slice.sliceApplied Builtin.Slice.sliceFields
  refine wpAny_bind (wpAny_bind (wpAny_field hos hds (x := vl) rfl (wpAny_bind (wpAny_field hos hds (x := vu) rfl (wpAny_bind (wpAny_field hos hds (x := .none) rfl (wpAny_pure ?_)))))))
  refine wpAny_bind (slicePart_none ?_)
  show wpAny _ _ (if ((1 : Int) == 0) = true then _ else _) _ _ s
  rw [if_neg (by decide)]
  refine wpAny_bind (slicePart_ pl (wpAny_bind (slicePart_ pu (wpAny_bind (wpAny_pure ?_)))))
  show wpAny _ _ (match Builtin.Slice.sliceAdjust lo hi 1 (n : Int) with | (lo, hi) => pure (lo, (1 : Int), Builtin.Slice.slicePlaces lo hi 1)) _ _ s
  rw [adjust_gen lo hi n]
  show wpAny _ _ (pure (((sIx n 0 lo : Nat) : Int), (1 : Int), Builtin.Slice.slicePlaces ((sIx n 0 lo : Nat) : Int) ((sIx n n hi : Nat) : Int) 1)) _ _ s
  rw [places_gen]
  exact wpAny_pure h
theorem pick_gen (xs : Array Value) (i k : Nat) : ((List.range k).filterMap fun (m : Nat) => xs[((i : Int) + (m : Int) * 1).toNat]?).toArray = ((xs.toList.drop i).take k).toArray := by
  have e : (fun (m : Nat) => xs[((i : Int) + (m : Int) * 1).toNat]?) = fun m => xs[i + m]? := by
    funext m
    have : ((i : Int) + (m : Int) * 1).toNat = i + m := by omega
    rw [this]
  rw [e]
  have := pick_run xs i k
  rw [List.filterMap_map] at this
  have e2 : ((fun x => xs[x]?) ∘ fun x => i + x) = fun m => xs[i + m]? := rfl
  rw [e2] at this
  rw [this]
theorem getItem_tuple_cut {t sl : Addr} {items : Array Value} {vl vu : Value} {lo hi : Option Int} {Q : Value → Shared → Prop} (ht : IsTup s.heap t items) (hs : s.heap.IsSliceOf sl vl vu .none) (pl : IsPart vl lo) (pu : IsPart vu hi)
    (hw : ¬ (sIx items.size 0 lo = 0 ∧ sIx items.size items.size hi = items.size))
    (h : Q (.ref s.heap.objs.size) { s with heap := s.heap.push { cls := .type "tuple", data := .seq ((items.toList.drop (sIx items.size 0 lo)).take (sIx items.size items.size hi - sIx items.size 0 lo)).toArray } })
    (hsz : items.size ≤ sizeLine) : wpAny (model prog w) A (getItem (.ref t) (.ref sl)) Q E s := by
  have htake : sizeOk (.seq ((items.toList.drop (sIx items.size 0 lo)).take (sIx items.size items.size hi - sIx items.size 0 lo)).toArray) := by
    show ((items.toList.drop (sIx items.size 0 lo)).take (sIx items.size items.size hi - sIx items.size 0 lo)).toArray.size ≤ sizeLine
    rw [List.size_toArray, List.length_take, List.length_drop, Array.length_toList]
    omega
  have hj : sIx items.size items.size hi ≤ items.size := sIx_le _ _ (Nat.le_refl _) hi
  obtain ⟨os, hos, hcs, hds⟩ := id hs
  have hTs : s.TypeIs (.ref sl) "slice" := ⟨os, hos, hcs⟩
  unfold getItem
  try with_reducible refine wpAny_holding ?_
  first | refine wpAny_bind (wpAny_pure ?_) | skip
  refine wpAny_bind (wpAny_sequenceKey ht.typeIs (by decide) ?_)
  refine wpAny_bind (wpAny_callSpecial?_slot (name := Str.ofString "__getitem__") ht.typeIs PyProof.Rows.slot_tuple_getitem
    (wpAny_call_entry PyProof.Rows.slot_tuple_getitem ht.typeIs entry_tuple_getitem ?_ (args_tuple_getitem _ _)))
  show wpAny _ _ (Builtin.Tuple.tupleItemsOf (.ref t) >>= _) _ _ s
  refine wpAny_bind (tupleItemsOf_ ht ?_)
  refine wpAny_bind (wpAny_typeOf hTs ?_)
  rw [if_pos (by decide)]
  refine wpAny_bind (sliceApplied_gen hs pl pu ?_)
  have hno : ¬ ((((sIx items.size 0 lo : Nat) : Int) == 0 && (1 : Int) == 1 && (sIx items.size items.size hi - sIx items.size 0 lo) == items.size) = true) := by
    intro q
    rw [Bool.and_eq_true, Bool.and_eq_true] at q
    have q1 : ((sIx items.size 0 lo : Nat) : Int) = 0 := eq_of_beq q.1.1
    have q2 : sIx items.size items.size hi - sIx items.size 0 lo = items.size := eq_of_beq q.2
    exact hw ⟨by omega, by omega⟩
  show wpAny _ _ (if (((sIx items.size 0 lo : Nat) : Int) == 0 && (1 : Int) == 1 && (sIx items.size items.size hi - sIx items.size 0 lo) == items.size) = true then _ else _) _ _ s
  rw [if_neg hno, pick_gen]
  first
    | exact wpAny_bind (m := Builtin.Tuple.tupleExact _) (wpAny_newObj_type (wpAny_pure ⟨_, rfl, wpAny_pure h⟩) htake)
    | exact wpAny_bind (m := Builtin.Tuple.tupleExact _) (wpAny_newObj_type (wpAny_bind (wpAny_pure (wpAny_pure ⟨_, rfl, wpAny_pure h⟩))) htake)
    | exact wpAny_bind (wpAny_bind (m := Builtin.Tuple.tupleExact _) (wpAny_newObj_type (wpAny_pure (wpAny_pure ⟨_, rfl, wpAny_pure h⟩)) htake))
    | exact wpAny_bind (wpAny_bind (m := Builtin.Tuple.tupleExact _) (wpAny_newObj_type (wpAny_pure ⟨_, rfl, wpAny_pure h⟩) htake))
end
end HT
namespace L2
open PySem PySem.Spec PyProof.Rows
abbrev TO := St → Hp → (Option Int → Hp → Prop) → Prop
def PO (X : Cx) (e : Option Expr) (t : TO) : Prop :=
  ∀ (pins : List (Addr × Obj)) (s : Shared) (σ : St) (H : Hp) (Q : Option Int → Hp → Prop), Inv X pins σ H s → t σ H Q →
    wpAny (model X.prog X.w) X.A (evalPart e X.env) (fun u s' => ∃ o H', Inv X pins σ H' s' ∧ IsPart u o ∧ Q o H') X.xe s
def tNoPart : TO := fun _ H Q => Q none H
def tPart (t : TE) : TO := fun σ H Q => t σ H fun x H1 => ∃ i, x = .int i ∧ Q (some i) H1
section
variable {X : Cx} {e : Expr} {te : TE} {lo hi : Option Expr} {tl th : TO} {pos p2 : Pos}
theorem po_none : PO X none tNoPart := by
  intro pins s σ H Q I h
  rw [evalPart_none]
  exact wpAny_pure ⟨none, H, I, .none, h⟩
theorem po_some (h : PE X e te) : PO X (some e) (tPart te) := by
  intro pins s σ H Q I hw
  rw [evalPart_some]
  refine thn (h pins s σ H _ I hw) fun u s1 ⟨x, H1, I1, r1, q1⟩ => ?_
  obtain ⟨i, rfl, q⟩ := q1
  obtain ⟨t, rfl⟩ := r1
  exact ⟨some i, H1, I1, .int i t, q⟩
def SlR (X : Cx) (r : V → Option Int → Option Int → Hp → VK → Prop) : Prop :=
  ∀ (pins : List (Addr × Obj)) (s : Shared) (σ : St) (H : Hp) (x : V) (v vl vu : Value) (lo hi : Option Int) (sl : Addr) (Q : VK), Inv X pins σ H s → RelV x v → s.heap.IsSliceOf sl vl vu .none → IsPart vl lo → IsPart vu hi → r x lo hi H Q →
    ∃ T id, typeLookup (.type T) "__getitem__" = pure (some (.builtin id)) ∧ s.TypeIs v T ∧ wpAny (model X.prog X.w) X.A (getItem v (.ref sl)) (EP X pins σ Q) X.xe s
theorem SlR.or {r r' : V → Option Int → Option Int → Hp → VK → Prop} (h : SlR X r) (h' : SlR X r') : SlR X (fun x lo hi H Q => r x lo hi H Q ∨ r' x lo hi H Q) := by
  intro pins s σ H x v vl vu lo hi sl Q I rx hs pl pu q
  rcases q with q | q
  · exact h pins s σ H x v vl vu lo hi sl Q I rx hs pl pu q
  · exact h' pins s σ H x v vl vu lo hi sl Q I rx hs pl pu q
def tSl (r : V → Option Int → Option Int → Hp → VK → Prop) (te : TE) (tl th : TO) : TE := fun σ H Q => te σ H fun x H1 => tl σ H1 fun l H2 => th σ H2 fun u H3 => r x l u H3 Q
theorem pe_slice {r : V → Option Int → Option Int → Hp → VK → Prop} (hr : SlR X r) (he : PE X e te) (hl : PO X lo tl) (hu : PO X hi th) : PE X (.Subscript e (.Slice lo hi none p2) pos) (tSl r te tl th) := by
  intro pins s σ H Q I h
  refine Subscript_ (thn (he pins s σ H _ I h) fun v s1 ⟨x, H1, I1, r1, q1⟩ => ?_)
  refine wpAny_Slice (thn (hl pins s1 σ H1 _ I1 q1) fun vl s2 ⟨l, H2, I2, pl, q2⟩ => thn (hu pins s2 σ H2 _ I2 q2) fun vu s3 ⟨u, H3, I3, pu, q3⟩ => ?_)
  rw [evalPart_none]
  refine wpAny_pure ?_
  have I4 : Inv X pins σ H3 { s3 with heap := s3.heap.push { cls := .type "slice", data := .fields #[vl, vu, .none] } } := I3.kept (t' := s3.toks) fun b ob q => Heap.get?_push_of_some _ q
  obtain ⟨T, id, hT, ht, hg⟩ := hr pins { s3 with heap := s3.heap.push { cls := .type "slice", data := .fields #[vl, vu, .none] } } σ H3 x v vl vu l u s3.heap.objs.size Q I4 r1 (Heap.IsSliceOf.new ..) pl pu q3
  show wpAny (model X.prog X.w) X.A (subscriptTail e (.Slice lo hi none p2) v (.ref s3.heap.objs.size)) (EP X pins σ Q) X.xe { s3 with heap := s3.heap.push { cls := .type "slice", data := .fields #[vl, vu, .none] } }
  exact tail_any (ops := [.ref s3.heap.objs.size, v]) ht hT hg (by with_unfolding_all rfl)
def cutV (xs : List V) (lo hi : Option Int) : List V := (xs.drop (HT.sIx xs.length 0 lo)).take (HT.sIx xs.length xs.length hi - HT.sIx xs.length 0 lo)
theorem cutV_length (xs : List V) (lo hi : Option Int) : (cutV xs lo hi).length ≤ xs.length := by
  unfold cutV
  rw [List.length_take, List.length_drop]
  omega
def rSlT (K : PySem.W.Frag) : V → Option Int → Option Int → Hp → VK → Prop := fun x lo hi H Q => ∃ a xs, x = .ref a ∧ SqT K H a xs ∧
  ¬ (HT.sIx xs.length 0 lo = 0 ∧ HT.sIx xs.length xs.length hi = xs.length) ∧ ∀ p, H p = none → Q (.ref p) (upd H p (.tup (cutV xs lo hi)))
theorem sl_tup : SlR X (rSlT X.K) := by
  intro pins s σ H x v vl vu lo hi sl Q I rx hs pl pu h
  obtain ⟨a, xs, rfl, hx, hw, q⟩ := h
  cases rx
  obtain ⟨its, r, ht, hz⟩ := I.tuple hx
  have hlen : its.toArray.size = xs.length := by rw [List.size_toArray]; exact r.length.symm
  refine ⟨"tuple", _, PyProof.Rows.slot_tuple_getitem.lookup, ht.typeIs, ?_⟩
  refine HT.getItem_tuple_cut ht hs pl pu (by rw [hlen]; exact hw) ?_ (by rw [hlen]; exact hz)
  rw [hlen]
  refine ⟨.ref s.heap.objs.size, _, I.laid (t' := s.toks) (o := .tup (cutV xs lo hi)) (fun b ob q => Heap.get?_push_of_some _ q) (Nat.le_refl _) ?_, rfl, q _ (I.hok.fresh (Nat.le_refl _))⟩
  exact ⟨Nat.le_trans (cutV_length xs lo hi) hz, _, (r.drop (HT.sIx xs.length 0 lo)).take (HT.sIx xs.length xs.length hi - HT.sIx xs.length 0 lo), IsTup.new _ _⟩
def rCatT (K : PySem.W.Frag) : R2 := fun x y H Q => ∃ a b xs ys, x = .ref a ∧ y = .ref b ∧ SqT K H a xs ∧ SqT K H b ys ∧ xs ≠ [] ∧ xs.length + ys.length ≤ sizeLine ∧
  (ys = [] → Q (.ref a) H) ∧ (ys ≠ [] → ∀ p, H p = none → Q (.ref p) (upd H p (.tup (xs ++ ys))))
theorem Vals.nil_iff {xs : List V} {us : List Value} (r : Vals xs us) : us = [] ↔ xs = [] := by
  cases r with
  | nil => simp
  | cons _ _ => simp
theorem op_catT : OpR X (binaryOp .Add) (rCatT X.K) := by
  intro pins s σ H x y v u Q I rx ry h
  obtain ⟨a, b, xs, ys, rfl, rfl, ha, hb, hx, hz, q1, q2⟩ := h
  cases rx
  cases ry
  obtain ⟨its, r1, p1, _⟩ := I.tuple ha
  obtain ⟨its2, r2, p2, _⟩ := I.tuple hb
  refine HT.cat_tup p1 p2 (fun z => hx (r1.nil_iff.mp z)) (fun z => ⟨.ref a, H, I, rfl, q1 (r2.nil_iff.mp z)⟩) (fun z => ?_) (by rw [← r1.length, ← r2.length]; exact hz)
  refine ⟨.ref s.heap.objs.size, _, I.laid (t' := s.toks) (o := .tup (xs ++ ys)) (fun b ob q => Heap.get?_push_of_some _ q) (Nat.le_refl _) ?_, rfl, q2 (fun w => z (r2.nil_iff.mpr w)) _ (I.hok.fresh (Nat.le_refl _))⟩
  exact ⟨by rw [List.length_append]; exact hz, _, r1.append r2, IsTup.new _ _⟩
end
end L2
namespace L2
open PySem PySem.Spec PyProof.Rows
def ixN (n : Nat) (i : Int) : Option Nat := if 0 ≤ i then (if i < n then some i.toNat else none) else if -(n : Int) ≤ i then some (i + n).toNat else none
def atI {α : Type} (xs : List α) (i : Int) : Option α := (ixN xs.length i).bind fun j => xs[j]?
theorem ixN_seq {n : Nat} {i : Int} {j : Nat} (h : ixN n i = some j) : seqIndex? i n = some j ∧ j < n ∧ -(n : Int) ≤ i ∧ i < n := by
  unfold ixN at h
  by_cases h0 : 0 ≤ i
  · rw [if_pos h0] at h
    by_cases h1 : i < n
    · rw [if_pos h1] at h
      have e : i.toNat = j := Option.some.inj h
      exact ⟨by rw [seqIndex_of h0 h1, e], by omega, by omega, h1⟩
    · rw [if_neg h1] at h; cases h
  · rw [if_neg h0] at h
    by_cases h1 : -(n : Int) ≤ i
    · rw [if_pos h1] at h
      have e : (i + n).toNat = j := Option.some.inj h
      exact ⟨by rw [seqIndex_neg (by omega) h1, e], by omega, h1, by omega⟩
    · rw [if_neg h1] at h; cases h
theorem atI_get {α : Type} {xs : List α} {i : Int} {v : α} (h : atI xs i = some v) : ∃ j, seqIndex? i xs.length = some j ∧ xs[j]? = some v ∧ j < xs.length ∧ -(xs.length : Int) ≤ i ∧ i < xs.length := by
  unfold atI at h
  cases e : ixN xs.length i with
  | none => rw [e] at h; cases h
  | some j =>
    rw [e] at h
    obtain ⟨h1, h2, h3, h4⟩ := ixN_seq e
    exact ⟨j, h1, h, h2, h3, h4⟩
theorem atI_nat {α : Type} {xs : List α} {j : Nat} {v : α} (h : xs[j]? = some v) : atI xs (j : Int) = some v := by
  have hj : j < xs.length := (List.getElem?_eq_some_iff.mp h).1
  have e : ixN xs.length (j : Int) = some j := by
    unfold ixN
    rw [if_pos (by omega), if_pos (by omega)]; simp
  unfold atI; rw [e]; exact h
def PlainIx (b : Expr) : Prop := ∀ o i, subscripted b false o i = operate [o, i] (getItem o i)
def IxR (X : Cx) (r : R2) : Prop :=
  ∀ (value slice : Expr) (pins : List (Addr × Obj)) (s : Shared) (σ : St) (H : Hp) (x y : V) (v u : Value) (Q : VK), Inv X pins σ H s → RelV x v → RelV y u → r x y H Q →
    subscripted slice false v u = operate [v, u] (getItem v u) → wpAny (model X.prog X.w) X.A (subscriptTail value slice v u) (EP X pins σ Q) X.xe s
def MtR (X : Cx) (id : String) (r : V → List V → Hp → VK → Prop) : Prop :=
  ∀ (pins : List (Addr × Obj)) (s : Shared) (σ : St) (H : Hp) (x : V) (xs : List V) (v : Value) (us : List Value) (Q : VK), Inv X pins σ H s → RelV x v → Vals xs us → r x xs H Q →
    wpAny (model X.prog X.w) X.A (call (.builtin id) (v :: us)) (EP X pins σ Q) X.xe s
section
variable {X : Cx} {a b : Expr} {ta tb : TE} {pos : Pos}
theorem pe_ix {r : R2} (hr : IxR X r) (ha : PE X a ta) (hb : PE X b tb) (hs : PlainIx b) : PE X (.Subscript a b pos) (tOp r ta tb) := by
  intro pins s σ H Q I h
  exact Subscript_ (binT ha hb I h fun v u s2 x y H2 I2 rx ry q => hr a b pins s2 σ H2 x y v u Q I2 rx ry q (hs _ _))
def rIxL (K : PySem.W.Frag) : R2 := fun x y H Q => ∃ p xs i v, x = .ref p ∧ y = .int i ∧ SqL K H p xs ∧ atI xs i = some v ∧ Q v H
def rIxT (K : PySem.W.Frag) : R2 := fun x y H Q => ∃ p xs i v, x = .ref p ∧ y = .int i ∧ SqT K H p xs ∧ atI xs i = some v ∧ Q v H
theorem ix_list : IxR X (rIxL X.K) := by
  intro value slice pins s σ H x y v u Q I rx ry h hs
  obtain ⟨p, xs, i, z, rfl, rfl, hq, he, q⟩ := h
  cases rx
  obtain ⟨t, rfl⟩ := ry
  obtain ⟨its, r, pl, hz⟩ := I.list hq
  obtain ⟨j, h1, h2, h3, h4, h5⟩ := atI_get he
  obtain ⟨w, ew, rw'⟩ := r.get h2
  have hl := r.length
  have hn := line63
  have fin : EP X pins σ Q w s := ⟨z, H, I, rw', q⟩
  by_cases h0 : 0 ≤ i
  · have hj : i.toNat = j := by
      rw [seqIndex_of h0 h5] at h1
      exact Option.some.inj h1
    exact item_listR pl.isList h0 (by omega) (by rw [hj]; simpa using ew) fin hs
  · have hj : (i + (its.toArray.size : Int)).toNat = j := by
      rw [seqIndex_neg (by omega) h4] at h1
      rw [List.size_toArray, ← hl]
      exact Option.some.inj h1
    exact subscriptTail_builtinR (x := w) pl.isList.typeIs slot_list_getitem.lookup
      (wpAny_getItem_list_neg (Q := fun r s' => r = w ∧ EP X pins σ Q r s') pl.isList (by omega) (by rw [List.size_toArray] <;> omega) (by omega) (by rw [hj]; simpa using ew) ⟨rfl, fin⟩) hs
theorem ix_tup : IxR X (rIxT X.K) := by
  intro value slice pins s σ H x y v u Q I rx ry h hs
  obtain ⟨p, xs, i, z, rfl, rfl, hq, he, q⟩ := h
  cases rx
  obtain ⟨t, rfl⟩ := ry
  obtain ⟨its, r, pl, hz⟩ := I.tuple hq
  obtain ⟨j, h1, h2, h3, h4, h5⟩ := atI_get he
  obtain ⟨w, ew, rw'⟩ := r.get h2
  have hl := r.length
  have hn := line63
  have fin : EP X pins σ Q w s := ⟨z, H, I, rw', q⟩
  exact subscriptTail_builtinR (x := w) pl.typeIs slot_tuple_getitem.lookup
    (getItem_tuple (j := j) (Q := fun r s' => r = w ∧ EP X pins σ Q r s') pl (by omega) (by omega) (by rw [List.size_toArray, ← hl]; exact h1) (by simpa using ew) ⟨rfl, fin⟩) hs
theorem mapSeq_set (its : List Value) (n j : Nat) (u : Value) : Obj.mapSeq (·.setIfInBounds j u) { cls := .type "list", data := .seq its.toArray n } = { cls := .type "list", data := .seq (its.set j u).toArray n } := by
  simp [Obj.mapSeq]
theorem Inv.lst {pins : List (Addr × Obj)} {σ : St} {H : Hp} {s : Shared} {p : Addr} {xs : List V} (I : Inv X pins σ H s) (h : H p = some (.lst xs)) :
    ∃ (its : List Value) (n : Nat), Vals xs its ∧ s.heap.get? p = some { cls := .type "list", data := .seq its.toArray n } ∧ xs.length ≤ sizeLine := by
  obtain ⟨z, its, n, r, e⟩ := I.hok p _ h
  exact ⟨its, n, r, e, z⟩
theorem Inv.lstUpd {pins : List (Addr × Obj)} {σ : St} {H : Hp} {s : Shared} {p : Addr} {xs ys : List V} {its its' : List Value} {n n' : Nat} {f : Obj → Obj} (I : Inv X pins σ H s) (h : H p = some (.lst xs))
    (ho : s.heap.get? p = some { cls := .type "list", data := .seq its.toArray n }) (hf : f { cls := .type "list", data := .seq its.toArray n } = { cls := .type "list", data := .seq its'.toArray n' }) (r : Vals ys its') (hz : ys.length ≤ sizeLine) (t : Nat) :
    Inv X pins σ (upd H p (.lst ys)) { s with heap := s.heap.update p f, toks := t } := by
  have e : (s.heap.update p f).get? p = some { cls := .type "list", data := .seq its'.toArray n' } := by
    rw [Heap.get?_update_self f ho (by rw [hf] <;> rfl), hf]
  refine I.write (x := p) (e := p) (by rw [h]; trivial) (.inl rfl) (fun b u hb q => (Heap.get?_update_other _ _ (Ne.symm hb)).trans q) ⟨_, e⟩ ?_
  exact ⟨hz, its', n', r, e⟩
def rSetL : V → V → V → Hp → (Hp → Prop) → Prop := fun o i v H Q => ∃ p xs k j, o = .ref p ∧ i = .int k ∧ H p = some (.lst xs) ∧ ixN xs.length k = some j ∧ Q (upd H p (.lst (xs.set j v)))
theorem set_list : PSet X rSetL := by
  intro pins s σ H o i v ov iv u Q I ro ri rv h
  obtain ⟨p, xs, k, j, rfl, rfl, hp, hj, q⟩ := h
  cases ro
  obtain ⟨t, rfl⟩ := ri
  obtain ⟨its, n, r, ho, hz⟩ := I.lst hp
  obtain ⟨h1, h2, h3, h4⟩ := ixN_seq hj
  have hl := r.length
  have hn := line63
  have I' : Inv X pins σ (upd H p (.lst (xs.set j v))) { s with heap := s.heap.update p (Obj.mapSeq (·.setIfInBounds j u)) } :=
    I.lstUpd hp ho (mapSeq_set its n j u) (r.set rv j) (by rw [List.length_set]; exact hz) s.toks
  by_cases h0 : 0 ≤ k
  · have hk : k.toNat = j := by
      rw [seqIndex_of h0 h4] at h1
      exact Option.some.inj h1
    exact PySem.W.ki_setAt ho h0 (by omega) (by rw [List.size_toArray, ← hl]; exact h4) (by rw [hk]; exact ⟨_, I', q⟩)
  · have hk : (k + (its.toArray.size : Int)).toNat = j := by
      rw [seqIndex_neg (by omega) h3] at h1
      rw [List.size_toArray, ← hl]
      exact Option.some.inj h1
    exact PySem.W.ki_setBack ho (by omega) (by rw [List.size_toArray, ← hl]; exact h3) (by omega) (by rw [hk]; exact ⟨_, I', q⟩)
theorem slice_bounds (lo hi : Option Int) (n : Nat) : (sliceBounds lo hi none n).1 = ((HT.sIx n 0 lo : Nat) : Int) ∧ (sliceBounds lo hi none n).2.1 = ((HT.sIx n n hi : Nat) : Int) ∧ (sliceBounds lo hi none n).2.2 = 1 := by
  refine ⟨?_, ?_, rfl⟩
  · cases lo with
    | none => simp [sliceBounds, HT.sIx]
    | some i =>
      simp only [sliceBounds, HT.sIx, Option.getD_none, show (1 : Int) > 0 by decide, if_true]
      by_cases h : i < 0
      · simp only [h, if_true] <;> omega
      · simp only [h, if_false] <;> omega
  · cases hi with
    | none => simp [sliceBounds, HT.sIx]
    | some i =>
      simp only [sliceBounds, HT.sIx, Option.getD_none, show (1 : Int) > 0 by decide, if_true]
      by_cases h : i < 0
      · simp only [h, if_true] <;> omega
      · simp only [h, if_false] <;> omega
theorem slicePick_cut (its : List Value) (lo hi : Option Int) : slicePick its.toArray lo hi none = ((its.drop (HT.sIx its.length 0 lo)).take (HT.sIx its.length its.length hi - HT.sIx its.length 0 lo)).toArray := by
  obtain ⟨h1, h2, h3⟩ := slice_bounds lo hi its.toArray.size
  unfold slicePick
  rw [h1, h2, h3]
  simp only [sliceRange_one, pick_run, List.size_toArray] <;> rfl
def rSlL (K : PySem.W.Frag) : V → Option Int → Option Int → Hp → VK → Prop := fun x lo hi H Q => ∃ a xs, x = .ref a ∧ SqL K H a xs ∧ ∀ p, H p = none → Q (.ref p) (upd H p (.lst (cutV xs lo hi)))
theorem sl_list : SlR X (rSlL X.K) := by
  intro pins s σ H x v vl vu lo hi sl Q I rx hs pl pu h
  obtain ⟨a, xs, rfl, hx, q⟩ := h
  cases rx
  obtain ⟨its, r, ht, hz⟩ := I.list hx
  have hlen := r.length
  refine ⟨"list", _, slot_list_getitem.lookup, ht.isList.typeIs, ?_⟩
  refine wpAny_getItem_list_slice ht.isList hs pl pu .none (by simp) ?_ (by rw [List.size_toArray] <;> omega)
  rw [slicePick_cut, ← hlen]
  refine ⟨.ref s.heap.objs.size, _, I.laid (t' := s.toks) (o := .lst (cutV xs lo hi)) (fun b ob q => Heap.get?_push_of_some _ q) (Nat.le_refl _) ?_, rfl, q _ (I.hok.fresh (Nat.le_refl _))⟩
  exact ⟨Nat.le_trans (cutV_length xs lo hi) hz, _, 0, (r.drop (HT.sIx xs.length 0 lo)).take (HT.sIx xs.length xs.length hi - HT.sIx xs.length 0 lo), Heap.get?_push_size _ rfl⟩
def flatV : V → Bool
  | .non => true
  | .bl _ => true
  | .int _ => true
  | .str _ => true
  | _ => false
def eqV : V → V → Bool
  | .non, .non => true
  | .bl a, .bl b => a == b
  | .bl a, .int b => (if a then 1 else 0) == b
  | .int a, .bl b => a == (if b then 1 else 0)
  | .int a, .int b => a == b
  | .str a, .str b => a == b
  | _, _ => false
theorem eqAt_V {A : Around} {s : Shared} {y x : V} {u v : Value} (ry : RelV y u) (rx : RelV x v) (fy : flatV y = true) (fx : flatV x = true) : SeqAt.EqAt A s u v (eqV y x) := by
  cases y with
  | non =>
    cases ry
    cases x with
    | non => cases rx; exact SeqAt.EqAt.same _
    | bl b => cases rx; exact SeqAt.EqAt.none_bool b
    | int b => obtain ⟨t, rfl⟩ := rx; exact SeqAt.EqAt.none_int b t
    | str b => obtain ⟨t, rfl⟩ := rx; exact SeqAt.EqAt.none_str b t
    | _ => exact absurd (show false = true from fx) Bool.false_ne_true
  | bl a =>
    cases ry
    cases x with
    | non => cases rx; exact SeqAt.EqAt.bool_none a
    | bl b => cases rx; exact SeqAt.EqAt.bool_bool a b
    | int b => obtain ⟨t, rfl⟩ := rx; exact SeqAt.EqAt.bool_int a b t
    | str b => obtain ⟨t, rfl⟩ := rx; exact SeqAt.EqAt.bool_str a b t
    | _ => exact absurd (show false = true from fx) Bool.false_ne_true
  | int a =>
    obtain ⟨t', rfl⟩ := ry
    cases x with
    | non => cases rx; exact SeqAt.EqAt.int_none a t'
    | bl b => cases rx; exact SeqAt.EqAt.int_bool a t' b
    | int b => obtain ⟨t, rfl⟩ := rx; exact SeqAt.EqAt.int_int a t' b t
    | str b => obtain ⟨t, rfl⟩ := rx; exact SeqAt.EqAt.int_str a t' b t
    | _ => exact absurd (show false = true from fx) Bool.false_ne_true
  | str a =>
    obtain ⟨t', rfl⟩ := ry
    cases x with
    | non => cases rx; exact SeqAt.EqAt.str_none a t'
    | bl b => cases rx; exact SeqAt.EqAt.str_bool a t' b
    | int b => obtain ⟨t, rfl⟩ := rx; exact SeqAt.EqAt.str_int a t' b t
    | str b => obtain ⟨t, rfl⟩ := rx; exact SeqAt.EqAt.str_str a t' b t
    | _ => exact absurd (show false = true from fx) Bool.false_ne_true
  | _ => exact absurd (show false = true from fy) Bool.false_ne_true
def eqU (x : V) (u : Value) : Bool := match u with
  | .none => eqV .non x
  | .bool b => eqV (.bl b) x
  | .int i _ => eqV (.int i) x
  | .str z _ => eqV (.str z) x
  | _ => false
theorem eqU_of {x y : V} {u : Value} (r : RelV y u) (f : flatV y = true) : eqU x u = eqV y x := by
  cases y with
  | non => cases r; rfl
  | bl b => cases r; rfl
  | int i => obtain ⟨t, rfl⟩ := r; rfl
  | str z => obtain ⟨t, rfl⟩ := r; rfl
  | _ => exact absurd (show false = true from f) Bool.false_ne_true
theorem any_eqU {x : V} : ∀ {xs : List V} {us : List Value}, Vals xs us → xs.all flatV = true → us.any (eqU x) = xs.any fun y => eqV y x
  | _, _, .nil, _ => rfl
  | y :: xs, u :: us, .cons r t, f => by
    rw [List.all_cons, Bool.and_eq_true] at f
    rw [List.any_cons, List.any_cons, eqU_of r f.1, any_eqU t f.2]
theorem mem_eqAt {A : Around} {s : Shared} {x : V} {v : Value} (rx : RelV x v) (fx : flatV x = true) : ∀ {xs : List V} {us : List Value}, Vals xs us → xs.all flatV = true → ∀ u ∈ us, SeqAt.EqAt A s u v (eqU x u)
  | _, _, .nil, _ => fun u hu => by cases hu
  | y :: xs, u :: us, .cons r t, f => fun u' hu => by
    rw [List.all_cons, Bool.and_eq_true] at f
    rcases List.mem_cons.mp hu with rfl | hu
    · rw [eqU_of r f.1]; exact eqAt_V r rx f.1 fx
    · exact mem_eqAt rx fx t f.2 u' hu
def inV (x : V) (xs : List V) : Bool := xs.any fun y => eqV y x
def rIn (K : PySem.W.Frag) (neg : Bool) : R2 := fun x y H Q => ∃ p xs, y = .ref p ∧ (SqL K H p xs ∨ SqT K H p xs) ∧ flatV x = true ∧ xs.all flatV = true ∧ Q (.bl (if neg then !inV x xs else inV x xs)) H
theorem op_in_seq : OpR X (compareOp .In) (rIn X.K false) := by
  intro pins s σ H x y v u Q I rx ry h
  obtain ⟨p, xs, rfl, hq, fx, fs, q⟩ := h
  cases ry
  rcases hq with hq | hq
  · obtain ⟨its, r, pl, hz⟩ := I.list hq
    refine SeqAt.in_listAt (eqU x) pl.isList (fun w hw => mem_eqAt rx fx r fs w (by simpa using hw)) ⟨.bl _, H, I, rfl, ?_⟩
    rw [show its.toArray.any (eqU x) = its.any (eqU x) by simp, any_eqU r fs]
    exact q
  · obtain ⟨its, r, pl, hz⟩ := I.tuple hq
    refine SeqAt.in_tupleAt (eqU x) pl (fun w hw => mem_eqAt rx fx r fs w (by simpa using hw)) ⟨.bl _, H, I, rfl, ?_⟩
    rw [show its.toArray.any (eqU x) = its.any (eqU x) by simp, any_eqU r fs]
    exact q
theorem op_notIn_seq : OpR X (compareOp .NotIn) (rIn X.K true) := by
  intro pins s σ H x y v u Q I rx ry h
  obtain ⟨p, xs, rfl, hq, fx, fs, q⟩ := h
  cases ry
  rcases hq with hq | hq
  · obtain ⟨its, r, pl, hz⟩ := I.list hq
    refine SeqAt.notIn_listAt (eqU x) pl.isList (fun w hw => mem_eqAt rx fx r fs w (by simpa using hw)) ⟨.bl _, H, I, rfl, ?_⟩
    rw [show its.toArray.any (eqU x) = its.any (eqU x) by simp, any_eqU r fs]
    exact q
  · obtain ⟨its, r, pl, hz⟩ := I.tuple hq
    refine SeqAt.notIn_tupleAt (eqU x) pl (fun w hw => mem_eqAt rx fx r fs w (by simpa using hw)) ⟨.bl _, H, I, rfl, ?_⟩
    rw [show its.toArray.any (eqU x) = its.any (eqU x) by simp, any_eqU r fs]
    exact q
theorem call_len_seq : CallR X (.builtin "len") (fun xs H Q => ∃ p ys, xs = [.ref p] ∧ (SqL X.K H p ys ∨ SqT X.K H p ys) ∧ Q (.int ys.length) H) := by
  intro pins s σ H xs us Q I r h
  obtain ⟨p, ys, rfl, hq, q⟩ := h
  obtain ⟨u, rfl, rx⟩ := vals1 r
  cases rx
  have hn := line63
  rcases hq with hq | hq
  · obtain ⟨its, r', pl, hz⟩ := I.list hq
    have hlen := r'.length
    exact Calls.call_len_list pl.isList (by simp only [List.size_toArray] <;> omega) ⟨.int ys.length, H, I.tok _, ⟨s.toks + 1, by rw [List.size_toArray, hlen]⟩, q⟩
  · obtain ⟨its, r', pl, hz⟩ := I.tuple hq
    have hlen := r'.length
    exact len_tuple pl (by simp only [List.size_toArray] <;> omega) ⟨.int ys.length, H, I.tok _, ⟨s.toks + 1, by rw [List.size_toArray, hlen]⟩, q⟩
theorem call_list_of : CallR X (.type "list") (fun xs H Q => ∃ p ys, xs = [.ref p] ∧ (SqL X.K H p ys ∨ SqT X.K H p ys) ∧ ∀ l, H l = none → Q (.ref l) (upd H l (.lst ys))) := by
  intro pins s σ H xs us Q I r h
  obtain ⟨p, ys, rfl, hq, q⟩ := h
  obtain ⟨u, rfl, rx⟩ := vals1 r
  cases rx
  have fin : ∀ (its : List Value), Vals ys its → ys.length ≤ sizeLine → ∀ (h' : Heap) (c' : Nat), (∀ b o', s.heap.get? b = some o' → h'.get? b = some o') →
      h'.get? s.heap.objs.size = some { cls := .type "list", dict := none, data := .seq its.toArray c', slots := #[] } → EP X pins σ Q (.ref s.heap.objs.size) { s with heap := h' } := fun its r' hz h' c' kp e =>
    ⟨.ref s.heap.objs.size, _, I.laid (t' := s.toks) kp (Nat.le_refl _) (show ObjOk X.prog X.w _ h' _ (.lst ys) from ⟨hz, its, c', r', e⟩), rfl, q _ (I.hok.fresh (Nat.le_refl _))⟩
  rcases hq with hq | hq
  · obtain ⟨its, r', pl, hz⟩ := I.list hq
    have hlen := r'.length
    obtain ⟨o, ho, hc, n, hd⟩ := pl.isList
    exact call_list_seq p (.inl rfl) ho hc hd (fun h' c' kp e => fin its r' hz h' c' kp e) (by simp only [List.size_toArray] <;> omega)
  · obtain ⟨its, r', pl, hz⟩ := I.tuple hq
    have hlen := r'.length
    obtain ⟨o, ho, hc, n, hd⟩ := pl
    exact call_list_seq p (.inr rfl) ho hc hd (fun h' c' kp e => fin its r' hz h' c' kp e) (by simp only [List.size_toArray] <;> omega)
theorem call_tuple_of : CallR X (.type "tuple") (fun xs H Q => ∃ p ys, xs = [.ref p] ∧ ((SqL X.K H p ys ∧ ∀ l, H l = none → Q (.ref l) (upd H l (.tup ys))) ∨ (SqT X.K H p ys ∧ Q (.ref p) H))) := by
  intro pins s σ H xs us Q I r h
  obtain ⟨p, ys, rfl, h⟩ := h
  obtain ⟨u, rfl, rx⟩ := vals1 r
  cases rx
  rcases h with ⟨hq, q⟩ | ⟨hq, q⟩
  · obtain ⟨its, r', pl, hz⟩ := I.list hq
    have hlen := r'.length
    refine call_tuple_list pl.isList (fun h' kp => ?_) (by simp only [List.size_toArray] <;> omega)
    have I1 : Inv X pins σ H { s with heap := h' } := I.kept (t' := s.toks) kp
    have I2 : Inv X pins σ (upd H h'.objs.size (.tup ys)) { s with heap := h'.push { cls := .type "tuple", data := .seq its.toArray } } :=
      I1.laid (t' := s.toks) (fun b o e => Heap.get?_push_of_some _ e) (Nat.le_refl _) (show ObjOk X.prog X.w _ _ _ (.tup ys) from ⟨hz, its, r', IsTup.new _ _⟩)
    exact ⟨.ref h'.objs.size, _, I2, rfl, q _ (I1.hok.fresh (Nat.le_refl _))⟩
  · obtain ⟨its, r', pl, hz⟩ := I.tuple hq
    exact call_tuple_same pl ⟨.ref p, H, I, rfl, q⟩
def tyV (K : PySem.W.Frag) (T : String) (x : V) (H : Hp) : Prop := match x with
  | .str _ => T = "str"
  | .int _ => T = "int"
  | .ref p => (T = "list" ∧ ∃ xs, SqL K H p xs) ∨ (T = "tuple" ∧ ∃ o, K.lookup p = some o ∧ o.cls = .type "tuple" ∧ o.dict = none) ∨
      (T = "dict" ∧ ((∃ kvs, H p = some (.dK kvs)) ∨ ∃ kvs, H p = some (.dT kvs))) ∨ (T = "set" ∧ ∃ S n, H p = some (.set S n))
  | _ => False
theorem tyV_is {pins : List (Addr × Obj)} {σ : St} {H : Hp} {s : Shared} {T : String} {x : V} {v : Value} (I : Inv X pins σ H s) (r : RelV x v) (ty : tyV X.K T x H) :
    s.TypeIs v T ∧ ∀ a, v = .ref a → ∃ ob, s.heap.get? a = some ob ∧ ob.dict = none := by
  cases x with
  | str z =>
    obtain ⟨t, rfl⟩ := r
    cases (show T = "str" from ty)
    exact ⟨typeIs_str s z t, fun _ e => nomatch e⟩
  | int i =>
    obtain ⟨t, rfl⟩ := r
    cases (show T = "int" from ty)
    exact ⟨typeIs_int s i t, fun _ e => nomatch e⟩
  | ref p =>
    cases r
    rcases ty with ⟨rfl, xs, hq⟩ | ⟨rfl, o, hk, hc, hd⟩ | ⟨rfl, hk⟩ | ⟨rfl, S, n, hk⟩
    · obtain ⟨its, _, pl, _⟩ := I.list hq
      refine ⟨pl.isList.typeIs, fun a e => ?_⟩
      cases e
      obtain ⟨o, n, e, c, hd, _⟩ := pl
      exact ⟨o, e, hd⟩
    · refine ⟨⟨o, I.kIn p o hk, hc⟩, fun a e => ?_⟩
      cases e
      exact ⟨o, I.kIn _ o hk, hd⟩
    · have z : ∃ o, s.heap.get? p = some o ∧ o.ExactDict := by
        rcases hk with ⟨kvs, hk⟩ | ⟨kvs, hk⟩
        · obtain ⟨_, _, _, _, o, _, _, e, ex, _⟩ := I.hok p _ hk
          exact ⟨o, e, ex⟩
        · obtain ⟨_, _, _, _, o, _, _, e, ex, _⟩ := I.hok p _ hk
          exact ⟨o, e, ex⟩
      obtain ⟨o, e, ex⟩ := z
      refine ⟨⟨o, e, ex.1⟩, fun a e2 => ?_⟩
      cases e2
      exact ⟨o, e, ex.2.1⟩
    · obtain ⟨o, _, _, _, e, ex, _⟩ := I.hok p _ hk
      refine ⟨⟨o, e, ex.1⟩, fun a e2 => ?_⟩
      cases e2
      exact ⟨o, e, ex.2.1⟩
  | _ => exact False.elim ty
def tBM0 (K : PySem.W.Frag) (T : String) (r : V → List V → Hp → VK → Prop) (to : TE) : TE := fun σ H Q => to σ H fun x H1 => tyV K T x H1 ∧ r x [] H1 Q
def tBM (K : PySem.W.Frag) (T : String) (r : V → List V → Hp → VK → Prop) (to : TE) (t : TA) : TE := fun σ H Q => to σ H fun x H1 => tyV K T x H1 ∧ t σ H1 fun xs H2 => r x xs H2 Q
variable {o e : Expr} {es : List Expr} {to : TE} {t : TA} {name : Str} {apos cpos : Pos} {T id : String} {r : V → List V → Hp → VK → Prop}
theorem pe_bm0 (pa : PlainAttrs T) (slot : Slot T name id) (hty : typeOf (.builtin id) = pure (.type "method_descriptor")) (hm : MtR X id r) (ho : PE X o to)
    (hbase : attributeBase o name X.env (eval o X.env) = eval o X.env := by rfl) (hline : (apos.endLine == cpos.line) = true := by rfl) : PE X (.Call (.Attribute o name apos) [] [] cpos) (tBM0 X.K T r to) := by
  intro pins s σ H Q I h
  refine wpAny_Call_method0_late hbase hline (thn (ho pins s σ H _ I h) fun v s1 ⟨x, H1, I1, r1, ty, q1⟩ => ?_)
  obtain ⟨h1, h2⟩ := tyV_is I1 r1 ty
  exact ⟨T, id, pa, slot, hty, h1, h2, Calls.callWith_builtin rfl (PySem.evalArgs_none (hm pins s1 σ H1 x [] v [] Q I1 r1 .nil q1))⟩
theorem pe_bm (pa : PlainAttrs T) (slot : Slot T name id) (hty : typeOf (.builtin id) = pure (.type "method_descriptor")) (hm : MtR X id r) (ho : PE X o to) (ha : PA X (e :: es) t)
    (hbase : attributeBase o name X.env (eval o X.env) = eval o X.env := by rfl)
    (hfew : ((backTo cpos (starEach (e :: es) X.env)).all (fun x => !x.1) && (backToKw cpos (keywordEach [] X.env)).all (fun x => x.1.isSome)
      && decide ((e :: es).length + ([] : List Keyword).length + (if ([] : List Keyword).isEmpty then 0 else 1) < 30)) = true := by rfl)
    (hline : (apos.endLine == cpos.line) = true := by rfl) (hs : starEach (e :: es) X.env = (false, eval e X.env) :: starEach es X.env := by rfl) (hplain : (backTo cpos (starEach es X.env)).any (·.1) = false := by rfl) :
    PE X (.Call (.Attribute o name apos) (e :: es) [] cpos) (tBM X.K T r to t) := by
  intro pins s σ H Q I h
  refine wpAny_Call_method_late hbase hfew hline rfl (thn (ho pins s σ H _ I h) fun v s1 ⟨x, H1, I1, r1, ty, q1⟩ => ?_)
  obtain ⟨h1, h2⟩ := tyV_is I1 r1 ty
  refine ⟨T, id, pa, slot, hty, h1, h2, ?_⟩
  have hA := ha cpos pins s1 σ H1 _ I1 q1
  rw [hs] at hA ⊢
  refine Calls.callWith_builtin (by show (false || (backTo cpos (starEach es X.env)).any (·.1)) = false; rw [hplain] <;> rfl) (Calls.evalArgs_plain ?_)
  exact thn hA fun us s2 ⟨vs, H2, I2, r2, q2⟩ => hm pins s2 σ H2 x vs v us Q I2 r1 r2 q2
end
end L2
namespace L2
open PySem PySem.Spec PyProof.Rows
def MtM (X : Cx) (id : String) (r : V → List V → Hp → VK → Prop) : Prop :=
  ∀ (pins : List (Addr × Obj)) (s : Shared) (σ : St) (H : Hp) (x : V) (xs : List V) (v : Value) (us : List Value) (Q : VK), Inv X pins σ H s → RelV x v → Vals xs us → r x xs H Q →
    wpAny (model X.prog X.w) X.A (call (.builtin id) (v :: us)) (EP X pins σ Q) X.xe s
theorem Vals.one : ∀ {x : V} {us : List Value}, Vals [x] us → ∃ u, us = [u] ∧ RelV x u
  | _, _, .cons r .nil => ⟨_, rfl, r⟩
theorem Vals.two : ∀ {x y : V} {us : List Value}, Vals [x, y] us → ∃ u v, us = [u, v] ∧ RelV x u ∧ RelV y v
  | _, _, _, .cons r (.cons q .nil) => ⟨_, _, rfl, r, q⟩
theorem Vals.zero : ∀ {us : List Value}, Vals [] us → us = []
  | _, .nil => rfl
theorem Vals.eraseIdx : ∀ {xs : List V} {us : List Value} (i : Nat), Vals xs us → Vals (xs.eraseIdx i) (us.eraseIdx i)
  | _, _, _, .nil => .nil
  | _, _, 0, .cons _ t => t
  | _, _, i + 1, .cons r t => .cons r (Vals.eraseIdx i t)
theorem Vals.rep {xs : List V} {us : List Value} (h : Vals xs us) : ∀ k : Nat, Vals (List.replicate k xs).flatten (List.replicate k us).flatten
  | 0 => .nil
  | k + 1 => by
    rw [List.replicate_succ, List.replicate_succ, List.flatten_cons, List.flatten_cons]
    exact Vals.append h (Vals.rep h k)
theorem len_erase {α : Type} : ∀ (l : List α) (i : Nat), (l.eraseIdx i).length ≤ l.length
  | [], _ => Nat.le_refl _
  | _ :: _, 0 => Nat.le_succ _
  | _ :: r, i + 1 => Nat.succ_le_succ (len_erase r i)
theorem foldl_rep (its : List Value) : ∀ (k : Nat) (acc : List Value),
    List.foldl (fun x1 x2 => x1 ++ x2) acc.toArray (List.replicate k its.toArray) = (acc ++ (List.replicate k its).flatten).toArray
  | 0, acc => by simp
  | k + 1, acc => by
    have e : acc.toArray ++ its.toArray = (acc ++ its).toArray := by simp
    have e2 : (acc ++ its) ++ (List.replicate k its).flatten = acc ++ (List.replicate (k + 1) its).flatten := by
      rw [List.replicate_succ, List.flatten_cons, List.append_assoc]
    rw [← e2, ← foldl_rep its k (acc ++ its), ← e, List.replicate_succ, List.foldl_cons]
section
variable {X : Cx} {pins : List (Addr × Obj)} {σ : St} {H : Hp} {s : Shared} {l b : Addr} {xs ys zs : List V}
theorem Inv.lset {its its' : List Value} {n : Nat} {f : Array Value → Array Value} {t' : Nat} (I : Inv X pins σ H s) (hH : H l = some (.lst xs))
    (e : s.heap.get? l = some { cls := .type "list", data := .seq its.toArray n }) (hf : f its.toArray = its'.toArray) (hv : Vals ys its') (hz : ys.length ≤ sizeLine) :
    Inv X pins σ (upd H l (.lst ys)) { s with heap := s.heap.update l (Obj.mapSeq f), toks := t' } := by
  have q := PySem.IsL.update e f
  rw [hf] at q
  refine I.write (x := l) (e := l) (by rw [hH]; exact trivial) (.inl rfl) (fun b' u hb hu => (Heap.get?_update_other s.heap (Obj.mapSeq f) (Ne.symm hb)).trans hu) ⟨_, q⟩ ?_
  exact ⟨hz, its', _, hv, q⟩
theorem Inv.lnew {its : List Value} {t' : Nat} (I : Inv X pins σ H s) (hv : Vals ys its) (hz : ys.length ≤ sizeLine) :
    Inv X pins σ (upd H s.heap.objs.size (.lst ys)) { s with heap := s.heap.push { cls := .type "list", data := .seq its.toArray }, toks := t' } :=
  I.laid (fun _ _ q => Heap.get?_push_of_some _ q) (Nat.le_refl _) ⟨hz, its, 0, hv, Heap.get?_push_size _ rfl⟩
theorem Inv.fresh (I : Inv X pins σ H s) : H s.heap.objs.size = none := I.hok.fresh (Nat.le_refl _)
theorem Inv.lstM (I : Inv X pins σ H s) (hH : H l = some (.lst xs)) : xs.length ≤ sizeLine ∧ ∃ (its : List Value) (n : Nat), Vals xs its ∧ xs.length = its.length ∧ s.heap.get? l = some { cls := .type "list", data := .seq its.toArray n } := by
  obtain ⟨z, its, n, r, e⟩ := I.hok l _ hH
  exact ⟨z, its, n, r, r.length, e⟩
theorem notLongL {n : Nat} (h : n ≤ sizeLine) : Builtin.List.listTooLong n = false := by
  unfold Builtin.List.listTooLong
  exact decide_eq_false (by omega)
end
section
variable {X : Cx}
def rAppend : V → List V → Hp → VK → Prop := fun x vs H Q => ∃ l xs y, x = .ref l ∧ vs = [y] ∧ H l = some (.lst xs) ∧ xs.length < sizeLine ∧ Q .non (upd H l (.lst (xs ++ [y])))
theorem mt_append : MtM X "list.append" rAppend := by
  intro pins s σ H x vs v us Q I rx rv h
  obtain ⟨l, xs, y, rfl, rfl, hH, hz, q⟩ := h
  cases rx
  obtain ⟨u, rfl, ru⟩ := rv.one
  obtain ⟨z, its, n, r, hl, e⟩ := I.lstM hH
  refine call_meets F.slot_list_append ⟨_, e, rfl⟩ F.entry_list_append (F.args_list_append_2 _ _) (PySem.list_append l its.toArray n u (by rw [List.size_toArray]; omega)) ⟨e, ?_⟩
  refine ⟨.non, _, I.lset (its' := its ++ [u]) hH e (by simp) (r.append (.cons ru .nil)) ?_, rfl, q⟩
  rw [List.length_append, List.length_singleton]
  omega
def rExtend : V → List V → Hp → VK → Prop := fun x vs H Q => ∃ l b xs zs, x = .ref l ∧ vs = [.ref b] ∧ H l = some (.lst xs) ∧ H b = some (.lst zs) ∧ xs.length + zs.length ≤ sizeLine ∧ Q .non (upd H l (.lst (xs ++ zs)))
theorem mt_extend : MtM X "list.extend" rExtend := by
  intro pins s σ H x vs v us Q I rx rv h
  obtain ⟨l, b, xs, zs, rfl, rfl, hH, hB, hz, q⟩ := h
  cases rx
  obtain ⟨u, rfl, ru⟩ := rv.one
  cases ru
  obtain ⟨z, its, n, r, hl, e⟩ := I.lstM hH
  obtain ⟨z2, its2, n2, r2, hl2, e2⟩ := I.lstM hB
  have hsz : its.toArray.size + its2.toArray.size ≤ sizeLine := by rw [List.size_toArray, List.size_toArray]; omega
  have hlong : ¬ (!its.toArray.isEmpty && Builtin.List.listTooLong (its.toArray.size + its2.toArray.size)) = true := by
    rw [notLongL hsz, Bool.and_false]
    exact Bool.false_ne_true
  refine call_meets F.slot_list_extend ⟨_, e, rfl⟩ F.entry_list_extend (F.args_list_extend_2 _ _)
    (AutoSeq1.list_extend_list_list_0 l its.toArray n b its2.toArray n2 hlong (by rw [List.size_toArray]; omega) (by omega)) ⟨e, e2, ?_⟩
  refine ⟨.non, _, I.lset (its' := its ++ its2) hH e (by simp) (r.append r2) ?_, rfl, q⟩
  rw [List.length_append]
  omega
def rPopAt : V → List V → Hp → VK → Prop := fun x vs H Q => ∃ l xs i k y, x = .ref l ∧ vs = [.int i] ∧ H l = some (.lst xs) ∧ -(2 ^ 63) ≤ i ∧ i < 2 ^ 63 ∧ seqIndex? i xs.length = some k ∧ xs[k]? = some y ∧ Q y (upd H l (.lst (xs.eraseIdx k)))
theorem mt_popAt : MtM X "list.pop" rPopAt := by
  intro pins s σ H x vs v us Q I rx rv h
  obtain ⟨l, xs, i, k, y, rfl, rfl, hH, h1, h2, hk, hy, q⟩ := h
  cases rx
  obtain ⟨u, rfl, ru⟩ := rv.one
  obtain ⟨t, rfl⟩ := ru
  obtain ⟨z, its, n, r, hl, e⟩ := I.lstM hH
  obtain ⟨w, hw, rw'⟩ := r.get hy
  refine call_meets F.slot_list_pop ⟨_, e, rfl⟩ F.entry_list_pop (F.args_list_pop_2 _ _)
    (MeetsSeq.list_pop_at l its.toArray n i t k w (fitsIndex_both h1 h2) (by rw [List.size_toArray, ← hl]; exact hk) (by rw [← Array.getElem?_toList]; exact hw) (by rw [List.size_toArray]; omega)) ⟨e, ?_⟩
  refine ⟨y, _, I.lset (its' := its.eraseIdx k) hH e ?_ (r.eraseIdx k) ?_, rw', q⟩
  · show its.toArray.eraseIdxIfInBounds k = (its.eraseIdx k).toArray
    rw [List.eraseIdxIfInBounds_toArray]
  · have := len_erase xs k
    omega
def rCat : R2 := fun x y H Q => ∃ l b xs zs, x = .ref l ∧ y = .ref b ∧ H l = some (.lst xs) ∧ H b = some (.lst zs) ∧ xs.length + zs.length ≤ sizeLine ∧ ∀ p, H p = none → Q (.ref p) (upd H p (.lst (xs ++ zs)))
theorem op_cat : OpR X (binaryOp .Add) rCat := by
  intro pins s σ H x y v u Q I rx ry h
  obtain ⟨l, b, xs, zs, rfl, rfl, hH, hB, hz, q⟩ := h
  cases rx
  cases ry
  obtain ⟨z, its, n, r, hl, e⟩ := I.lstM hH
  obtain ⟨z2, its2, n2, r2, hl2, e2⟩ := I.lstM hB
  refine PySem.P.add_list e e2 ?_ (by rw [List.size_toArray, List.size_toArray]; omega)
  have ea : its.toArray ++ its2.toArray = (its ++ its2).toArray := by simp
  rw [ea]
  exact ⟨.ref _, _, I.lnew (t' := s.toks) (r.append r2) (by rw [List.length_append]; omega), rfl, q _ I.fresh⟩
def rRep : R2 := fun x y H Q => ∃ l k xs, x = .ref l ∧ y = .int k ∧ H l = some (.lst xs) ∧ -(2 ^ 63) ≤ k ∧ k < 2 ^ 63 ∧ xs.length * k.toNat ≤ sizeLine ∧
  ∀ p, H p = none → Q (.ref p) (upd H p (.lst (List.replicate k.toNat xs).flatten))
theorem len_rep {α : Type} (xs : List α) (k : Nat) : (List.replicate k xs).flatten.length = k * xs.length := by
  induction k with
  | zero => simp
  | succ k ih => rw [List.replicate_succ, List.flatten_cons, List.length_append, ih, Nat.succ_mul, Nat.add_comm]
theorem op_rep : OpR X (binaryOp .Mult) rRep := by
  intro pins s σ H x y v u Q I rx ry h
  obtain ⟨l, k, xs, rfl, rfl, hH, h1, h2, hz, q⟩ := h
  cases rx
  obtain ⟨t, rfl⟩ := ry
  obtain ⟨z, its, n, r, hl, e⟩ := I.lstM hH
  have hlen : its.toArray.size * k.toNat ≤ sizeLine := by rw [List.size_toArray, ← hl]; exact hz
  have hcap : ¬ its.toArray.size * k.toNat > (2 ^ 63 - 1) / 8 := by
    have : (sizeLine : Nat) ≤ (2 ^ 63 - 1) / 8 := by decide
    omega
  have hfit : ¬ (!Builtin.List.listFitsIndex k) = true := by
    rw [fitsIndex_both h1 h2]
    exact Bool.false_ne_true
  have hlong : ¬ Builtin.List.listTooLong (its.toArray.size * k.toNat) = true := by
    rw [notLongL hlen]
    exact Bool.false_ne_true
  have hnew : List.foldl (fun x1 x2 => x1 ++ x2) #[] (List.replicate (if its.toArray.isEmpty = true then 0 else k.toNat) its.toArray) = (List.replicate k.toNat its).flatten.toArray := by
    have f0 : ∀ m : Nat, List.foldl (fun x1 x2 => x1 ++ x2) #[] (List.replicate m its.toArray) = (List.replicate m its).flatten.toArray := fun m => by
      have := foldl_rep its m []
      rw [List.nil_append] at this
      exact this
    rw [f0]
    cases its with
    | nil => simp
    | cons a r' => rw [if_neg (by simp)]
  refine wpAny_binaryOp_repeat_ref (T := "list") (U := "int") (by decide) ⟨_, e, rfl⟩ (fun s' => typeIs_int s' k t) noFill_list_mul F.fills_int_mul F.slot_int_rmul repeat_list F.slot_int_index.lookup
    (call_meets F.slot_int_rmul (typeIs_int s k t) F.entry_int_rmul (F.args_int_rmul_2 _ _) (int___rmul___int_list k t l its.toArray n)
      ⟨e, rfl, ⟨_, e, rfl⟩, call_meets F.slot_list_mul ⟨_, e, rfl⟩ F.entry_list_mul (F.args_list_mul_2 _ _) (AutoListH.list___mul___list_int_3 l its.toArray n k t hfit hcap hlong) ⟨e, ?_⟩⟩)
  rw [hnew]
  exact ⟨.ref _, _, I.lnew (t' := s.toks) (r.rep k.toNat) (by rw [len_rep, Nat.mul_comm]; exact hz), rfl, q _ I.fresh⟩
end
end L2
namespace Att
open PySem PySem.W PySem.Calls PyProof.Rows
theorem ints_of_wellAll {P : Params} {h : Heap} : ∀ (ns : List Int) (vs : List Value), WellAll P h vs (ns.map WData.int) → IntsAre vs ns := by
  intro ns
  induction ns with
  | nil =>
    intro vs w
    rw [List.map_nil] at w
    cases w
    exact .nil
  | cons n ns ih =>
    intro vs w
    rw [List.map_cons] at w
    cases w with
    | cons a b =>
      cases a
      exact .cons _ _ (ih _ b)
theorem script_of {l : OpenLaw} {n : Nat} (hn : l.most = some n) {P : Params} {h : Heap} {args : List WData} {vals : List Value}
    (hpre : l.row.toRowW.claim.pre args = true) (hwl : WellAll P h vals args) :
    ∃ a vs ns, vals = [Value.ref a] ∧ args = [WData.list (ns.map WData.int)] ∧ h.get? a = some { cls := .type "list", data := .seq vs.toArray } ∧ IntsAre vs ns ∧ ns.length ≤ n := by
  have hsh : WShape.hasAll [] args [.list .int] = true := (pre_splitW hpre).1
  have hc : l.pre.holds [] { args := args } = true := (pre_splitW hpre).2
  obtain ⟨d, r, rfl, h1, h2⟩ := hasAllW_cons hsh
  obtain rfl := hasAllW_nil h2
  obtain ⟨xs, rfl, h3⟩ := hasW_list h1
  obtain ⟨ns, rfl⟩ := items_int h3
  have hlen : ns.length ≤ n := by
    unfold OpenLaw.pre at hc
    have h4 : (WTm.not (.lt (.lit (.int (n : Int))) (.len (.arg 0)))).holds [] { args := [.list (ns.map .int)] } = true := by
      have h4 := (holds_andW hc).1
      rw [hn] at h4
      exact h4
    have h5 := condW_of h4 (w_not (w_lt w_lit (w_len_list (w_arg rfl))))
    rw [List.length_map] at h5
    refine Nat.le_of_not_lt fun q => ?_
    have q' : (n : Int) < ((ns.length : Nat) : Int) := by omega
    first
      | (rw [decide_eq_true q'] at h5; exact absurd h5 (by decide))
      | (simp at h5; omega)
  cases hwl with
  | cons w1 w2 =>
    cases w2
    cases w1 with
    | list ho hall => exact ⟨_, _, ns, rfl, rfl, ho, ints_of_wellAll ns _ hall, hlen⟩
theorem post_true (l : OpenLaw) (args : List WData) : l.row.toRowW.claim.post args (.bool true) args = true :=
  postW_of (r := l.row.toRowW) (X := (true == true))
    (show WShape.has [] (.bool true) .bool = true by first | rfl | decide | simp [WShape.has, WShape.arms, WShape.armsAll])
    (show (WTm.eq .res (.lit (.bool true))).value [] { args := args, res := some (.bool true), after := args } = some (.bool (true == true)) from w_eq_bool (w_res rfl) w_lit) rfl
theorem attach_call {l : OpenLaw} {n : Nat} {q : Program} {loose : List Str} {XP : (Str → Option Value) → Heap → Prop} {YP : World → Heap → Prop} {d : DefRec}
    (hn : l.most = some n) (hdf : d.params.defaults = [])
    (call : ∀ (w : World) (s₀ s₁ : Shared) (mg mb : Str → Option Value) (fa : Addr) (o : Obj) (pm cd doc : Value) (a : Addr) (vs : List Value) (ns : List Int),
      Ground q loose [] XP w s₀ mg mb s₁.heap → YP w s₁.heap →
      s₁.heap.get? fa = some o → o.data = .func (docDef d.name d.params d.body d.scope pm cd doc) → s₁.heap.CodeRec cd d.name → mg d.name = some (.ref fa) →
      s₁.heap.get? a = some { cls := .type "list", data := .seq vs.toArray } → IntsAre vs ns → ns.length ≤ n → s₁.gens = #[] →
      codeAny (model l.prog w) callerA (.call (.ref fa) ⟨[.ref a], []⟩) (fun r s' => r = .ok (.ret (.bool true)) ∧ OldK s₁.heap s'.heap ∧ s'.os = s₁.os ∧ AllBare s'.gens) s₁) :
    WalkO q loose XP YP l.row.toRowW d [] (fun f vs => PySem.call f vs) := by
  intro w s₀ s₁ mg mb G Y fa o pm cd doc dV kV ho hd hcd hD hmg hg args vals as hpre hlay hrd hwl hlo
  obtain rfl : dV = .none := Dflts.none hD hdf
  obtain rfl : kV = .none := Dflts.noKw hD
  obtain ⟨a, vs, ns, rfl, rfl, hobj, hints, hlen⟩ := script_of hn hpre hwl
  refine enter_call (codeAny_mono (call w s₀ s₁ mg mb fa o pm cd doc a vs ns G Y ho (fd_plain hd) hcd hmg hobj hints hlen hg) fun r s' hq => ?_)
  obtain ⟨rfl, h2, h3, h4⟩ := hq
  exact ⟨.inl ⟨.bool true, .bool true, [], rfl, fun _ => rfl, .bool true, post_true l _, fun _ => ⟨List.Pairwise.nil, fun _ hm => (nomatch hm)⟩⟩, h2, h3, h4⟩
end Att
namespace L2
open PySem PySem.Spec PyProof.Rows
theorem vals_ints : ∀ {vs : List Value} {ns : List Int}, IntsAre vs ns → Vals (ns.map V.int) vs
  | _, _, .nil => .nil
  | _, _, .cons n t h => .cons ⟨t, rfl⟩ (vals_ints h)
def Only (H : Hp) : Prop := ∀ b, H b = none ∨ ∃ o xs, H b = some (.frz o (.lst xs))
theorem law_call {P : Program} {w : World} {K : PySem.W.Frag} {mg mb : Str → Option Value} {CX : CXT} {k : Nat} {fa a : Addr} {fd : FuncData} {x : Str} {sp : Sp} {s₁ : Shared} {vs : List Value} {ns : List Int}
    (KX : K.In s₁.heap) (hns : s₁.heap.Ns mainGlobals mg) (hb : s₁.heap.Ns builtinsNs mb) (hbb : ∀ x : Str, x ≠ "__name__" → mb x = bootBuiltins x) (hlim : s₁.heap.NoLimit) (hg : s₁.gens = #[])
    (ha : s₁.heap.get? a = some { cls := .type "list", data := .seq vs.toArray }) (hi : IntsAre vs ns) (hl : ns.length ≤ sizeLine) (hr : Room k callerA)
    (F : ∀ base : Heap, K.In base → base.Ns mainGlobals mg → FnOk P w K mg base CX k fa fd [x] sp) (hbind : ∀ (s : Shared) (u : Value), BindsTo s fd ⟨[u], []⟩ [(x, u)])
    (hsp : ∀ H : Hp, Only H → SqL K H a (ns.map V.int) → sp [.ref a] H (fun v _ => v = .bl true) fun _ _ _ => False)
    (hCX : ∀ H e s', CX [] H s₁ (fun _ _ _ => False) e s' → False) :
    codeAny (model P w) callerA (.call (.ref fa) ⟨[.ref a], []⟩) (fun r s' => r = .ok (.ret (.bool true)) ∧ OldK s₁.heap s'.heap ∧ s'.os = s₁.os ∧ AllBare s'.gens) s₁ := by
  have rv := vals_ints hi
  have lenV := hi.length
  have core : ∀ H : Hp, Only H → SqL K H a (ns.map V.int) → HOk P w H s₁.heap → (∀ b, H b ≠ none → b = a) → (H a ≠ none → K.lookup a = none) →
      codeAny (model P w) callerA (.call (.ref fa) ⟨[.ref a], []⟩) (fun r s' => r = .ok (.ret (.bool true)) ∧ OldK s₁.heap s'.heap ∧ s'.os = s₁.os ∧ AllBare s'.gens) s₁ := by
    intro H hO hS hok hA hK
    have base_of : ∀ {b : Addr} {o : Obj}, s₁.heap.get? b = some o → H b = none → (hidT s₁.heap H).get? b = some o := fun e n => hidT_get e n
    have noA : ∀ {b : Addr} {o : Obj} {es : Array DictEntry} {ep : Nat}, s₁.heap.get? b = some o → o.data = .dict es ep → H b = none := fun {b o es ep} e d => by
      cases q : H b with
      | none => rfl
      | some u =>
        have e' : b = a := hA b (by rw [q]; simp)
        subst e'
        rw [ha] at e; cases e
        have d' : Data.seq vs.toArray _ = Data.dict es ep := d
        cases d'
    have nsK : ∀ {b : Addr} {m : Str → Option Value}, s₁.heap.Ns b m → (hidT s₁.heap H).Ns b m := fun {b m} ⟨o, es, ep, e, d, r⟩ => ⟨o, es, ep, base_of e (noA e d), d, r⟩
    have hKb : K.In (hidT s₁.heap H) := fun b o e => base_of (KX b o e) (by
      cases q : H b with
      | none => rfl
      | some u =>
        have e' : b = a := hA b (by rw [q]; simp)
        subst e'
        rw [hK (by rw [q]; simp)] at e; cases e)
    have hM : Mod K mg (hidT s₁.heap H) := ⟨hKb, nsK hns, ⟨mb, nsK hb, hbb⟩, let ⟨mc, h1, h2⟩ := hlim; ⟨mc, nsK h1, h2⟩⟩
    have e0 : Env0 P w K mg (hidT s₁.heap H) callerA [] s₁ H := ⟨rfl, hM, fun b o e => of_hidT e, Nat.le_of_eq (hidT_size _ _), trivial, fun b hb => absurd (show b ∈ ([] : List Addr) from hb) (by simp), hok, .of_eq hg⟩
    refine codeAny_mono ((F _ hKb (nsK hns)).run callerA [] s₁ H ⟨[.ref a], []⟩ [.ref a] [.ref a] _ _ hr e0 (hbind s₁ (.ref a)) (.cons rfl .nil) (hsp H hO hS)) fun r s' h => ?_
    cases r with
    | error e => exact (hCX H e s' h).elim
    | ok fl =>
      cases fl with
      | next => exact False.elim h
      | brk => exact False.elim h
      | cont => exact False.elim h
      | ret u =>
        obtain ⟨v, H', os, bare, un, hok', r', q⟩ := h
        have q' : v = .bl true := q
        subst q'
        obtain rfl : u = Value.bool true := r'
        refine ⟨rfl, OldK.of_keep fun b o e => ?_, os, bare⟩
        cases q : H b with
        | none => exact un.keep b o e q (by intro z; exact absurd (show b ∈ ([] : List Addr) from z) (by simp)) (by simp)
        | some u =>
          rcases hO b with z | ⟨ob, xs, z⟩
          · rw [q] at z; cases z
          · have z2 := un.frzs b ob _ z
            obtain ⟨e1, _⟩ := hok b _ z
            obtain ⟨e2, _⟩ := hok' b _ z2
            rw [e] at e1; cases e1
            exact e2
  cases hk : K.lookup a with
  | some o =>
    have e := KX a o hk
    rw [ha] at e
    cases e
    refine core (fun _ => none) (fun _ => .inl rfl) (.inr ⟨_, vs.toArray, _, hk, rfl, rfl, rfl, by rw [List.size_toArray, lenV]; exact hl, by simpa using rv⟩) (fun b u z => by have z' : (none : Option HO) = some u := z; cases z') (fun b z => absurd rfl z) fun z => absurd rfl z
  | none =>
    refine core (fun b => if b = a then some (.frz { cls := .type "list", data := .seq vs.toArray } (.lst (ns.map V.int))) else none) (fun b => ?_) (.inl (.inr ⟨{ cls := .type "list", data := .seq vs.toArray }, if_pos rfl⟩)) (fun b u z => ?_) (fun b z => ?_) fun _ => hk
    · by_cases hb : b = a
      · exact .inr ⟨_, _, if_pos hb⟩
      · exact .inl (if_neg hb)
    · by_cases hb : b = a
      · have z' := (if_pos hb).symm.trans z
        cases z'
        subst hb
        exact ⟨ha, by rw [List.length_map]; exact hl, vs, _, rv, ha⟩
      · have z' := (if_neg hb).symm.trans z
        cases z'
    · by_cases hb : b = a
      · exact hb
      · exact absurd (if_neg hb) z
end L2
namespace L2
open PySem PySem.Spec PyProof.Rows
theorem walk_of {l : PySem.W.OpenLaw} {n k : Nat} {q : Program} {loose : List Str} {XP : (Str → Option Value) → Heap → Prop} {YP : World → Heap → Prop} {d : DefRec} {K : Params → PySem.W.Frag} {CX : World → CXT} {sp : World → Sp} {x : Str}
    (hn : l.most = some n) (hn2 : n ≤ sizeLine) (hdf : d.params.defaults = []) (hr : Room k callerA)
    (hY : ∀ (w : World) (h : Heap), YP w h → (K w.params).In h)
    (F : ∀ (w : World) (mg : Str → Option Value) (fa : Addr) (h : Heap), (K w.params).In h → h.Ns mainGlobals mg → mg d.name = some (.ref fa) →
      ∃ fd : FuncData, (∀ (s : Shared) (u : Value), BindsTo s fd ⟨[u], []⟩ [(x, u)]) ∧
        ∀ base : Heap, (K w.params).In base → base.Ns mainGlobals mg → FnOk l.prog w (K w.params) mg base (CX w) k fa fd [x] (sp w))
    (hsp : ∀ (w : World) (H : Hp) (a : Addr) (ns : List Int), ns.length ≤ n → Only H → SqL (K w.params) H a (ns.map V.int) → sp w [.ref a] H (fun v _ => v = .bl true) fun _ _ _ => False)
    (hCX : ∀ (w : World) (H : Hp) (s : Shared) (e : Value) (s' : Shared), CX w [] H s (fun _ _ _ => False) e s' → False) :
    PySem.W.WalkO q loose XP YP l.row.toRowW d [] (fun f vs => PySem.call f vs) := by
  refine Att.attach_call hn hdf fun w s₀ s₁ mg mb fa o pm cd doc a vs ns G Y ho hd hcd hmg hobj hints hlen hg => ?_
  have KX := hY w _ Y
  obtain ⟨fd, hb, hF⟩ := F w mg fa _ KX G.T.g hmg
  exact law_call KX G.T.g G.T.b G.T.builtins G.T.nolimit hg hobj hints (Nat.le_trans hlen hn2) hr hF hb (fun H hO hS => hsp w H a ns hlen hO hS) fun H e s' => hCX w H s₁ e s'
end L2
namespace L2
open PySem PySem.Spec PyProof.Rows
def defArgs (s : Stmt) : Arguments := match s with
  | .FunctionDef _ a _ _ _ _ _ _ _ _ => a
  | _ => { posonlyargs := [], args := [], vararg := none, kwonlyargs := [], kw_defaults := [], kwarg := none, defaults := [] }
def defBody (s : Stmt) : List Stmt := match s with
  | .FunctionDef _ _ b _ _ _ _ _ _ _ => b
  | _ => []
def defScope (s : Stmt) : Scope := match s with
  | .FunctionDef _ _ _ _ _ _ sc _ _ _ => sc
  | _ => { kind := .function, names := [], isGenerator := false, isCoroutine := false }
abbrev CX0 : CXT := fun _ _ _ _ _ _ => False
abbrev E0 : XK := fun _ _ _ => False
theorem pass0 {X : Cx} : Passes CX0 X E0 := fun _ _ _ _ _ _ _ h => h.elim
structure Fun (K : PySem.W.Frag) (x qual : Str) (st : Stmt) (f : Addr) (fd : FuncData) : Prop where
  ex : ∃ (oc : Value) (od : Option Addr) (kV doc pm : Value) (an : Option Addr) (cdv ct : Value) (osl : Array (Option Value)),
    fd = PySem.W.fnOf x qual (defArgs st) (defBody st) (defScope st) .none kV doc pm an cdv ct ∧ K.lookup f = some ⟨oc, od, .func fd, osl⟩ ∧ PySem.W.codeIn K cdv qual = true
  kp : PySem.W.keepIn K (.ref f) = true
section
variable {P : Program} {w : World} {K : PySem.W.Frag} {mg : Str → Option Value} {base : Heap}
theorem Fun.ok {x qual : Str} {st : Stmt} {f : Addr} {fd : FuncData} {N ps : List Str} {k : Nat} {sp : Sp} (F : Fun K x qual st f fd) (S : FnScope N ps (defScope st)) (len : ∀ vs H Q E, sp vs H Q E → vs.length = ps.length)
    (hbody : ∀ (cdv : Value) (A : Around) (outer : List Env) (s : Shared) (H : Hp) (vs : List V) (Q : VK) (E : XK), Room k (A.deeper (envOfC qual (defScope st) s.heap.objs.size f cdv)) → sp vs H Q E →
      ∃ t, PSs (cxOf CX0 P w K mg base N qual (defScope st) f cdv A outer s H E).nox (defBody st) t ∧ t { nx := fun _ H' => Q .non H', rt := Q } (start N vs) H) : FnOk P w K mg base CX0 (k + 1) f fd ps sp := by
  obtain ⟨oc, od, kV, doc, pm, an, cdv, ct, osl, rfl, lk, hcd⟩ := F.ex
  refine fn_of lk hcd S len fun A outer s H vs Q E hr hsp => ?_
  obtain ⟨t, h, q⟩ := hbody cdv A outer s H vs Q E hr hsp
  exact ⟨t, h.nox, q⟩
theorem Fun.binds {x qual : Str} {st : Stmt} {f : Addr} {fd : FuncData} {ps : List Str} (F : Fun K x qual st f fd)
    (h : ∀ (kV doc pm : Value) (an : Option Addr) (cdv ct : Value) (us : List Value), us.length = ps.length → bindArgs (PySem.W.fnOf x qual (defArgs st) (defBody st) (defScope st) .none kV doc pm an cdv ct) ⟨us, []⟩ = pure (ps.zip us)) : Binds K fd ps [] := by
  obtain ⟨oc, od, kV, doc, pm, an, cdv, ct, osl, rfl, lk, hcd⟩ := F.ex
  exact .all (h kV doc pm an cdv ct)
theorem fun_mk {x qual : Str} {st : Stmt} {f : Addr} {oc : Value} {od an : Option Addr} {osl : Array (Option Value)} {kV doc pm cdv ct : Value} (l : K.lookup f = some ⟨oc, od, .func (PySem.W.fnOf x qual (defArgs st) (defBody st) (defScope st) .none kV doc pm an cdv ct), osl⟩)
    (c : PySem.W.codeIn K cdv qual = true) (k : PySem.W.keepIn K (.ref f) = true) : Fun K x qual st f (PySem.W.fnOf x qual (defArgs st) (defBody st) (defScope st) .none kV doc pm an cdv ct) := ⟨⟨oc, od, kV, doc, pm, an, cdv, ct, osl, rfl, l, c⟩, k⟩
end
theorem small1000 {n : Nat} (h : n ≤ 1000) : n < sizeLine := Nat.lt_of_le_of_lt h (by decide)
theorem iteF {A B : Prop} (h : B) : if false = true then A else B := by
  rw [if_neg Bool.false_ne_true]
  exact h
theorem iteT {A B : Prop} (h : A) : if true = true then A else B := by
  rw [if_pos rfl]
  exact h
theorem ite2 {c A B : Prop} [Decidable c] (h1 : c → A) (h2 : ¬ c → B) : if c then A else B := by
  by_cases h : c
  · rw [if_pos h]
    exact h1 h
  · rw [if_neg h]
    exact h2 h
def Same (H H' : Hp) : Prop := ∀ b o, H b = some o → H' b = some o
end L2
namespace L2
open PySem PySem.Spec PyProof.Rows
section
variable {κ : Type} [DecidableEq κ]
def valV (kvs : List (κ × V)) (k : κ) : Option V := (kvs.find? fun kv => decide (kv.1 = k)).map (·.2)
def putK (kvs : List (κ × V)) (k : κ) (v : V) : List (κ × V) :=
  if (kvs.any fun kv => decide (kv.1 = k)) = true then kvs.map (fun kv => if kv.1 = k then (kv.1, v) else kv) else kvs ++ [(k, v)]
def dropK (kvs : List (κ × V)) (k : κ) : List (κ × V) := kvs.filter fun kv => decide (kv.1 ≠ k)
theorem valV_pos {p : κ × V} {r : List (κ × V)} {k : κ} (e : p.1 = k) : valV (p :: r) k = some p.2 := by simp [valV, List.find?_cons, e]
theorem valV_neg {p : κ × V} {r : List (κ × V)} {k : κ} (e : ¬ p.1 = k) : valV (p :: r) k = valV r k := by simp [valV, List.find?_cons, e]
theorem valV_any (k : κ) : ∀ kvs : List (κ × V), (kvs.any fun kv => decide (kv.1 = k)) = (valV kvs k).isSome
  | [] => rfl
  | p :: r => by
    rw [List.any_cons]
    by_cases e : p.1 = k
    · simp only [valV_pos e, decide_eq_true e, Bool.true_or, Option.isSome_some]
    · rw [valV_neg e, decide_eq_false e, Bool.false_or]; exact valV_any k r
theorem valV_map (k j : κ) (y : V) : ∀ kvs : List (κ × V), valV (kvs.map fun kv => if kv.1 = k then (kv.1, y) else kv) j = (valV kvs j).map fun x => if j = k then y else x
  | [] => rfl
  | p :: r => by
    have ih := valV_map k j y r
    rw [List.map_cons]
    by_cases h : p.1 = k
    · rw [if_pos h]
      by_cases e : p.1 = j
      · rw [valV_pos (p := (p.1, y)) e, valV_pos e, Option.map_some, if_pos (e.symm.trans h)]
      · rw [valV_neg (p := (p.1, y)) e, valV_neg e, ih]
    · rw [if_neg h]
      by_cases e : p.1 = j
      · rw [valV_pos (p := p) e, valV_pos e, Option.map_some, if_neg (fun z => h (e.trans z))]
      · rw [valV_neg (p := p) e, valV_neg e, ih]
theorem valV_snoc (k j : κ) (y : V) : ∀ kvs : List (κ × V), valV kvs k = none → valV (kvs ++ [(k, y)]) j = if j = k then some y else valV kvs j
  | [], _ => by
    by_cases e : k = j
    · rw [if_pos e.symm]; exact valV_pos (p := (k, y)) e
    · rw [if_neg (fun z => e z.symm)]; exact valV_neg (p := (k, y)) e
  | p :: r, hn => by
    rw [List.cons_append]
    have hk : ¬ p.1 = k := fun z => by rw [valV_pos z] at hn; cases hn
    rw [valV_neg hk] at hn
    have ih := valV_snoc k j y r hn
    by_cases e : p.1 = j
    · rw [valV_pos e, valV_pos e, if_neg (fun z => hk (e.trans z))]
    · rw [valV_neg e, valV_neg e, ih]
theorem valV_put (kvs : List (κ × V)) (k j : κ) (y : V) : valV (putK kvs k y) j = if j = k then some y else valV kvs j := by
  unfold putK
  by_cases a : (kvs.any fun kv => decide (kv.1 = k)) = true
  · rw [if_pos a, valV_map]
    rw [valV_any] at a
    by_cases e : j = k
    · obtain ⟨x, hx⟩ := Option.isSome_iff_exists.mp a
      rw [if_pos e, e, hx, Option.map_some, if_pos rfl]
    · rw [if_neg e]
      cases valV kvs j with
      | none => rfl
      | some x => rw [Option.map_some, if_neg e]
  · rw [if_neg a]
    refine valV_snoc k j y kvs ?_
    rw [valV_any] at a
    cases q : valV kvs k with
    | none => rfl
    | some x => rw [q] at a; exact (a rfl).elim
theorem length_putK (kvs : List (κ × V)) (k : κ) (v : V) : (putK kvs k v).length ≤ kvs.length + 1 := by
  unfold putK
  split
  · rw [List.length_map]; omega
  · rw [List.length_append, List.length_cons, List.length_nil]; omega
theorem putK_new {kvs : List (κ × V)} {k : κ} (v : V) (h : valV kvs k = none) : putK kvs k v = kvs ++ [(k, v)] := by
  unfold putK
  rw [valV_any, h]
  exact if_neg (by decide)
theorem RelO.isSome_eq {o : Option V} {u : Option Value} (r : RelO o u) : o.isSome = u.isSome := by
  cases o with
  | none => cases u with
    | none => rfl
    | some _ => exact (show False from r).elim
  | some _ => cases u with
    | none => exact (show False from r).elim
    | some _ => rfl
theorem RelO.getD {o : Option V} {u : Option Value} {d : V} {d' : Value} (r : RelO o u) (rd : RelV d d') : RelV (o.getD d) (u.getD d') := by
  cases o with
  | none => cases u with
    | none => exact rd
    | some _ => exact (show False from r).elim
  | some _ => cases u with
    | none => exact (show False from r).elim
    | some _ => exact r
theorem KV.val {kvs : List (κ × V)} {vs : List (κ × Value)} (r : KV kvs vs) (k : κ) : RelO (valV kvs k) (valueAt vs k) := by
  unfold KV at r
  induction r with
  | nil => exact True.intro
  | @cons p q ps qs h t ih =>
    obtain ⟨h1, h2⟩ := h
    by_cases e : p.1 = k
    · have e' : q.1 = k := h1.symm.trans e
      have b : valueAt (q :: qs) k = some q.2 := by simp [valueAt, List.find?_cons, e']
      rw [valV_pos e, b]; exact h2
    · have e' : ¬ q.1 = k := fun z => e (h1.trans z)
      have b : valueAt (q :: qs) k = valueAt qs k := by simp [valueAt, List.find?_cons, e']
      rw [valV_neg e, b]; exact ih
theorem KV.any {kvs : List (κ × V)} {vs : List (κ × Value)} (r : KV kvs vs) (k : κ) : (kvs.any fun kv => decide (kv.1 = k)) = vs.any fun kv => decide (kv.1 = k) := by
  unfold KV at r
  induction r with
  | nil => rfl
  | cons h t ih => rw [List.any_cons, List.any_cons, ih, h.1]
theorem KV.repl {kvs : List (κ × V)} {vs : List (κ × Value)} (r : KV kvs vs) (k : κ) {y : V} {u : Value} (ry : RelV y u) :
    KV (kvs.map fun kv => if kv.1 = k then (kv.1, y) else kv) (vs.map fun kv => if kv.1 = k then (kv.1, u) else kv) := by
  unfold KV at r ⊢
  induction r with
  | nil => exact .nil
  | @cons p q ps qs h t ih =>
    rw [List.map_cons, List.map_cons]
    refine .cons ?_ ih
    obtain ⟨h1, h2⟩ := h
    by_cases e : p.1 = k
    · rw [if_pos e, if_pos (h1.symm.trans e)]; exact ⟨h1, ry⟩
    · rw [if_neg e, if_neg (fun z => e (h1.trans z))]; exact ⟨h1, h2⟩
theorem KV.put {kvs : List (κ × V)} {vs : List (κ × Value)} (r : KV kvs vs) (k : κ) {y : V} {u : Value} (ry : RelV y u) : KV (putK kvs k y) (stored vs k u) := by
  unfold putK stored
  rw [r.any k]
  by_cases e : (vs.any fun kv => decide (kv.1 = k)) = true
  · rw [if_pos e, if_pos e]; exact r.repl k ry
  · rw [if_neg e, if_neg e]; exact Paired.snoc r ⟨rfl, ry⟩
theorem KV.drop {kvs : List (κ × V)} {vs : List (κ × Value)} (r : KV kvs vs) (k : κ) : KV (dropK kvs k) (without vs k) := by
  unfold KV at r ⊢
  unfold dropK without
  induction r with
  | nil => exact .nil
  | @cons p q ps qs h t ih =>
    obtain ⟨h1, h2⟩ := h
    rw [List.filter_cons, List.filter_cons]
    by_cases e : p.1 = k
    · have a : ¬ decide (p.1 ≠ k) = true := by simp [e]
      have b : ¬ decide (q.1 ≠ k) = true := by simp [h1.symm.trans e]
      rw [if_neg a, if_neg b]; exact ih
    · have e' : ¬ q.1 = k := fun z => e (h1.trans z)
      have a : decide (p.1 ≠ k) = true := by simp [e]
      have b : decide (q.1 ≠ k) = true := by simp [e']
      rw [if_pos a, if_pos b]; exact .cons ⟨h1, h2⟩ ih
theorem KV.length {kvs : List (κ × V)} {vs : List (κ × Value)} (r : KV kvs vs) : kvs.length = vs.length := Paired.length r
theorem dropK_le (kvs : List (κ × V)) (k : κ) : (dropK kvs k).length ≤ kvs.length := List.length_filter_le _ _
end
theorem kV_is {P : Program} {w : World} {k : Key} {u : Value} (r : RelV (kV k) u) : (mixKind P w).is k u = true := by
  cases k with
  | inl i => obtain ⟨t, e⟩ := (show ∃ t, u = Value.int i t from r); subst e; exact mixKind_int P w i t
  | inr x => obtain ⟨t, e⟩ := (show ∃ t, u = Value.str x t from r); subst e; exact mixKind_str P w x t
theorem items_are {P : Program} {w : World} : ∀ {ks : List Key} {us : List Value}, Vals (ks.map kV) us → ItemsAre (mixKind P w) ks us
  | [], _, r => by rw [List.map_nil] at r; cases r; exact .nil
  | k :: ks, _, r => by
    rw [List.map_cons] at r
    cases r with
    | cons h t => exact .cons (kV_is h) (items_are t)
abbrev KT (H : Hp) : List (List Key × V) → List (List Key × Addr × Value) → Prop := Paired fun p q => p.1 = q.1 ∧ H q.2.1 = some (.tup (p.1.map kV)) ∧ RelV p.2 q.2.2
theorem KT.val {H : Hp} {kvs : List (List Key × V)} {xs : List (List Key × Addr × Value)} (r : KT H kvs xs) (k : List Key) : RelO (valV kvs k) ((atKey xs k).map (·.2)) := by
  induction r with
  | nil => exact True.intro
  | @cons p q ps qs h t ih =>
    obtain ⟨h1, _, h2⟩ := h
    by_cases e : p.1 = k
    · have e' : q.1 = k := h1.symm.trans e
      have b : atKey (q :: qs) k = some q.2 := by simp [atKey, List.find?_cons, e']
      rw [valV_pos e, b]; exact h2
    · have e' : ¬ q.1 = k := fun z => e (h1.trans z)
      have b : atKey (q :: qs) k = atKey qs k := by simp [atKey, List.find?_cons, e']
      rw [valV_neg e, b]; exact ih
theorem KT.repl {H : Hp} {kvs : List (List Key × V)} {xs : List (List Key × Addr × Value)} (r : KT H kvs xs) (k : List Key) {y : V} {u : Value} (ry : RelV y u) :
    KT H (kvs.map fun kv => if kv.1 = k then (kv.1, y) else kv) (xs.map (putAt k u)) := by
  induction r with
  | nil => exact .nil
  | @cons p q ps qs h t ih =>
    rw [List.map_cons, List.map_cons]
    refine .cons ?_ ih
    obtain ⟨h1, h2, h3⟩ := h
    unfold putAt
    by_cases e : p.1 = k
    · rw [if_pos e, if_pos (h1.symm.trans e)]; exact ⟨h1, h2, ry⟩
    · rw [if_neg e, if_neg (fun z => e (h1.trans z))]; exact ⟨h1, h2, h3⟩
theorem KT.put {H : Hp} {kvs : List (List Key × V)} {xs : List (List Key × Addr × Value)} (r : KT H kvs xs) (k : List Key) {b : Addr} {y : V} {u : Value} (hb : H b = some (.tup (k.map kV))) (ry : RelV y u) :
    KT H (putK kvs k y) (storedH xs k b u) := by
  have e : (kvs.any fun kv => decide (kv.1 = k)) = (atKey xs k).isSome := by
    rw [valV_any, (r.val k).isSome_eq, Option.isSome_map]
  unfold putK storedH
  rw [e]
  by_cases q : (atKey xs k).isSome = true
  · rw [if_pos q, if_pos q]; exact r.repl k ry
  · rw [if_neg q, if_neg q]; exact Paired.snoc r ⟨rfl, hb, ry⟩
theorem KT.keeps {H H' : Hp} {kvs : List (List Key × V)} {xs : List (List Key × Addr × Value)} (r : KT H kvs xs) (ht : ∀ b ys, H b = some (.tup ys) → H' b = some (.tup ys)) : KT H' kvs xs :=
  Paired.mapP r fun _ _ z => ⟨z.1, ht _ _ z.2.1, z.2.2⟩
section
variable {P : Program} {w : World} {H : Hp} {h : Heap} {a : Addr}
theorem rd_of {u : HO} (ok : HOk P w H h) (e : Rd H a u) : ObjOk P w H h a u := e.ok ok
theorem dk_rd {kvs : List (Key × V)} (ok : HOk P w H h) (e : Rd H a (.dK kvs)) : kvs.length ≤ sizeLine ∧ (a == sysModules) = false ∧ ∃ vs, KV kvs vs ∧ h.DictOf (mixKind P w) a vs :=
  show ObjOk P w H h a (.dK kvs) from rd_of ok e
theorem dk_of {kvs : List (Key × V)} (ok : HOk P w H h) (e : H a = some (.dK kvs)) : kvs.length ≤ sizeLine ∧ (a == sysModules) = false ∧ ∃ vs, KV kvs vs ∧ h.DictOf (mixKind P w) a vs := dk_rd ok (.inl e)
theorem key_of {ks : List Key} (ok : HOk P w H h) (e : H a = some (.tup (ks.map kV))) : (tupleKind (mixKind P w)).is h ks a := by
  obtain ⟨_, its, r, o, h1, h2, n, h3⟩ := (show ObjOk P w H h a (.tup (ks.map kV)) from ok a _ e)
  exact ⟨o, its.toArray, n, h1, h2, h3, by simpa using items_are r⟩
theorem dt_rd {kvs : List (List Key × V)} (ok : HOk P w H h) (e : Rd H a (.dT kvs)) : kvs.length ≤ sizeLine ∧ (a == sysModules) = false ∧
    ∃ xs, KT H kvs xs ∧ h.DictOfH (tupleKind (mixKind P w)) a xs := by
  obtain ⟨z, y, xs, r, o, es, ep, h1, h2, h3, h4, h5⟩ := (show ObjOk P w H h a (.dT kvs) from rd_of ok e)
  refine ⟨z, y, xs, r, o, es, ep, h1, h2, h3, h4, fun x hx => ?_, h5⟩
  have all : ∀ {l : List (List Key × V)} {m : List (List Key × Addr × Value)}, KT H l m → ∀ x ∈ m, (tupleKind (mixKind P w)).is h x.1 x.2.1 := by
    intro l m q
    induction q with
    | nil => intro x hx; exact nomatch hx
    | @cons p q ps qs hq t ih =>
      intro x hx
      rcases List.mem_cons.mp hx with e | hx
      · subst e
        exact key_of ok (by rw [← hq.1]; exact hq.2.1)
      · exact ih x hx
  exact all r x hx
theorem dt_of {kvs : List (List Key × V)} (ok : HOk P w H h) (e : H a = some (.dT kvs)) : kvs.length ≤ sizeLine ∧ (a == sysModules) = false ∧
    ∃ xs, KT H kvs xs ∧ h.DictOfH (tupleKind (mixKind P w)) a xs := dt_rd ok (.inl e)
end
def DGet (H : Hp) (a : Addr) (y : V) (r : Option V) : Prop :=
  (∃ kvs k, Rd H a (.dK kvs) ∧ y = kV k ∧ r = valV kvs k) ∨ ∃ kvs k b, Rd H a (.dT kvs) ∧ y = .ref b ∧ H b = some (.tup (k.map kV)) ∧ r = valV kvs k
def DPut (H : Hp) (a : Addr) (y v : V) (H' : Hp) : Prop :=
  (∃ kvs k, H a = some (.dK kvs) ∧ y = kV k ∧ kvs.length < sizeLine ∧ H' = upd H a (.dK (putK kvs k v))) ∨
  ∃ kvs k b, H a = some (.dT kvs) ∧ y = .ref b ∧ H b = some (.tup (k.map kV)) ∧ kvs.length < sizeLine ∧ H' = upd H a (.dT (putK kvs k v))
theorem DGet.k {H : Hp} {a : Addr} {kvs : List (Key × V)} {k : Key} (e : H a = some (.dK kvs)) : DGet H a (kV k) (valV kvs k) := .inl ⟨kvs, k, .inl e, rfl, rfl⟩
theorem DPut.k {H : Hp} {a : Addr} {kvs : List (Key × V)} {k : Key} {v : V} (e : H a = some (.dK kvs)) (hl : kvs.length < sizeLine) : DPut H a (kV k) v (upd H a (.dK (putK kvs k v))) := .inl ⟨kvs, k, e, rfl, hl, rfl⟩
section
variable {X : Cx} {pins : List (Addr × Obj)} {σ : St} {H : Hp} {s : Shared} {a : Addr} {y v : V} {u r : Value} {o : Option V} {A : Around} {E : Value → Shared → Prop}
theorem Inv.big (I : Inv X pins σ H s) : sysModules < s.heap.objs.size := by
  have h : mainGlobals < s.heap.objs.size := (I.mod.glob.keeps I.bk).lt
  exact Nat.lt_trans (by decide) h
theorem d_getItem {Q : Value → Shared → Prop} (hu : A.units + 1 < cLine) (I : Inv X pins σ H s) (g : DGet H a y (some v)) (ry : RelV y u) (h : ∀ w' s', Inv X pins σ H s' → RelV v w' → Q w' s') :
    wpAny (model X.prog X.w) A (getItem (.ref a) u) Q E s := by
  rcases g with ⟨kvs, k, e, ey, l⟩ | ⟨kvs, k, b, e, ey, eb, l⟩
  · subst ey
    obtain ⟨z, hd, vs, rel, dd⟩ := dk_rd I.hok e
    obtain ⟨w', hw, rw'⟩ := RelO.some_of (v := v) (o := valueAt vs k) (by rw [l]; exact rel.val k)
    exact wpAny_getItem_of (kV_is ry) dd.mapOf hw (h w' _ (I.tok _) rw')
  · subst ey
    cases (show u = Value.ref b from ry)
    obtain ⟨z, hd, xs, rel, dd⟩ := dt_rd I.hok e
    obtain ⟨w', hw, rw'⟩ := RelO.some_of (v := v) (o := (atKey xs k).map (·.2)) (by rw [l]; exact rel.val k)
    obtain ⟨p, hp, hp2⟩ := Option.map_eq_some_iff.mp hw
    refine wpAny_getItem_heap (tupleKind_room_in1 hu) (key_of I.hok eb) dd hp ?_
    rw [hp2]
    exact h w' _ (I.tok _) rw'
theorem d_write {h' : Heap} {t' : Nat} {ob : HO} (I : Inv X pins σ H s) (mu : Mut (H a)) (hs : Heap.SameBut a s.heap h') (he : ∃ q, h'.get? a = some q) (new : ObjOk X.prog X.w (upd H a ob) h' a ob) :
    Inv X pins σ (upd H a ob) { s with heap := h', toks := t' } :=
  I.write (x := a) (e := a) mu (.inl rfl) (fun b q hb z => (hs.2 b hb).trans z) he new
theorem dk_new {P : Program} {w : World} {H' : Hp} {h' : Heap} {kvs : List (Key × V)} {vs : List (Key × Value)} (z : kvs.length ≤ sizeLine) (hd : (a == sysModules) = false) (rel : KV kvs vs) (dd : h'.DictOf (mixKind P w) a vs) :
    ObjOk P w H' h' a (.dK kvs) := ⟨z, hd, vs, rel, dd⟩
end
section
variable {X : Cx} {pins : List (Addr × Obj)} {σ : St} {H : Hp} {s : Shared} {a : Addr} {kvs : List (Key × V)} {k : Key} {u : Value} {A : Around} {E : Value → Shared → Prop}
theorem d_pop {v : V} {more : List Value} {Q : Value → Shared → Prop} (I : Inv X pins σ H s) (e : H a = some (.dK kvs)) (ry : RelV (kV k) u) (l : valV kvs k = some v) (hm : more = [] ∨ ∃ x, more = [x])
    (h : ∀ w' s', Inv X pins σ (upd H a (.dK (dropK kvs k))) s' → RelV v w' → Q w' s') : wpAny (model X.prog X.w) A (call (.builtin "dict.pop") (.ref a :: u :: more)) Q E s := by
  obtain ⟨z, hd, vs, rel, dd⟩ := dk_of I.hok e
  obtain ⟨w', hw, rw'⟩ := RelO.some_of (v := v) (o := valueAt vs k) (by rw [← l]; exact rel.val k)
  have hp : (keyPart u).isSome = true := by
    cases k with
    | inl i => obtain ⟨t, q⟩ := (show ∃ t, u = Value.int i t from ry); subst q; rfl
    | inr x => obtain ⟨t, q⟩ := (show ∃ t, u = Value.str x t from ry); subst q; rfl
  have ha : argsOk "dict.pop" ⟨.ref a :: u :: more, []⟩ := by
    rcases hm with q | ⟨x, q⟩
    · subst q; exact PySem.F.args_dict_pop_2 _ _
    · subst q; exact PySem.F.args_dict_pop_3 _ _ _
  refine call_meetsIn PySem.F.slot_dict_pop dd.typeIs PySem.F.entry_dict_pop ha (meets_dict_pop_there (mixKind X.prog X.w) a (kV_is ry) more hm hp)
    ⟨vs, w', dd, by rw [← rel.length]; exact z, hw, fun h' dd' hs => h w' _ ?_ rw'⟩
  have he : ∃ q, h'.get? a = some q := let ⟨q, _, _, hq, _⟩ := dd'; ⟨q, hq⟩
  exact d_write I (by rw [e]; exact True.intro) hs he (dk_new (Nat.le_trans (dropK_le kvs k) z) hd (rel.drop k) dd')
end
def NoSl (i : Expr) : Prop := ∀ ov iv, subscripted i false ov iv = operate [ov, iv] (getItem ov iv)
theorem subD_of {prog : Program} {w : World} {A : Around} {E : Value → Shared → Prop} {s : Shared} {env : Env} {value slice : Expr} {pos : Pos} {T id : String} {Q : Value → Shared → Prop}
    (hl : typeLookup (.type T) "__getitem__" = pure (some (.builtin id))) (hs : NoSl slice)
    (h : wpAny (model prog w) A (eval value env) (fun o s₁ => wpAny (model prog w) A (eval slice env) (fun i s₂ => s₂.TypeIs o T ∧ wpAny (model prog w) A (getItem o i) Q E s₂) E s₁) E s) :
    wpAny (model prog w) A (eval (.Subscript value slice pos) env) Q E s := by
  refine Subscript_ (wpAny_mono h (fun o s₁ h₁ => wpAny_mono h₁ (fun i s₂ h₂ => ?_) fun _ _ x => x) fun _ _ x => x)
  obtain ⟨hT, h₂⟩ := h₂
  unfold subscriptTail
  refine wpAny_bind ?_
  rw [getitemInPython_of_ne hT.not_modules]
  refine wpAny_bind (wpAny_specialOf hT hl ?_)
  have fin : wpAny (model prog w) A (subscripted slice false o i) (fun r s₃ => wpAny (model prog w) A (letTemporaryGo value o r >>= fun _ => pure r) Q E s₃) E s₂ := by
    rw [hs o i]
    exact wpAny_operating (wpAny_mono h₂ (fun r s₃ h₃ => wpAny_bind (wpAny_letTemporaryGo (wpAny_pure h₃))) fun _ _ x => x)
  first
    | exact wpAny_pure (wpAny_bind fin)
    | exact wpAny_bind (wpAny_pure (wpAny_bind fin))
    | exact wpAny_bind fin
theorem dict_typeIs {X : Cx} {pins : List (Addr × Obj)} {σ : St} {H : Hp} {s : Shared} {a : Addr} {y : V} {o : Option V} (I : Inv X pins σ H s) (g : DGet H a y o) : s.TypeIs (.ref a) "dict" := by
  rcases g with ⟨kvs, k, e, _, _⟩ | ⟨kvs, k, b, e, _, _, _⟩
  · obtain ⟨_, _, vs, _, dd⟩ := dk_rd I.hok e
    exact dd.typeIs
  · obtain ⟨_, _, xs, _, dd⟩ := dt_rd I.hok e
    exact dd.typeIs
def tDGet (td ty : TE) : TE := fun σ H Q => td σ H fun x H1 => ty σ H1 fun y H2 => ∃ a v, x = .ref a ∧ DGet H2 a y (some v) ∧ Q v H2
section
variable {X : Cx} {o i e value : Expr} {pos pos' tpos : Pos} {td ty tv : TE}
theorem pe_dget (hu : X.A.units + 1 < cLine) (ho : PE X o td) (hi : PE X i ty) (hs : NoSl i) : PE X (.Subscript o i pos) (tDGet td ty) := by
  intro pins s σ H Q I h
  refine subD_of PySem.F.slot_dict_getitem.lookup hs (thn (ho pins s σ H _ I h) fun u s1 ⟨x, H1, I1, rx, q1⟩ => thn (hi pins s1 σ H1 _ I1 q1) fun iv s2 ⟨y, H2, I2, ry, a, v, ex, g, q2⟩ => ?_)
  subst ex
  obtain rfl : u = Value.ref a := rx
  exact ⟨dict_typeIs I2 g, d_getItem hu I2 g ry fun w' s3 I3 rw' => ⟨v, H2, I3, rw', q2⟩⟩
end
theorem dk_empty {P : Program} {w : World} {H : Hp} (h : Heap) (hb : sysModules < h.objs.size) : ObjOk P w H (h.push { cls := .type "dict", data := .dict #[] }) h.objs.size (.dK []) :=
  ⟨Nat.zero_le _, beq_eq_false_iff_ne.mpr (Ne.symm (Nat.ne_of_lt hb)), [], .nil, Heap.DictOf.new h⟩
def tPairs : List (TE × TE) → St → Hp → (List (V × V) → Hp → Prop) → Prop
  | [], _, H, Q => Q [] H
  | (tk, tv) :: r, σ, H, Q => tk σ H fun x H1 => tv σ H1 fun y H2 => tPairs r σ H2 fun ps H3 => Q ((x, y) :: ps) H3
abbrev VV : List (V × V) → List (Value × Value) → Prop := Paired fun p q => RelV p.1 q.1 ∧ RelV p.2 q.2
def PPs (X : Cx) (pos : Pos) (keys : List (Option Expr)) (values : List Expr) (trs : List (TE × TE)) : Prop :=
  ∀ (pins : List (Addr × Obj)) (s : Shared) (σ : St) (H : Hp) (Q : List (V × V) → Hp → Prop), Inv X pins σ H s → tPairs trs σ H Q →
    wpAny (model X.prog X.w) X.A (evalPairs (pairTrees keys values X.env pos)) (fun vs s' => ∃ ps H', Inv X pins σ H' s' ∧ VV ps vs ∧ Q ps H') X.xe s
theorem pps_nil {X : Cx} {pos : Pos} : PPs X pos [] [] [] := fun pins s σ H Q I h => pairTrees_nil_walk ⟨[], H, I, .nil, h⟩
theorem pps_cons {X : Cx} {pos : Pos} {k v : Expr} {ks : List (Option Expr)} {vs : List Expr} {tk tv : TE} {trs : List (TE × TE)} (hk : PE X k tk) (hv : PE X v tv) (hr : PPs X pos ks vs trs) :
    PPs X pos (some k :: ks) (v :: vs) ((tk, tv) :: trs) := fun pins s σ H Q I h =>
  pairTrees_cons_walk (thn (hk pins s σ H _ I h) fun u s1 ⟨x, H1, I1, rx, q1⟩ => thn (hv pins s1 σ H1 _ I1 q1) fun w2 s2 ⟨y, H2, I2, ry, q2⟩ =>
    thn (hr pins s2 σ H2 _ I2 q2) fun ws s3 ⟨ps, H3, I3, rel, q3⟩ => ⟨(x, y) :: ps, H3, I3, .cons ⟨rx, ry⟩ rel, q3⟩)
def mergeK (kvs more : List (Key × V)) : List (Key × V) := more.foldl (fun acc kv => putK acc kv.1 kv.2) kvs
theorem KV.merge : ∀ {more : List (Key × V)} {rs : List (Key × Value)} {kvs : List (Key × V)} {vs : List (Key × Value)}, KV more rs → KV kvs vs → KV (mergeK kvs more) (merged vs rs) := by
  intro more rs kvs vs r
  unfold KV at r
  induction r generalizing kvs vs with
  | nil => intro q; exact q
  | @cons p q ps qs h t ih =>
    intro r0
    have e : KV (putK kvs p.1 p.2) (stored vs q.1 q.2) := by
      have := r0.put p.1 h.2
      rw [← h.1]; exact this
    exact ih e
theorem length_mergeK : ∀ (more kvs : List (Key × V)), (mergeK kvs more).length ≤ kvs.length + more.length
  | [], kvs => by show kvs.length ≤ kvs.length + 0; omega
  | p :: r, kvs => by
    have h1 := length_mergeK r (putK kvs p.1 p.2)
    have h2 := length_putK kvs p.1 p.2
    show (mergeK (putK kvs p.1 p.2) r).length ≤ _
    rw [List.length_cons]; omega
theorem carries_of {P : Program} {w : World} : ∀ {kvs : List (Key × V)} {ws : List (Value × Value)}, VV (kvs.map fun kv => (kV kv.1, kv.2)) ws → ∃ rs, Carries (mixKind P w) ws rs ∧ KV kvs rs
  | [], _, r => by rw [List.map_nil] at r; cases r; exact ⟨[], True.intro, .nil⟩
  | p :: kvs, _, r => by
    rw [List.map_cons] at r
    cases r with
    | @cons a b as bs h t =>
      obtain ⟨rs, c, q⟩ := carries_of (P := P) (w := w) t
      obtain ⟨b1, b2⟩ := b
      exact ⟨(p.1, b2) :: rs, ⟨kV_is h.1, rfl, c⟩, .cons ⟨rfl, h.2⟩ q⟩
def tDisp (trs : List (TE × TE)) : TE := fun σ H Q => ∀ p, H p = none → tPairs trs σ (upd H p (.dK [])) fun ps H2 => H2 p = some (.dK []) ∧ ∃ kvs : List (Key × V), ps = kvs.map (fun kv => (kV kv.1, kv.2)) ∧ kvs.length ≤ 15 ∧ Q (.ref p) (upd H2 p (.dK (mergeK [] kvs)))
theorem pe_disp {X : Cx} {pos : Pos} {keys : List (Option Expr)} {values : List Expr} {trs : List (TE × TE)} (h : PPs X pos keys values trs) (hall : keys.all (·.isSome) = true) (hl : keys.length = values.length) (h0 : keys ≠ [])
    (h15 : keys.length ≤ 15) : PE X (.Dict keys values pos) (tDisp trs) := by
  intro pins s σ H Q I q
  have hn := I.hok.fresh (Nat.le_refl s.heap.objs.size)
  have I1 := I.laid (a := s.heap.objs.size) (o := .dK []) (h' := s.heap.push { cls := .type "dict", data := .dict #[] }) (t' := s.toks) (fun _ _ q => Heap.get?_push_of_some _ q) (Nat.le_refl _) (dk_empty s.heap I.big)
  refine wpAny_Dict_walk (knd := mixKind X.prog X.w) hall hl h0 h15 (thn (h pins _ σ _ _ I1 (q _ hn)) fun ws s2 ⟨ps, H2, I2, rel, e, kvs, ep, lk, q2⟩ => ?_)
  subst ep
  obtain ⟨rs, c, rk⟩ := carries_of (P := X.prog) (w := X.w) rel
  obtain ⟨z, hd, vs0, r0, dd⟩ := dk_of I2.hok e
  cases r0
  refine ⟨rs, c, dd, fun h' dd' hs => ⟨.ref s.heap.objs.size, _, ?_, rfl, q2⟩⟩
  have hz : (mergeK [] kvs).length ≤ sizeLine := by
    have h1 := length_mergeK kvs []
    rw [List.length_nil] at h1
    rw [sizeLine_eq]; omega
  have he : ∃ q, h'.get? s.heap.objs.size = some q := let ⟨q, _, _, hq, _⟩ := dd'; ⟨q, hq⟩
  exact d_write I2 (by rw [e]; exact True.intro) hs he (dk_new hz hd (rk.merge .nil) dd')
structure M1 (X : Cx) (o : Expr) (m : Str) (apos : Pos) (e : Expr) (cpos : Pos) : Prop where
  base : attributeBase o m X.env (eval o X.env) = eval o X.env
  few : ((backTo cpos (starEach [e] X.env)).all (fun x => !x.1) && (backToKw cpos (keywordEach [] X.env)).all (fun x => x.1.isSome)
    && decide (([e] : List Expr).length + ([] : List Keyword).length + (if ([] : List Keyword).isEmpty then 0 else 1) < 30)) = true
  line : (apos.endLine == cpos.line) = true
  trees : backTo cpos (starEach [e] X.env) = [(false, eval e X.env)]
structure M2 (X : Cx) (o : Expr) (m : Str) (apos : Pos) (e f : Expr) (cpos : Pos) : Prop where
  base : attributeBase o m X.env (eval o X.env) = eval o X.env
  few : ((backTo cpos (starEach [e, f] X.env)).all (fun x => !x.1) && (backToKw cpos (keywordEach [] X.env)).all (fun x => x.1.isSome)
    && decide (([e, f] : List Expr).length + ([] : List Keyword).length + (if ([] : List Keyword).isEmpty then 0 else 1) < 30)) = true
  line : (apos.endLine == cpos.line) = true
  trees : backTo cpos (starEach [e, f] X.env) = [(false, eval e X.env), (false, eval f X.env)]
def IsD (H : Hp) (a : Addr) : Prop := (∃ kvs, Rd H a (.dK kvs)) ∨ ∃ kvs, Rd H a (.dT kvs)
theorem isD_at {X : Cx} {pins : List (Addr × Obj)} {σ : St} {H : Hp} {s : Shared} {a : Addr} (I : Inv X pins σ H s) (d : IsD H a) :
    s.TypeIs (.ref a) "dict" ∧ (∀ b, Value.ref a = .ref b → ∃ ob, s.heap.get? b = some ob ∧ ob.dict = none) ∧ (a == sysModules) = false := by
  rcases d with ⟨kvs, e⟩ | ⟨kvs, e⟩
  · obtain ⟨_, hd, vs, _, dd⟩ := dk_rd I.hok e
    refine ⟨dd.typeIs, fun b q => ?_, hd⟩
    cases q
    obtain ⟨ob, _, _, h1, h2, _⟩ := dd
    exact ⟨ob, h1, h2.2.1⟩
  · obtain ⟨_, hd, xs, _, dd⟩ := dt_rd I.hok e
    refine ⟨dd.typeIs, fun b q => ?_, hd⟩
    cases q
    obtain ⟨ob, _, _, h1, h2, _⟩ := dd
    exact ⟨ob, h1, h2.2.1⟩
section
variable {X : Cx} {pins : List (Addr × Obj)} {σ : St} {H : Hp} {s : Shared} {a : Addr} {y d : V} {u r : Value} {o : Option V} {A : Around} {E : Value → Shared → Prop}
theorem d_get2 {Q : Value → Shared → Prop} (hu : A.units + 1 < cLine) (I : Inv X pins σ H s) (g : DGet H a y o) (ry : RelV y u) (rd : RelV d r) (h : ∀ w' s', Inv X pins σ H s' → RelV (o.getD d) w' → Q w' s') :
    wpAny (model X.prog X.w) A (call (.builtin "dict.get") [.ref a, u, r]) Q E s := by
  rcases g with ⟨kvs, k, e, ey, l⟩ | ⟨kvs, k, b, e, ey, eb, l⟩
  · subst ey
    obtain ⟨z, hd, vs, rel, dd⟩ := dk_rd I.hok e
    refine call_meetsIn PySem.F.slot_dict_get dd.typeIs PySem.F.entry_dict_get (PySem.F.args_dict_get_3 _ _ _) (meets_dict_get_default (mixKind X.prog X.w) a (kV_is ry) hd r) ⟨_, dd.mapOf, h _ _ (I.tok _) ?_⟩
    rw [l]
    exact (rel.val k).getD rd
  · subst ey
    cases (show u = Value.ref b from ry)
    obtain ⟨z, hd, xs, rel, dd⟩ := dt_rd I.hok e
    refine call_meetsIn PySem.F.slot_dict_get dd.typeIs PySem.F.entry_dict_get (PySem.F.args_dict_get_3 _ _ _) (meetsH_dict_get_default (tupleKind (mixKind X.prog X.w)) a b hd r) ⟨tupleKind_room_in1 hu, k, xs, key_of I.hok eb, dd, h _ _ (I.tok _) ?_⟩
    rw [l]
    exact (rel.val k).getD rd
end
def tDGet2 (td ty tx : TE) : TE := fun σ H Q => td σ H fun x H1 => ∃ a, x = .ref a ∧ IsD H1 a ∧ ty σ H1 fun y H2 => tx σ H2 fun z H3 => ∃ o, DGet H3 a y o ∧ Q (o.getD z) H3
def tDPop1 (td ty : TE) : TE := fun σ H Q => td σ H fun x H1 => ∃ a, x = .ref a ∧ IsD H1 a ∧ ty σ H1 fun y H2 => ∃ kvs k v, H2 a = some (.dK kvs) ∧ y = kV k ∧ valV kvs k = some v ∧ Q v (upd H2 a (.dK (dropK kvs k)))
section
variable {X : Cx} {o e f : Expr} {apos cpos : Pos} {td ty tx : TE}
theorem pe_dget2 (hu : X.A.units + 1 < cLine) (ho : PE X o td) (he : PE X e ty) (hf : PE X f tx) (m : M2 X o "get" apos e f cpos) : PE X (.Call (.Attribute o "get" apos) [e, f] [] cpos) (tDGet2 td ty tx) := by
  intro pins s σ H Q I h
  refine wpAny_Call_method m.base m.few m.line PySem.F.plainAttrs_dict PySem.F.slot_dict_get PySem.F.type_dict_get (thn (ho pins s σ H _ I h) fun u s1 ⟨x, H1, I1, rx, a, ex, d, q1⟩ => ?_)
  subst ex
  obtain rfl : u = Value.ref a := rx
  obtain ⟨t1, t2, _⟩ := isD_at I1 d
  refine ⟨t1, t2, ?_⟩
  rw [m.trees]
  refine Calls.callWith_builtin rfl (Calls.evalArgs_plain (Calls.spliced_cons (thn (he pins s1 σ H1 _ I1 q1) fun iv s2 ⟨y, H2, I2, ry, q2⟩ =>
    Calls.spliced_cons (thn (hf pins s2 σ H2 _ I2 q2) fun fv s3 ⟨z, H3, I3, rz, ov, g, q3⟩ => Calls.spliced_nil ?_))))
  exact d_get2 hu I3 g ry rz fun w' s4 I4 rw' => ⟨_, H3, I4, rw', q3⟩
theorem pe_dpop1 (ho : PE X o td) (he : PE X e ty) (m : M1 X o "pop" apos e cpos) : PE X (.Call (.Attribute o "pop" apos) [e] [] cpos) (tDPop1 td ty) := by
  intro pins s σ H Q I h
  refine wpAny_Call_method m.base m.few m.line PySem.F.plainAttrs_dict PySem.F.slot_dict_pop PySem.F.type_dict_pop (thn (ho pins s σ H _ I h) fun u s1 ⟨x, H1, I1, rx, a, ex, d, q1⟩ => ?_)
  subst ex
  obtain rfl : u = Value.ref a := rx
  obtain ⟨t1, t2, _⟩ := isD_at I1 d
  refine ⟨t1, t2, ?_⟩
  rw [m.trees]
  refine Calls.callWith_builtin rfl (Calls.evalArgs_plain (Calls.spliced_cons (thn (he pins s1 σ H1 _ I1 q1) fun iv s2 ⟨y, H2, I2, ry, kvs, k, v, ea, ey, l, q2⟩ => Calls.spliced_nil ?_)))
  subst ey
  exact d_pop I2 ea ry l (.inl rfl) fun w' s3 I3 rw' => ⟨v, _, I3, rw', q2⟩
end
end L2
namespace L2
open PySem PySem.Spec PyProof.Rows
section
variable {κ : Type} [DecidableEq κ]
theorem valV_not {kvs : List (κ × V)} {k : κ} (h : valV kvs k = none) : ¬ k ∈ kvs.map (·.1) := by
  intro m
  obtain ⟨p, hp, e⟩ := List.mem_map.mp m
  have q : (kvs.any fun kv => decide (kv.1 = k)) = true := List.any_eq_true.mpr ⟨p, hp, decide_eq_true e⟩
  rw [valV_any, h] at q
  exact absurd q (by simp)
theorem valV_in {kvs : List (κ × V)} {k : κ} {v : V} (h : valV kvs k = some v) : k ∈ kvs.map (·.1) := by
  have q : (kvs.any fun kv => decide (kv.1 = k)) = true := by
    rw [valV_any, h]
    all_goals rfl
  obtain ⟨p, hp, e⟩ := List.any_eq_true.mp q
  exact List.mem_map.mpr ⟨p, hp, of_decide_eq_true e⟩
theorem nd_snoc : ∀ {l : List κ} {k : κ}, l.Nodup → ¬ k ∈ l → (l ++ [k]).Nodup
  | [], k, _, _ => by simp
  | a :: r, k, h, hk => by
    obtain ⟨h1, h2⟩ := List.nodup_cons.mp h
    show (a :: (r ++ [k])).Nodup
    refine List.nodup_cons.mpr ⟨fun m => ?_, nd_snoc h2 fun m => hk (List.mem_cons.mpr (Or.inr m))⟩
    rcases List.mem_append.mp m with q | q
    · exact h1 q
    · exact hk (List.mem_cons.mpr (Or.inl (List.mem_singleton.mp q).symm))
theorem nd_putK {kvs : List (κ × V)} {k : κ} (v : V) (hn : (kvs.map (·.1)).Nodup) (h : valV kvs k = none) : ((putK kvs k v).map (·.1)).Nodup := by
  rw [putK_new v h, List.map_append]
  exact nd_snoc hn (valV_not h)
end
end L2
namespace L2
open PySem PySem.Spec PyProof.Rows
def clOf (scope : Scope) (env : Env) : List (Str × Addr) :=
  (scope.names.filterMap fun (p : Str × NameKind) => if p.2 == .free then (env.cells.lookup p.1).map fun c => (p.1, c) else none).reverse
theorem closure_go (env : Env) : ∀ (l : List (Str × NameKind)) (acc : List (Str × Addr)), (∀ p ∈ l, p.2 = .free → ∃ c, env.cells.lookup p.1 = some c) →
    (forIn l acc fun (x : Str × NameKind) (r : List (Str × Addr)) => if (x.2 == NameKind.free) = true then do let c ← cellOf env x.1; pure (ForInStep.yield ((x.1, c) :: r)) else pure (ForInStep.yield r) : Sem (List (Str × Addr))) =
      pure ((l.filterMap fun (p : Str × NameKind) => if p.2 == .free then (env.cells.lookup p.1).map fun c => (p.1, c) else none).reverse ++ acc)
  | [], acc, _ => rfl
  | p :: l, acc, h => by
    have ih := fun acc => closure_go env l acc fun q hq => h q (List.mem_cons_of_mem _ hq)
    rw [List.forIn_cons]
    by_cases hp : p.2 = .free
    · obtain ⟨c, hc⟩ := h p List.mem_cons_self hp
      have e : (p.2 == NameKind.free) = true := by rw [hp]; rfl
      rw [if_pos e]
      have ec : cellOf env p.1 = pure c := by unfold cellOf; rw [hc]
      rw [ec, List.filterMap_cons, if_pos e, hc]
      show (forIn l ((p.1, c) :: acc) _ : Sem _) = _
      rw [ih]
      simp
    · have e : ¬ (p.2 == NameKind.free) = true := by intro z; exact hp (by simpa using z)
      rw [if_neg e, List.filterMap_cons, if_neg e]
      show (forIn l acc _ : Sem _) = _
      rw [ih]
theorem closure_of {scope : Scope} {env : Env} (h : ∀ p ∈ scope.names, p.2 = .free → ∃ c, env.cells.lookup p.1 = some c) : closureFor scope env = pure (clOf scope env) := by
  have e := closure_go env scope.names [] h
  rw [List.append_nil] at e
  show ((forIn scope.names [] fun (x : Str × NameKind) (r : List (Str × Addr)) => if (x.2 == NameKind.free) = true then do let c ← cellOf env x.1; pure (ForInStep.yield ((x.1, c) :: r)) else pure (ForInStep.yield r)) >>= fun cs => pure cs : Sem (List (Str × Addr))) = _
  rw [e]
  rfl
theorem cl_mem {scope : Scope} {env : Env} {x : Str} {c : Addr} (h : (x, c) ∈ clOf scope env) : (x, NameKind.free) ∈ scope.names ∧ env.cells.lookup x = some c := by
  unfold clOf at h
  obtain ⟨p, hp, e⟩ := List.mem_filterMap.mp (List.mem_reverse.mp h)
  obtain ⟨n, k⟩ := p
  dsimp only at e
  by_cases hk : (k == NameKind.free) = true
  · rw [if_pos hk] at e
    have hk' : k = .free := by simpa using hk
    subst hk'
    cases q : env.cells.lookup n with
    | none => rw [q] at e; cases e
    | some c' => rw [q] at e; cases e; exact ⟨hp, q⟩
  · rw [if_neg hk] at e; cases e
theorem cl_lookup {scope : Scope} {env : Env} {x : Str} {c : Addr} (hm : (x, NameKind.free) ∈ scope.names) (hc : env.cells.lookup x = some c) : (clOf scope env).lookup x = some c := by
  have hin : (x, c) ∈ clOf scope env := by
    unfold clOf
    refine List.mem_reverse.mpr (List.mem_filterMap.mpr ⟨(x, .free), hm, ?_⟩)
    simp [hc]
  cases q : (clOf scope env).lookup x with
  | none =>
    have := List.lookup_eq_none_iff.mp q (x, c) hin
    simp at this
  | some c' =>
    obtain ⟨_, e⟩ := cl_mem (PySem.mem_of_lookup q)
    rw [hc] at e
    exact e.symm
structure CompScope (sc : Scope) (env : Scope) : Prop where
  kind : sc.kind = .function
  cell : ∀ y ∈ sc.names, y.2 ≠ .cell
  names : ∀ x ∈ sc.names, x.2 = .local → sc.names.lookup x.1 = some .local
  free : ∀ x ∈ sc.names, x.2 = .free → env.names.lookup x.1 = some .cell ∨ env.names.lookup x.1 = some .free
def capsOk (sc : Scope) (src : List (Option Nat)) (N' N : List Str) : Bool :=
  src.length == N'.length && (src.zip N').all fun p => match p.1 with
    | none => true
    | some j => N[j]? == some p.2 && sc.names.lookup p.2 == some .free
def capσ (src : List (Option Nat)) (σ : St) : St := src.map fun o => match o with
  | none => none
  | some j => match σ[j]? with
    | some v => v
    | none => none
theorem caps_at {sc : Scope} {N N' : List Str} {src : List (Option Nat)} (h : capsOk sc src N' N = true) {i : Nat} {x : Str} {j : Nat} (h1 : src[i]? = some (some j)) (h2 : N'[i]? = some x) : N[j]? = some x ∧ sc.names.lookup x = some .free := by
  unfold capsOk at h
  have h' := (Bool.and_eq_true _ _ ▸ h).2
  have hz : (src.zip N')[i]? = some (some j, x) := by rw [List.getElem?_zip_eq_some]; exact ⟨h1, h2⟩
  have q := List.all_eq_true.mp h' _ (List.mem_of_getElem? hz)
  simpa using q
theorem caps_len {sc : Scope} {N N' : List Str} {src : List (Option Nat)} (h : capsOk sc src N' N = true) : src.length = N'.length := by
  unfold capsOk at h
  have h' := (Bool.and_eq_true _ _ ▸ h).1
  simpa using h'
def cxC (X : Cx) (N' : List Str) (sc : Scope) (s : Shared) (H : Hp) (C : Addr) (fp : List Addr) (xe : Value → Shared → Prop) : Cx where
  prog := X.prog
  w := X.w
  K := X.K
  mg := X.mg
  base := X.base
  A := X.A
  N := N'
  s₀ := s
  H₀ := H
  env := compEnvC sc (clOf sc X.env) C X.env
  outer := X.stack
  stack := X.stack
  ex := fp
  fn := fun _ => false
  calm := X.calm
  pn := []
  xe := xe
theorem relabel_lookup {sc : Scope} {env : Env} {x : Str} : ∀ {names : List (Str × NameKind)},
    (names.map fun (p : Str × NameKind) => if (p.2 == NameKind.free && env.scope.kind == .function && env.kindOf p.1 == some .cell) then (p.1, NameKind.cell) else (p.1, p.2)).lookup x =
      (names.lookup x).map fun k => if (k == NameKind.free && env.scope.kind == .function && env.kindOf x == some .cell) then NameKind.cell else k
  | [] => rfl
  | (n, k) :: r => by
    have ih := @relabel_lookup sc env x r
    rw [List.map_cons]
    cases hx : x == n with
    | true =>
      have e : x = n := by simpa using hx
      subst e
      by_cases hc : (k == NameKind.free && env.scope.kind == .function && env.kindOf x == some .cell) = true
      · simp only [hc, if_true, List.lookup_cons, hx, Option.map_some]
      · simp only [hc, if_false, List.lookup_cons, hx, Option.map_some, Bool.false_eq_true]
    | false =>
      by_cases hc : (k == NameKind.free && env.scope.kind == .function && env.kindOf n == some .cell) = true
      · simp only [hc, if_true, List.lookup_cons, hx]; exact ih
      · simp only [hc, if_false, List.lookup_cons, hx, Bool.false_eq_true]; exact ih
theorem comp_kind {sc : Scope} {env : Env} {cl : List (Str × Addr)} {C : Addr} (x : Str) : (compEnvC sc cl C env).kindOf x =
    (sc.names.lookup x).map fun k => if (k == NameKind.free && env.scope.kind == .function && env.kindOf x == some .cell) then NameKind.cell else k :=
  relabel_lookup (sc := sc) (env := env)
section
variable {X : Cx} {pins : List (Addr × Obj)} {σ : St} {H : Hp} {s : Shared} {N' : List Str} {sc : Scope} {src : List (Option Nat)} {fp : List Addr} {xe : Value → Shared → Prop}
theorem comp_enter (I : Inv X pins σ H s) (S : CompScope sc X.env.scope) (hc : capsOk sc src N' X.N = true) (hf : ∀ b ∈ fp, FpOk X pins H b) (ho : ∀ b ∈ fp, ∃ o, s.heap.get? b = some o) {h₁ : Heap} {tk : Nat}
    (hn : h₁.Ns s.heap.objs.size (fun _ => none)) (hk : ∀ b o, s.heap.get? b = some o → h₁.get? b = some o) :
    Inv (cxC X N' sc s H s.heap.objs.size fp xe) [] (capσ src σ) H { s with heap := h₁, toks := tk } := by
  have cellmem : ∀ x c, (clOf sc X.env).lookup x = some c → X.env.cells.lookup x = some c := fun x c e => (cl_mem (PySem.mem_of_lookup e)).2
  have isfree : ∀ x, ((compEnvC sc (clOf sc X.env) s.heap.objs.size X.env).kindOf x = some .cell ∨ (compEnvC sc (clOf sc X.env) s.heap.objs.size X.env).kindOf x = some .free) → (x, NameKind.free) ∈ sc.names := fun x hx => by
    rw [comp_kind] at hx
    cases q : sc.names.lookup x with
    | none => rw [q] at hx; simp at hx
    | some k =>
      have hm := PySem.mem_of_lookup q
      by_cases hkf : k = .free
      · subst hkf; exact hm
      · have : (k == NameKind.free) = false := by simpa using hkf
        have e2 : (k == NameKind.free && X.env.scope.kind == .function && X.env.kindOf x == some .cell) = false := by rw [this]; rfl
        rw [q, Option.map_some, e2] at hx
        have hx' : (some k : Option NameKind) = some .cell ∨ (some k : Option NameKind) = some .free := hx
        rcases hx' with hx | hx
        · exact absurd (Option.some.inj hx) (S.cell _ hm)
        · exact absurd (Option.some.inj hx) hkf
  have has : ∀ x, (x, NameKind.free) ∈ sc.names → ∃ c, X.env.cells.lookup x = some c := fun x hm => I.ok.has x (S.free _ hm rfl)
  refine ⟨⟨I.ok.mod, S.kind, I.ok.glob, I.ok.blt, Nat.le_refl _, fun x y c h1 h2 => I.ok.inj x y c (cellmem x c h1) (cellmem y c h2), fun x hx => ?_, fun x c hfn _ => ?_, I.ok.hd, I.ok.frames, .inl rfl, fun b hb => ⟨?_, fun x c e => ?_⟩, I.bs, Nat.le_trans I.ok.bsz I.sz, fun b o e hb => ?_, fun b hb hs => ?_, I.stack, I.stkFree⟩,
    rfl, I.bare, Un.kept hk, ⟨_, hn, fun i x v h1 h2 h3 => ?_⟩, fun x c e => ?_, I.hok.fresh (Nat.le_refl _), fun x c e => I.freeC x c (cellmem x c e), fun p hp => absurd (show p ∈ ([] : List (Addr × Obj)) from hp) (by simp), I.hok.kept hk, ?_⟩
  · obtain ⟨c, e⟩ := has x (isfree x hx)
    exact ⟨c, cl_lookup (isfree x hx) e⟩
  · exact absurd (show false = true from hfn) (by simp)
  · obtain ⟨o, e⟩ := ho b hb
    exact Nat.ne_of_lt (Heap.lt_size e)
  · exact (hf b hb).2.2.2.2.1 x c (cellmem x c e)
  · rcases (hf b hb).2.2.2.1 with z | z
    · exact I.ok.noex b o e z
    · exact absurd (Nat.lt_of_lt_of_le (Heap.lt_size e) (Nat.le_trans I.ok.bsz z)) (Nat.lt_irrefl _)
  · rcases List.mem_cons.mp (I.stkSub b hs) with z | z
    · exact (hf b hb).2.1 z
    · exact (hf b hb).2.2.1 z
  · -- a captured name
    have h2' : (capσ src σ)[i]? = some (some v) := h2
    unfold capσ at h2'
    rw [List.getElem?_map] at h2'
    cases q : src[i]? with
    | none => rw [q] at h2'; cases h2'
    | some o =>
      rw [q] at h2'
      cases o with
      | none => simp at h2'
      | some j =>
        obtain ⟨hj, hfr⟩ := caps_at hc q h1
        have hσ : σ[j]? = some (some v) := by
          simp only [Option.map_some, Option.some.injEq] at h2'
          cases r : σ[j]? with
          | none => rw [r] at h2'; cases h2'
          | some w => rw [r] at h2'; rw [← h2']
        have hm := PySem.mem_of_lookup hfr
        have hout := S.free _ hm rfl
        obtain ⟨m, _, hl⟩ := I.loc
        obtain ⟨u, ru, lk⟩ := hl j x v hj hσ (Or.inr hout)
        refine ⟨u, ru, .inr ⟨?_, ?_⟩⟩
        · show (compEnvC sc (clOf sc X.env) s.heap.objs.size X.env).kindOf x = some .cell ∨ (compEnvC sc (clOf sc X.env) s.heap.objs.size X.env).kindOf x = some .free
          rw [comp_kind, hfr]
          by_cases z : (NameKind.free == NameKind.free && X.env.scope.kind == .function && X.env.kindOf x == some .cell) = true
          · exact .inl (by simp only [Option.map_some, z, if_true])
          · exact .inr (by simp only [Option.map_some, z, if_false, Bool.false_eq_true])
        · rcases lk with ⟨z, _⟩ | ⟨_, c, e, z⟩
          · have z' : X.env.scope.names.lookup x = some .local := z
            rcases hout with y | y <;> (rw [z'] at y; cases y)
          · obtain ⟨oc, hoc, hd⟩ := z
            exact ⟨c, cl_lookup hm e, oc, hk c oc hoc, hd⟩
  · obtain ⟨v, oc, hoc, hd⟩ := I.cell x c (cellmem x c e)
    exact ⟨v, oc, hk c oc hoc, hd⟩
  · show (capσ src σ).length = N'.length
    unfold capσ
    rw [List.length_map]
    exact caps_len hc
theorem comp_leave {H' : Hp} {σ' : St} {s' : Shared} (I : Inv X pins σ H s) (hf : ∀ b ∈ fp, FpOk X pins H b) (I' : Inv (cxC X N' sc s H s.heap.objs.size fp xe) [] σ' H' s') : Inv X pins σ H' s' :=
  I.call' I'.os I'.base I'.hok I'.bare fun b hb => ⟨(hf b hb).2.2.2.1, (hf b hb).2.1, (hf b hb).2.2.2.2.1, (hf b hb).2.2.2.2.2⟩
theorem comp_ns {H' : Hp} {σ' : St} {s' : Shared} (I' : Inv (cxC X N' sc s H s.heap.objs.size fp xe) [] σ' H' s') : ∃ m, s'.heap.Ns s.heap.objs.size m := let ⟨m, hn, _⟩ := I'.loc; ⟨m, hn⟩
theorem comp_gone {H1 : Hp} {σ1 : St} {s1 : Shared} {h' : Heap} (I : Inv X pins σ H s) (I1 : Inv X pins σ1 H1 s1) (hn : H1 s.heap.objs.size = none) (hs : Heap.SameBut s.heap.objs.size s1.heap h') : Inv X pins σ1 H1 { s1 with heap := h' } := by
  obtain ⟨f0, f1, f2, f3, f4, f5⟩ := I.fpOk (H' := H1) (Nat.le_refl _) hn
  exact I1.turned (t' := s1.toks) (fun b o hb e => (hs.2 b hb).trans e) f0 f1 f3 f4 f5
end
end L2
namespace L2
open PySem PySem.Spec PyProof.Rows
def Keeps2 : St → St → Prop
  | [], [] => True
  | none :: r, _ :: r' => Keeps2 r r'
  | some v :: r, u :: r' => u = some v ∧ Keeps2 r r'
  | _, _ => False
theorem Keeps2.len : ∀ {a b : St}, Keeps2 a b → a.length = b.length
  | [], [], _ => rfl
  | [], _ :: _, h => h.elim
  | none :: _, [], h => h.elim
  | some _ :: _, [], h => h.elim
  | none :: r, _ :: r', h => by
    have h' : Keeps2 r r' := h
    rw [List.length_cons, List.length_cons, h'.len]
  | some v :: r, u :: r', h => by
    have h' : u = some v ∧ Keeps2 r r' := h
    rw [List.length_cons, List.length_cons, h'.2.len]
theorem Keeps2.get : ∀ {a b : St}, Keeps2 a b → ∀ (i : Nat) (v : V), a[i]? = some (some v) → b[i]? = some (some v)
  | [], [], _, i, v, e => by simp at e
  | [], _ :: _, h, _, _, _ => h.elim
  | none :: _, [], h, _, _, _ => h.elim
  | some _ :: _, [], h, _, _, _ => h.elim
  | none :: r, _ :: r', h, 0, v, e => by simp at e
  | none :: r, _ :: r', h, i + 1, v, e => by
    have h' : Keeps2 r r' := h
    simpa using h'.get i v (by simpa using e)
  | some w :: r, u :: r', h, 0, v, e => by
    have h' : u = some w ∧ Keeps2 r r' := h
    simp at e
    subst e
    simp [h'.1]
  | some w :: r, u :: r', h, i + 1, v, e => by
    have h' : u = some w ∧ Keeps2 r r' := h
    simpa using h'.2.get i v (by simpa using e)
def PIfs (X : Cx) (cs : List Expr) (t : TT) : Prop :=
  ∀ (pins : List (Addr × Obj)) (s : Shared) (σ : St) (H : Hp) (Q : Bool → Hp → Prop), Inv X pins σ H s → t σ H Q →
    wpAny (model X.prog X.w) X.A (forIn cs true fun c r => if r = true then do let ok ← isTrue c X.env (eval c X.env); pure (ForInStep.yield ok) else pure (ForInStep.yield r)) (TP X pins σ Q) X.xe s
def tIf0 : TT := fun _ H Q => Q true H
theorem pif0 {X : Cx} : PIfs X [] tIf0 := fun _ _ _ H _ I h => wpAny_tests_nil ⟨H, I, h⟩
theorem pif1 {X : Cx} {c : Expr} {t : TT} (h : PT X c t) : PIfs X [c] t := fun pins s σ H Q I q => wpAny_tests_one (h pins s σ H Q I q)
abbrev TM := St → Hp → (Hp → Prop) → Prop
def PEm (X : Cx) (m : Sem Unit) (t : TM) : Prop :=
  ∀ (pins : List (Addr × Obj)) (s : Shared) (σ : St) (H : Hp) (Q : Hp → Prop), Inv X pins σ H s → t σ H Q →
    wpAny (model X.prog X.w) X.A m (fun _ s' => ∃ H', Inv X pins σ H' s' ∧ Q H') X.xe s
def turnOf (tg : Expr) (ipos : Pos) (ifs : List Expr) (it : Value) (env : Env) (cont : Sem Unit) (more : Sem Fin) : Sem Fin := do
  standAt ipos
  match ← pyNext it with
  | none => pure (.done .next)
  | some v =>
    letOwnedTupleGo tg it v
    assign tg env v
    let mut ok := true
    for c in ifs do
      if ok then ok ← isTrue c env (eval c env)
    if ok then cont
    more
def tComp (J : It) (σ0 : St) (g : TG) (tifs : TT) (tm : TM) (Z : Hp → Prop) (H : Hp) : Prop :=
  ∃ W : Nat → Nat → Hp → Prop, (∃ m, W 0 m H) ∧ ∀ i m H, W i m H → (J.stop i H ∧ Z H) ∨
    (J.go i H ∧ ∀ x H', J.yld i H x H' → g x σ0 H' fun σ2 H2 => tifs σ2 H2 fun b H3 =>
      if b = true then tm σ2 H3 fun H4 => Keeps2 σ0 σ2 ∧ ∃ m', m' < m ∧ W (i + 1) m' H4 else Keeps2 σ0 σ2 ∧ ∃ m', m' < m ∧ W (i + 1) m' H3)
section
variable {X : Cx} {e tg : Expr} {ipos : Pos} {ifs : List Expr} {depth : Nat} {acc : Value} {cont : Sem Unit} {it : Addr} {fp : List Addr} {tn : Nat → Heap → Prop} {J : It} {g : TG} {tifs : TT} {tm : TM} {σ0 : St} {Z : Hp → Prop} {R : Result → Shared → Prop}
theorem comp_loop (hX : X.xe = notedBy (model X.prog X.w) X.A X.env fun e s' => R (.error e) s')
    (heq : compTurn e depth (.ref it) acc X.env = turnOf tg ipos ifs (.ref it) X.env cont (again (.compLoop e depth (.ref it) acc X.env)))
    (hq : (Code.compLoop e depth (.ref it) acc X.env).quiet = true) (hA : X.A.under (.compLoop e depth (.ref it) acc X.env) = X.A) (hF : (Code.compLoop e depth (.ref it) acc X.env).isFrame = false)
    (hc : X.calm = true) (T : Turn X.prog X.w X.K tg J fp it tn) (hg : PG X tg g) (hif : PIfs X ifs tifs) (hm : PEm X cont tm)
    {pins : List (Addr × Obj)} {H : Hp} {s : Shared} (hf : ∀ b ∈ fp, FpOk X pins H b) (I : Inv X pins σ0 H s) (st : tn 0 s.heap)
    (hZ : ∀ H' s', Inv X pins σ0 H' s' → (∀ b ∈ fp, H' b = none) → Z H' → R (.ok .next) s') (h : tComp J σ0 g tifs tm Z H) :
    codeAny (model X.prog X.w) X.A (.compLoop e depth (.ref it) acc X.env) R s := by
  obtain ⟨W, ⟨m0, w0⟩, turn⟩ := h
  have stat : ∀ {H' : Hp}, (∀ b ∈ fp, H' b = none) → ∀ b ∈ fp, FpOk X pins H' b := fun hn b hb => ⟨hn b hb, (hf b hb).2⟩
  refine codeAny_loop hq (fun n s' => ∃ i H', Inv X pins σ0 H' s' ∧ tn i s'.heap ∧ (∀ b ∈ fp, H' b = none) ∧ W i n H') ?_ m0 ⟨0, H, I, st, fun b hb => (hf b hb).1, w0⟩
  rintro n s3 ⟨i, H3, I3, st3, fr3, w3⟩
  rw [hA]
  have hden : (model X.prog X.w).den (.compLoop e depth (.ref it) acc X.env) = (compTurn e depth (.ref it) acc X.env).onRaise (fun x => do noteFrame x X.env; theTreesLotGoes x) := by
    show (if (Code.compLoop e depth (.ref it) acc X.env).isFrame then _ else _) = _
    rw [if_neg (by rw [hF]; decide)]
  rw [hden]
  refine wpAny_noted ?_
  rw [← hX, heq]
  unfold turnOf
  refine wpAny_bind (wpAny_standAt ?_)
  have again' : ∀ {σ7 : St} {H7 : Hp} {s5 s7 : Shared}, tn (i + 1) s5.heap → Inv X (pins ++ pinsAt fp s5.heap) σ7 H7 s7 → Keeps2 σ0 σ7 → (∃ m', m' < n ∧ W (i + 1) m' H7) →
      ∃ m, m < n ∧ ∃ i H', Inv X pins σ0 H' s7 ∧ tn i s7.heap ∧ (∀ b ∈ fp, H' b = none) ∧ W i m H' := fun {σ7 H7 s5 s7} st5 I7 k7 ⟨m', hm', w7⟩ => by
    refine ⟨m', hm', i + 1, H7, I7.unpinned.weak k7.len k7.get, T.keep _ _ _ st5 fun b hb o e => (I7.pin (b, o) (List.mem_append_right _ (List.mem_append_right _ (mem_pinsAt hb e)))).1, fun b hb => ?_, w7⟩
    obtain ⟨o, e, d⟩ := T.obj _ _ st5 b hb
    exact (I7.pin (b, o) (List.mem_append_right _ (List.mem_append_right _ (mem_pinsAt hb e)))).2.1
  rcases turn i n H3 w3 with ⟨stop, qn⟩ | ⟨go, step⟩
  · refine wpAny_bind (thn (T.done X rfl rfl rfl hc i pins s3 σ0 H3 X.xe I3 (stat fr3) st3 stop) fun r s4 ⟨hr, I4⟩ => ?_)
    subst hr
    exact wpAny_pure (hZ H3 s4 I4 fr3 qn)
  · refine wpAny_bind (thn (T.item X rfl rfl rfl hc i pins s3 σ0 H3 X.xe I3 (stat fr3) st3 go) fun r s4 ⟨u, hr, h4⟩ => ?_)
    subst hr
    refine wpAny_bind (thn h4 fun _ s5 ⟨x, H5, I5, r5, y5, st5, fr5⟩ => ?_)
    have I5' := I5.pinned (stat fr5) (T.obj _ _ st5)
    refine wpAny_bind (thn (hg _ s5 σ0 H5 x u _ I5' r5 (step x H5 y5)) fun _ s6 ⟨σ6, H6, I6, q6⟩ => ?_)
    refine wpAny_bind (thn (hif _ s6 σ6 H6 _ I6 q6) fun b s7 ⟨H7, I7, q7⟩ => ?_)
    cases b with
    | false =>
      obtain ⟨k7, w7⟩ := q7
      exact wpAny_pure ⟨rfl, again' st5 I7 k7 w7⟩
    | true =>
      refine wpAny_bind (thn (hm _ s7 σ6 H7 _ I7 q7) fun _ s8 ⟨H8, I8, k8, w8⟩ => ?_)
      exact wpAny_pure ⟨rfl, again' st5 I8 k8 w8⟩
end
end L2
namespace L2
open PySem PySem.Spec PyProof.Rows
structure CompKind (P : Program) (w : World) (A : Around) (e : Expr) (tg iter : Expr) (ifs : List Expr) (emit : Addr → Env → Sem Unit) : Prop where
  cl : clausesOf e = [⟨tg, iter, ifs, 0⟩]
  turn : ∀ it D env, compTurn e 0 (.ref it) (.ref D) env = turnOf tg iter.pos ifs (.ref it) env (emit D env) (again (.compLoop e 0 (.ref it) (.ref D) env))
  start : ∀ (R : Result → Shared → Prop) (s : Shared) (it acc : Value) (env : Env), codeAny (model P w) A (.compLoop e 0 it acc env) R s →
    wpAny (model P w) A (pyIter it) (fun it' s' => codeAny (model P w) A (.compLoop e 0 it' acc env) R s') (notedBy (model P w) A env fun x s' => R (.error x) s') s → codeAny (model P w) A (.compStart e 0 it acc env) R s
  quiet : ∀ it acc env, (Code.compLoop e 0 it acc env).quiet = true
  under : ∀ it acc env, A.under (.compLoop e 0 it acc env) = A
  frame : ∀ it acc env, (Code.compLoop e 0 it acc env).isFrame = false
theorem ck_list {P : Program} {w : World} {A : Around} {elt tg iter : Expr} {ifs : List Expr} {sc : Scope} {pos : Pos} :
    CompKind P w A (.ListComp elt [⟨tg, iter, ifs, 0⟩] sc pos) tg iter ifs (fun D env => do let _ ← call (.builtin "list.append") [.ref D, ← eval elt env]) where
  cl := rfl
  turn := fun it D env => by rw [compTurn_list]; rfl
  start := fun R s it acc env h0 h => codeAny_compStart_list h0 h
  quiet := fun _ _ _ => rfl
  under := fun _ _ _ => rfl
  frame := fun _ _ _ => rfl
theorem ck_dict {P : Program} {w : World} {A : Around} {kx vx tg iter : Expr} {ifs : List Expr} {sc : Scope} {pos : Pos} :
    CompKind P w A (.DictComp kx vx [⟨tg, iter, ifs, 0⟩] sc pos) tg iter ifs (fun D env => do
      let kv ← eval kx env
      let vv ← holding [kv] (eval vx env)
      standAt { kx.pos with endLine := vx.pos.endLine, endCol := vx.pos.endCol }
      holding [kv, vv] (dictSet D kv vv)) where
  cl := rfl
  turn := fun it D env => by rw [compTurn_dict]; rfl
  start := fun R s it acc env h0 h => codeAny_compStart_dict h0 h
  quiet := fun _ _ _ => rfl
  under := fun _ _ _ => rfl
  frame := fun _ _ _ => rfl
section
variable {X : Cx} {e tg iter : Expr} {ifs : List Expr} {emit : Addr → Env → Sem Unit} {sc : Scope} {pos : Pos} {wi : TI} {N' : List Str} {src : List (Option Nat)} {g : TG} {tifs : TT} {tm : Addr → TM} {newAcc : Sem Value} {ob : Obj} {accO : HO}
def tCompE (src : List (Option Nat)) (accO : HO) (wi : TI) (g : TG) (tifs : TT) (tm : Addr → TM) : TE :=
  fun σ H Q => wi σ H fun J H1 => ∀ D, H1 D = none → tComp J (capσ src σ) g tifs (tm D) (fun H' => Q (.ref D) H') (upd H1 D accO)
structure AccNew (X : Cx) (newAcc : Sem Value) (ob : Obj) (accO : HO) : Prop where
  new : ∀ (s : Shared) (Q : Value → Shared → Prop) (E : Value → Shared → Prop), Q (.ref s.heap.objs.size) { s with heap := s.heap.push ob } → wpAny (model X.prog X.w) X.A newAcc Q E s
  live : ob.isFreed = false
  ok : ∀ (pins : List (Addr × Obj)) (σ : St) (H : Hp) (s : Shared), Inv X pins σ H s → ObjOk X.prog X.w (upd H s.heap.objs.size accO) (s.heap.push ob) s.heap.objs.size accO
theorem comp_run {use : Option (Value → Sem Unit)} {Q' : Value → Shared → Prop} (K : CompKind X.prog X.w X.A e tg iter ifs emit) (hc : X.calm = true) (S : CompScope sc X.env.scope) (hcap : capsOk sc src N' X.N = true) (hi : PI X tg iter wi)
    (hb : ∀ s H C fp xe D, PG (cxC X N' sc s H C fp xe) tg g ∧ PIfs (cxC X N' sc s H C fp xe) ifs tifs ∧ PEm (cxC X N' sc s H C fp xe) (emit D (cxC X N' sc s H C fp xe).env) (tm D)) (N : AccNew X newAcc ob accO)
    (hs : ∀ x, foldedSetIterable iter X.env x = pure x)
    {pins : List (Addr × Obj)} {s : Shared} {σ : St} {H : Hp} {Q : VK} (I : Inv X pins σ H s) (h : tCompE src accO wi g tifs tm σ H Q)
    (hQ : ∀ (C D : Addr) (H' : Hp) (s' : Shared), Inv X pins σ H' s' → Q (.ref D) H' → H' C = none → (∃ m, s'.heap.Ns C m) → (∀ (σ1 : St) (H1 : Hp) (s1 : Shared) (h' : Heap), Inv X pins σ1 H1 s1 → H1 C = none → Heap.SameBut C s1.heap h' → Inv X pins σ1 H1 { s1 with heap := h' }) →
      (C ≠ X.env.locals ∧ ∀ x c, X.env.cells.lookup x = some c → c ≠ C) → compPost (model X.prog X.w) X.A X.xe use Q' (.ref D) C (.ok .next) s') :
    wpAny (model X.prog X.w) X.A (comprehension e sc X.env pos newAcc false (eval iter X.env) use) Q' X.xe s := by
  refine wpAny_comprehension_free (g := ⟨tg, iter, ifs, 0⟩) (gs := []) K.cl hs (closure_of fun p hp hf => I.ok.has p.1 (S.free p hp hf)) S.kind S.names ?_
  refine thn (hi pins s σ H _ I h) fun v s1 h1 => thn h1 fun itv s2 h2 => ?_
  obtain ⟨it, fp, tn, J, H2, e1, I2, T, st2, f2, q2⟩ := h2
  subst e1
  refine N.new s2 _ _ ?_
  have hD : H2 s2.heap.objs.size = none := I2.hok.fresh (Nat.le_refl _)
  have hk3 : ∀ b o, s2.heap.get? b = some o → (s2.heap.push ob).get? b = some o := fun b o e => Heap.get?_push_of_some _ e
  have I3 : Inv X pins σ (upd H2 s2.heap.objs.size accO) { s2 with heap := s2.heap.push ob } := I2.laid (t' := s2.toks) hk3 (Nat.le_refl _) (N.ok pins σ H2 s2 I2)
  have st3 : tn 0 (s2.heap.push ob) := T.keep _ _ _ st2 fun b _ o e => hk3 b o e
  have ob3 : ∀ b ∈ fp, ∃ o, (s2.heap.push ob).get? b = some o := fun b hb => let ⟨o, e, _⟩ := T.obj _ _ st3 b hb; ⟨o, e⟩
  have f3 : ∀ b ∈ fp, FpOk X pins (upd H2 s2.heap.objs.size accO) b := fun b hb => by
    refine ⟨?_, (f2 b hb).2⟩
    obtain ⟨o, e, _⟩ := T.obj _ _ st2 b hb
    rw [upd_ne (Nat.ne_of_lt (Heap.lt_size e))]
    exact (f2 b hb).1
  have qq := q2 s2.heap.objs.size hD
  generalize hs3 : ({ s2 with heap := s2.heap.push ob } : Shared) = s3 at I3 ⊢
  have hh3 : s2.heap.push ob = s3.heap := by rw [← hs3]
  rw [hh3] at st3 ob3
  generalize s2.heap.objs.size = D at I3 f3 qq hD ⊢
  refine wpAny_newFunctionEnv S.cell (by intro y hy; simp at hy) (fun h₁ hns hsb => ?_) S.kind
  have hns' : h₁.Ns s3.heap.objs.size (fun _ => none) := hns
  have hk4 : ∀ b o, s3.heap.get? b = some o → h₁.get? b = some o := fun b o e => hsb.extBut b o (Nat.ne_of_lt (Heap.lt_size e)) (Heap.get?_push_of_some _ e)
  let R : Result → Shared → Prop := compPost (model X.prog X.w) X.A X.xe use Q' (.ref D) s3.heap.objs.size
  let X' : Cx := cxC X N' sc s3 (upd H2 D accO) s3.heap.objs.size fp (notedBy (model X.prog X.w) X.A (compEnvC sc (clOf sc X.env) s3.heap.objs.size X.env) fun e s' => R (.error e) s')
  have I4 : Inv X' [] (capσ src σ) (upd H2 D accO) { s3 with heap := h₁, toks := s3.toks + ([] : List (Str × Value)).length } := comp_enter I3 S hcap f3 ob3 hns' hk4
  have st4 : tn 0 h₁ := T.keep _ _ _ st3 fun b _ o e => hk4 b o e
  obtain ⟨hg, hif, hm⟩ := hb s3 (upd H2 D accO) s3.heap.objs.size fp (notedBy (model X.prog X.w) X.A (compEnvC sc (clOf sc X.env) s3.heap.objs.size X.env) fun e s' => R (.error e) s') D
  have f4 : ∀ b ∈ fp, FpOk X' [] (upd H2 D accO) b := fun b hb => by
    obtain ⟨g0, g1, g2, g3, g4, g5⟩ := f3 b hb
    refine ⟨g0, ?_, ?_, .inl hb, fun x c e => ?_, fun p hp => absurd (show p ∈ ([] : List (Addr × Obj)) from hp) (by simp)⟩
    · obtain ⟨o, e⟩ := ob3 b hb
      exact Nat.ne_of_lt (Heap.lt_size e)
    · intro z
      rcases List.mem_cons.mp (I3.stkSub b z) with y | y
      · exact g1 y
      · exact g2 y
    · exact g4 x c (cl_mem (PySem.mem_of_lookup e)).2
  have fpC : FpOk X pins (upd H2 D accO) s3.heap.objs.size := I3.fpOk (Nat.le_refl _) (I3.hok.fresh (Nat.le_refl _))
  have loop : ∀ s4 : Shared, s4 = { s3 with heap := h₁, toks := s3.toks + ([] : List (Str × Value)).length } → codeAny (model X.prog X.w) X.A (.compLoop e 0 (.ref it) (.ref D) X'.env) R s4 := by
    rintro s4 rfl
    refine comp_loop (X := X') (Z := fun H' => Q (.ref D) H') rfl (K.turn it D X'.env) (K.quiet _ _ _) (K.under _ _ _) (K.frame _ _ _) hc T hg hif hm f4 I4 st4 (fun H' s' I' _ z => ?_) qq
    refine hQ s3.heap.objs.size D H' s' (comp_leave I3 f3 I') z I'.free (comp_ns I') (fun σ1 H1 s1 h' I1 n1 hs1 => comp_gone I3 I1 n1 hs1) ⟨fpC.2.1, fun x c e => fpC.2.2.2.2.1 x c e⟩
  exact K.start R _ (.ref it) (.ref D) X'.env (loop _ rfl) (T.self X.A 0 _ _ _ st4 (loop _ rfl))
theorem pe_comp (K : CompKind X.prog X.w X.A e tg iter ifs emit) (hc : X.calm = true) (S : CompScope sc X.env.scope) (hcap : capsOk sc src N' X.N = true) (hi : PI X tg iter wi)
    (hb : ∀ s H C fp xe D, PG (cxC X N' sc s H C fp xe) tg g ∧ PIfs (cxC X N' sc s H C fp xe) ifs tifs ∧ PEm (cxC X N' sc s H C fp xe) (emit D (cxC X N' sc s H C fp xe).env) (tm D)) (N : AccNew X newAcc ob accO)
    (hs : ∀ x, foldedSetIterable iter X.env x = pure x) (he : eval e X.env = comprehension e sc X.env pos newAcc false (eval iter X.env)) : PE X e (tCompE src accO wi g tifs tm) := by
  intro pins s σ H Q I h
  rw [he]
  refine comp_run (use := none) (Q := Q) K hc S hcap hi hb N hs I h fun C D H' s' I' q hn ⟨m, hm⟩ gone _ => ?_
  exact ⟨m, hm, fun h' hs' => ⟨.ref D, H', gone σ H' s' h' I' hn hs', rfl, q⟩⟩
theorem ps_comp {i : Nat} {x : Str} {pos' pos2 : Pos} (K : CompKind X.prog X.w X.A e tg iter ifs emit) (hc : X.calm = true) (S : CompScope sc X.env.scope) (hcap : capsOk sc src N' X.N = true) (hi : PI X tg iter wi)
    (hb : ∀ s H C fp xe D, PG (cxC X N' sc s H C fp xe) tg g ∧ PIfs (cxC X N' sc s H C fp xe) ifs tifs ∧ PEm (cxC X N' sc s H C fp xe) (emit D (cxC X N' sc s H C fp xe).env) (tm D)) (N : AccNew X newAcc ob accO)
    (hs : ∀ x, foldedSetIterable iter X.env x = pure x) (he : ∀ u, evalThenUse e X.env u = (do let _ ← comprehension e sc X.env pos newAcc false (eval iter X.env) (some u)))
    (hN : X.N.Nodup) (hix : X.N[i]? = some x) (hx : Loc X.env.scope x) (hsw : swapsWith e (some (.Name x pos')) pos2.line X.env = pure true)
    (hf : X.fn x = true ∨ X.env.scope.names.lookup x = some .local := by first | exact .inl rfl | exact .inr rfl | assumption) :
    PS X (.Assign [.Name x pos'] e pos2) (tAsg (tCompE src accO wi g tifs tm) (gName i)) := by
  intro pins s σ H D0 I h
  rw [exec_Assign_Name_used x pos' e pos2 hsw, he]
  refine wpAny_bind (wpAny_standAt (wpAny_bind (wpAny_bind ?_)))
  refine comp_run (use := some (assign (.Name x pos') X.env)) (Q := fun v H' => D0.nx (σ.set i (some v)) H') (Q' := fun _ s' => wpAny _ _ _ _ _ s') K hc S hcap hi hb N hs I h fun C D H' s' I' q hn ⟨m, hm⟩ gone ⟨hCL, hCc⟩ => ?_
  refine wpAny_assign_Name (store_ok2 (v := .ref D) I' hN hix hx rfl (fun s2 I2 hch => ?_) hf)
  obtain ⟨a, hsb, ha⟩ := hch
  have hne : C ≠ a := by
    rcases ha with z | z
    · rw [z]; exact hCL
    · exact (hCc x a z).symm
  refine ⟨m, hm.sameBut hsb hne, fun h' hs' => ?_⟩
  exact wpAny_pure (wpAny_pure ⟨_, H', gone _ H' s2 h' I2 hn hs', q⟩)
end
section
variable {X : Cx} {elt kx vx : Expr} {te tk tv : TE}
def mApp (te : TE) (D : Addr) : TM := fun σ H K => te σ H fun y H1 => ∃ ys, H1 D = some (.lst ys) ∧ ys.length < sizeLine ∧ K (upd H1 D (.lst (ys ++ [y])))
theorem pm_app (h : PE X elt te) (D : Addr) : PEm X (do let _ ← call (.builtin "list.append") [.ref D, ← eval elt X.env]) (mApp te D) := by
  intro pins s σ H Q I q
  refine wpAny_bind (thn (h pins s σ H _ I q) fun u s1 ⟨y, H1, I1, ru, ys, e, z, k⟩ => ?_)
  refine wpAny_bind (thn (mt_append pins s1 σ H1 (.ref D) [y] (.ref D) [u] (fun _ H' => Q H') I1 rfl (.cons ru .nil) ⟨D, ys, y, rfl, rfl, e, z, k⟩) fun r s2 ⟨v, H2, I2, _, k2⟩ => ?_)
  exact wpAny_pure ⟨H2, I2, k2⟩
theorem d_dictSet {pins : List (Addr × Obj)} {σ : St} {H H' : Hp} {s : Shared} {a : Addr} {y v : V} {u r : Value} {A : Around} {E : Value → Shared → Prop} {Q : Unit → Shared → Prop} (hu : A.units + 1 < cLine) (I : Inv X pins σ H s) (g : DPut H a y v H') (ry : RelV y u) (rv : RelV v r) (h : ∀ s', Inv X pins σ H' s' → Q () s') :
    wpAny (model X.prog X.w) A (dictSet a u r) Q E s := by
  rcases g with ⟨kvs, k, e, ey, l, eH⟩ | ⟨kvs, k, b, e, ey, eb, l, eH⟩
  · subst ey eH
    obtain ⟨z, hd, vs, rel, dd⟩ := dk_of I.hok e
    have hz : vs.length ≤ sizeLine := by rw [← rel.length]; exact z
    have hl : (putK kvs k v).length ≤ sizeLine := by have := length_putK kvs k v; omega
    refine wpAny_dictSet_pairs (hsz := hz) (kV_is ry) dd fun h' dd' hs => h _ ?_
    have he : ∃ q, h'.get? a = some q := let ⟨q, _, _, hq, _⟩ := dd'; ⟨q, hq⟩
    exact d_write I (by rw [e]; exact True.intro) hs he (dk_new hl hd (rel.put k rv) dd')
  · subst ey eH
    cases (show u = Value.ref b from ry)
    obtain ⟨z, hd, xs, rel, dd⟩ := dt_of I.hok e
    have hz : xs.length ≤ sizeLine := by rw [← Paired.length rel]; exact z
    have hl : (putK kvs k v).length ≤ sizeLine := by have := length_putK kvs k v; omega
    have hroom : (tupleKind (mixKind X.prog X.w)).room A := show A.units < cLine by omega
    refine wpAny_dictSet_heap (hsz := hz) hroom (key_of I.hok eb) dd fun h' dd' hs => h _ ?_
    obtain ⟨q, es, ep, hq, h2, h3, h4, _, h5⟩ := dd'
    refine d_write I (by rw [e]; exact True.intro) hs ⟨q, hq⟩ ⟨hl, hd, _, (rel.put k eb rv).keeps fun c ys ec => ?_, q, es, ep, hq, h2, h3, h4, h5⟩
    rw [upd_ne (ne_of ec e (fun z => nomatch z))]
    exact ec
def mPut (tk tv : TE) (D : Addr) : TM := fun σ H K => tk σ H fun y H1 => tv σ H1 fun v H2 => ∃ H3, DPut H2 D y v H3 ∧ K H3
theorem pm_put (hu : X.A.units + 1 < cLine) (hk : PE X kx tk) (hv : PE X vx tv) (D : Addr) : PEm X (do
      let kv ← eval kx X.env
      let vv ← holding [kv] (eval vx X.env)
      standAt { kx.pos with endLine := vx.pos.endLine, endCol := vx.pos.endCol }
      holding [kv, vv] (dictSet D kv vv)) (mPut tk tv D) := by
  intro pins s σ H Q I q
  refine wpAny_bind (thn (hk pins s σ H _ I q) fun u s1 ⟨y, H1, I1, ru, q1⟩ => ?_)
  refine wpAny_bind (wpAny_holding (thn (hv pins s1 σ H1 _ I1 q1) fun r s2 ⟨v, H2, I2, rv, H3, g, q2⟩ => ?_))
  exact wpAny_bind (wpAny_standAt (wpAny_holding (d_dictSet hu I2 g ru rv fun s3 I3 => ⟨H3, I3, q2⟩)))
theorem acc_dK : AccNew X newDict { cls := .type "dict", data := .dict #[] } (.dK []) where
  new := fun s Q E h => wpAny_newObj_type h
  live := rfl
  ok := fun pins σ H s I => dk_empty s.heap I.big
theorem acc_list : AccNew X (newList []) { cls := .type "list", data := .seq #[] } (.lst []) where
  new := fun s Q E h => wpAny_newObj_type h
  live := rfl
  ok := fun pins σ H s I => ⟨Nat.zero_le _, [], 0, .nil, Heap.get?_push_size _ rfl⟩
end
section
variable {X : Cx} {elt kx vx tg iter : Expr} {ifs : List Expr} {sc : Scope} {pos : Pos} {wi : TI} {N' : List Str} {src : List (Option Nat)} {g : TG} {tifs : TT} {te tk tv : TE}
theorem pe_lc (src : List (Option Nat)) (N' : List Str) (hc : X.calm = true) (S : CompScope sc X.env.scope) (hcap : capsOk sc src N' X.N = true) (hi : PI X tg iter wi)
    (hb : ∀ s H C fp xe, PG (cxC X N' sc s H C fp xe) tg g ∧ PIfs (cxC X N' sc s H C fp xe) ifs tifs ∧ PE (cxC X N' sc s H C fp xe) elt te)
    (hs : ∀ x, foldedSetIterable iter X.env x = pure x := by intro _; rfl) : PE X (.ListComp elt [⟨tg, iter, ifs, 0⟩] sc pos) (tCompE src (.lst []) wi g tifs (mApp te)) :=
  pe_comp ck_list hc S hcap hi (fun s H C fp xe D => ⟨(hb s H C fp xe).1, (hb s H C fp xe).2.1, pm_app (hb s H C fp xe).2.2 D⟩) acc_list hs rfl
theorem ps_lc {i : Nat} {x : Str} {pos' pos2 : Pos} (src : List (Option Nat)) (N' : List Str) (hc : X.calm = true) (S : CompScope sc X.env.scope) (hcap : capsOk sc src N' X.N = true) (hi : PI X tg iter wi)
    (hb : ∀ s H C fp xe, PG (cxC X N' sc s H C fp xe) tg g ∧ PIfs (cxC X N' sc s H C fp xe) ifs tifs ∧ PE (cxC X N' sc s H C fp xe) elt te)
    (hN : X.N.Nodup) (hix : X.N[i]? = some x) (hx : Loc X.env.scope x) (hsw : swapsWith (.ListComp elt [⟨tg, iter, ifs, 0⟩] sc pos) (some (.Name x pos')) pos2.line X.env = pure true := by rfl)
    (hs : ∀ x, foldedSetIterable iter X.env x = pure x := by intro _; rfl) (hf : X.fn x = true ∨ X.env.scope.names.lookup x = some .local := by first | exact .inl rfl | exact .inr rfl | assumption) :
    PS X (.Assign [.Name x pos'] (.ListComp elt [⟨tg, iter, ifs, 0⟩] sc pos) pos2) (tAsg (tCompE src (.lst []) wi g tifs (mApp te)) (gName i)) :=
  ps_comp ck_list hc S hcap hi (fun s H C fp xe D => ⟨(hb s H C fp xe).1, (hb s H C fp xe).2.1, pm_app (hb s H C fp xe).2.2 D⟩) acc_list hs (fun _ => rfl) hN hix hx hsw hf
end
section
variable {K : PySem.W.Frag} {a : Addr} {xs : List V} {g : TG} {tifs : TT} {tm : TM} {σ0 : St} {Z : Hp → Prop} {H : Hp}
theorem comp_by (n : Nat) {J : It} (Pv : Nat → Hp → Prop) (h0 : Pv 0 H) (hgo : ∀ i H, i < n → Pv i H → J.go i H) (hst : ∀ H, Pv n H → J.stop n H)
    (turn : ∀ i H, i < n → Pv i H → ∀ x H', J.yld i H x H' → g x σ0 H' fun σ2 H2 => tifs σ2 H2 fun b H3 =>
      if b = true then tm σ2 H3 fun H4 => Keeps2 σ0 σ2 ∧ ∃ m', m' < n - i ∧ (m' = n - (i + 1) ∧ i + 1 ≤ n ∧ Pv (i + 1) H4) else Keeps2 σ0 σ2 ∧ ∃ m', m' < n - i ∧ (m' = n - (i + 1) ∧ i + 1 ≤ n ∧ Pv (i + 1) H3))
    (hZ : ∀ H, Pv n H → Z H) : tComp J σ0 g tifs tm Z H := by
  refine ⟨fun i m H => m = n - i ∧ i ≤ n ∧ Pv i H, ⟨n, by simp, Nat.zero_le _, h0⟩, ?_⟩
  rintro i m H ⟨rfl, hi, p⟩
  by_cases hlt : i < n
  · exact .inr ⟨hgo i H hlt p, turn i H hlt p⟩
  · have e : i = n := by omega
    subst e
    exact .inl ⟨hst H p, hZ H p⟩
theorem comp_list (Pv : Nat → Hp → Prop) (h0 : Pv 0 H) (hl : ∀ i H, i ≤ xs.length → Pv i H → SqL K H a xs)
    (turn : ∀ i x H, xs[i]? = some x → Pv i H → g x σ0 H fun σ2 H2 => tifs σ2 H2 fun b H3 =>
      if b = true then tm σ2 H3 fun H4 => Keeps2 σ0 σ2 ∧ ∃ m', m' < xs.length - i ∧ (m' = xs.length - (i + 1) ∧ i + 1 ≤ xs.length ∧ Pv (i + 1) H4) else Keeps2 σ0 σ2 ∧ ∃ m', m' < xs.length - i ∧ (m' = xs.length - (i + 1) ∧ i + 1 ≤ xs.length ∧ Pv (i + 1) H3))
    (hZ : ∀ H, Pv xs.length H → Z H) : tComp (Itl K a) σ0 g tifs tm Z H := by
  refine comp_by xs.length Pv h0 (fun i H hi p => ⟨xs, xs[i], hl i H (Nat.le_of_lt hi) p, by simp [hi]⟩) (fun H p => ⟨xs, hl _ H (Nat.le_refl _) p, Nat.le_refl _⟩) (fun i H hi p x H' y => ?_) hZ
  obtain ⟨e, y⟩ := y
  subst e
  exact turn i x _ (y xs (hl i _ (Nat.le_of_lt hi) p)) p
theorem comp_tup (Pv : Nat → Hp → Prop) (h0 : Pv 0 H) (hl : ∀ i H, i ≤ xs.length → Pv i H → SqT K H a xs)
    (turn : ∀ i x H, xs[i]? = some x → Pv i H → g x σ0 H fun σ2 H2 => tifs σ2 H2 fun b H3 =>
      if b = true then tm σ2 H3 fun H4 => Keeps2 σ0 σ2 ∧ ∃ m', m' < xs.length - i ∧ (m' = xs.length - (i + 1) ∧ i + 1 ≤ xs.length ∧ Pv (i + 1) H4) else Keeps2 σ0 σ2 ∧ ∃ m', m' < xs.length - i ∧ (m' = xs.length - (i + 1) ∧ i + 1 ≤ xs.length ∧ Pv (i + 1) H3))
    (hZ : ∀ H, Pv xs.length H → Z H) : tComp (Itt K a) σ0 g tifs tm Z H := by
  refine comp_by xs.length Pv h0 (fun i H hi p => ⟨xs, xs[i], hl i H (Nat.le_of_lt hi) p, by simp [hi]⟩) (fun H p => ⟨xs, hl _ H (Nat.le_refl _) p, Nat.le_refl _⟩) (fun i H hi p x H' y => ?_) hZ
  obtain ⟨e, y⟩ := y
  subst e
  exact turn i x _ (y xs (hl i _ (Nat.le_of_lt hi) p)) p
theorem comp_range {lo : Int} {n : Nat} (Pv : Nat → Hp → Prop) (h0 : Pv 0 H)
    (turn : ∀ i H, i < n → Pv i H → g (.int (lo + i)) σ0 H fun σ2 H2 => tifs σ2 H2 fun b H3 =>
      if b = true then tm σ2 H3 fun H4 => Keeps2 σ0 σ2 ∧ ∃ m', m' < n - i ∧ (m' = n - (i + 1) ∧ i + 1 ≤ n ∧ Pv (i + 1) H4) else Keeps2 σ0 σ2 ∧ ∃ m', m' < n - i ∧ (m' = n - (i + 1) ∧ i + 1 ≤ n ∧ Pv (i + 1) H3))
    (hZ : ∀ H, Pv n H → Z H) : tComp (Itr lo n) σ0 g tifs tm Z H := by
  refine comp_by n Pv h0 (fun i H hi p => hi) (fun H p => Nat.le_refl _) (fun i H hi p x H' y => ?_) hZ
  obtain ⟨e, y⟩ := y
  subst e y
  exact turn i _ hi p
theorem comp_end {n i : Nat} {P : Prop} {Pv : Nat → Hp → Prop} {H : Hp} (k : P) (hi : i < n) (p : Pv (i + 1) H) : P ∧ ∃ m', m' < n - i ∧ (m' = n - (i + 1) ∧ i + 1 ≤ n ∧ Pv (i + 1) H) := ⟨k, _, by omega, rfl, hi, p⟩
end
end L2
namespace L2
open PySem PySem.Spec PyProof.Rows
section
variable {X : Cx} {pins : List (Addr × Obj)} {σ : St} {H : Hp} {s : Shared} {h' : Heap} {ch : List Addr} {a : Addr} {o : HO}
theorem Inv.many {t' : Nat} (I : Inv X pins σ H s) (hch : ∀ b ∈ ch, FpOk X pins H b) (k : ∀ b ob, b ∉ ch → s.heap.get? b = some ob → h'.get? b = some ob) (hp : s.heap.objs.size ≤ a) (new : ObjOk X.prog X.w (upd H a o) h' a o) :
    Inv X pins σ (upd H a o) { s with heap := h', toks := t' } := by
  have hn : H a = none := I.hok.fresh hp
  have na : ∀ b ob, s.heap.get? b = some ob → b ≠ a := fun b ob e => Nat.ne_of_lt (Nat.lt_of_lt_of_le (Heap.lt_size e) hp)
  have nch : ∀ b u, H b = some u → b ∉ ch := fun b u e z => by rw [(hch b z).1] at e; cases e
  refine I.step (g' := s.gens) (d' := s.drawn) (ch := ch) (fun b hb => ⟨(hch b hb).2.2.2.1, (hch b hb).2.1, (hch b hb).2.2.2.2.1, (hch b hb).2.2.2.2.2⟩) (fun b ob _ _ hc e _ => k b ob hc e) (fun b ob _ _ hc e _ => ⟨ob.slots, k b ob hc e⟩)
    (fun b ob _ e n => by rw [upd_ne (na b ob e)]; exact n) (fun b ob hc e => ⟨ob, k b ob hc e⟩) (fun b xs e => by rw [upd_ne (ne_of_none e hn)]; exact e) (fun b ob u e => by rw [upd_ne (ne_of_none e hn)]; exact e)
    (fun b ps e => ⟨#[], by rw [upd_ne (ne_of_none e hn), e]; simp⟩) (fun m hm => ?_) (fun b u e => ?_) I.bare
  · obtain ⟨ob, es, ep, ho, r⟩ := hm
    exact ⟨ob, es, ep, k _ ob (fun z => (hch _ z).2.1 rfl) ho, r⟩
  · by_cases hb : b = a
    · subst hb; rw [upd_same] at e; cases e; exact new
    · rw [upd_ne hb] at e
      refine (I.hok b u e).stay (fun c v hc q => k c v ?_ q) (fun c q => by rw [upd_ne (ne_of_none q hn)]; exact q) fun c xs q => by rw [upd_ne (ne_of_none q hn)]; exact q
      rcases hc with z | z
      · subst z; exact nch c u e
      · exact nch c _ z
theorem Inv.many0 {t' : Nat} (I : Inv X pins σ H s) (hch : ∀ b ∈ ch, FpOk X pins H b) (k : ∀ b ob, b ∉ ch → s.heap.get? b = some ob → h'.get? b = some ob) :
    Inv X pins σ H { s with heap := h', toks := t' } := by
  have nch : ∀ b u, H b = some u → b ∉ ch := fun b u e z => by rw [(hch b z).1] at e; cases e
  refine I.step (g' := s.gens) (d' := s.drawn) (ch := ch) (fun b hb => ⟨(hch b hb).2.2.2.1, (hch b hb).2.1, (hch b hb).2.2.2.2.1, (hch b hb).2.2.2.2.2⟩) (fun b ob _ _ hc e _ => k b ob hc e) (fun b ob _ _ hc e _ => ⟨ob.slots, k b ob hc e⟩)
    (fun b ob _ e n => n) (fun b ob hc e => ⟨ob, k b ob hc e⟩) (fun b xs e => e) (fun b ob u e => e)
    (fun b ps e => ⟨#[], by rw [e]; simp⟩) (fun m hm => ?_) (fun b u e => ?_) I.bare
  · obtain ⟨ob, es, ep, ho, r⟩ := hm
    exact ⟨ob, es, ep, k _ ob (fun z => (hch _ z).2.1 rfl) ho, r⟩
  · refine (I.hok b u e).stay (fun c v hc q => k c v ?_ q) (fun c q => q) fun c xs q => q
    rcases hc with z | z
    · subst z; exact nch c u e
    · exact nch c _ z
end
end L2
namespace PySem
theorem l3_list_keys : typeLookup (.type "list") "keys" = pure none := by rw [typeLookup_type, builtinLookup_eq_fast]; kernel_rfl
section
variable {prog : Program} {w : World} {A : Around} {E : Value → Shared → Prop} {s : Shared}
theorem l3_getAttrBy_keys {a : Addr} {xs : Array Value} {k : Nat} {u : Tok} {Q : Value → Shared → Prop} (hx : s.heap.get? a = some { cls := .type "list", data := .seq xs k }) (hA : A.handled = none)
    (h : ∀ h' tk e, Heap.NewAttrErr s.heap h' e (.ref a) "keys" → E (.ref e) { s with heap := h', toks := tk }) :
    wpAny (model prog w) A (getAttrBy (.ref a) (.str "keys" u) false) Q E s := by
  obtain ⟨hp, g, d, tk, os⟩ := s
  have hT : ∀ tk', (⟨hp, g, d, tk', os⟩ : Shared).TypeIs (.ref a) "list" := fun _ => ⟨_, hx, rfl⟩
  have f1 := sub_AttributeError
  have f3 := F.slot_list_getattribute.lookup
  have f4 := F.slot_list_getattribute.bind (.ref a)
  have f5 := am_list_getattr_none
  unfold getAttrBy
  repeat (any_goals (first | assumption | exact hT _ | ((with_reducible show wpAny _ _ (call (Value.builtin "list.__getattribute__") _ _) _ _ _); refine call_meets F.slot_list_getattribute (hT _) am_entry_list_getattribute (F.args_list_getattribute_2 _ _) (meets_getattribute_miss_list a xs k #[] "keys" _ l3_list_keys (by decide +kernel)) ⟨hx, hA, fun h' tk' e hx' => ?_⟩) | wp_step))
  obtain ⟨t', u', he⟩ := hx'.there
  show wpAny _ _ (getattributeRaised _ _ _ _ _ _ _) _ _ _
  unfold getattributeRaised
  repeat (any_goals (first | assumption | wp_step))
  exact h _ _ _ hx'
theorem l3_getAttr_keys {a : Addr} {xs : Array Value} {k : Nat} {Q : Option Value → Shared → Prop} (hx : s.heap.get? a = some { cls := .type "list", data := .seq xs k }) (hA : A.handled = none)
    (h : ∀ h' tk, (∀ b o, s.heap.get? b = some o → h'.get? b = some o) → Q none { s with heap := h', toks := tk }) : wpAny (model prog w) A (getAttr? (.ref a) "keys") Q E s := by
  unfold getAttr? getAttrBy?
  refine wpAny_bind (wpAny_mkText (wpAny_bind (wpAny_attempt (l3_getAttrBy_keys hx hA fun h' tk e ne => ?_))))
  obtain ⟨t', u', he⟩ := ne.there
  refine wpAny_bind (wpAny_isInstance (T := "AttributeError") (b := true) ⟨_, he, rfl⟩ sub_AttributeError ?_)
  exact wpAny_pure (h h' _ ne.keeps)
theorem l3_pairItems {t : Addr} {vs : Array Value} {Q : List Value → Shared → Prop} (ht : s.heap.IsTuple t vs) (h : Q vs.toList s) : wpAny (model prog w) A (Builtin.Dict.pairItems (.ref t)) Q E s := by
  obtain ⟨o, ho, hc, n, hd⟩ := ht
  unfold Builtin.Dict.pairItems
  refine wpAny_bind (wpAny_typeOf (T := "tuple") ⟨o, ho, hc⟩ ?_)
  rw [if_pos (by decide)]
  refine wpAny_bind ?_
  obtain ⟨hp, g, d, tk, os⟩ := s
  unfold seqItems?
  repeat (any_goals (first | assumption | wp_step))
  all_goals (first | (rw [hd]; repeat (any_goals (first | assumption | wp_step))) | skip)
end
end PySem
namespace L2
open PySem PySem.Spec PyProof.Rows
section
variable {X : Cx}
theorem l3_entry_update_loop : entryFor table "dict.update.loop" = some Builtin.«dict.update.loop» := entryFor_of_tree (by kernel_rfl)
def PairAt (H : Hp) (t : V) (kv : Key × V) : Prop := ∃ a, t = .ref a ∧ H a = some (.tup [kV kv.1, kv.2])
def putAll (d : List (Key × V)) (kvs : List (Key × V)) : List (Key × V) := kvs.foldl (fun d p => putK d p.1 p.2) d
theorem update_loop {pins : List (Addr × Obj)} {σ : St} {A : Around} {D l it : Addr} {xs : List V} (hh : A.handled = none) :
    ∀ (n i : Nat) (j : Int) (t : Tok) (kvs d : List (Key × V)) (H : Hp) (s : Shared) (R : Result → Shared → Prop), xs.length - i = n → i ≤ xs.length → Inv X pins σ H s → H D = some (.dK d) → d.length + n ≤ sizeLine → SqL X.K H l xs → FpOk X pins H it → s.heap.IsListIter it l i →
      Paired (PairAt H) (xs.drop i) kvs → (∀ s', Inv X pins σ (upd H D (.dK (putAll d kvs))) s' → R (.ok (.ret .none)) s') →
      codeAny (model X.prog X.w) A (.builtin "dict.update.loop" ⟨[.ref D, .ref it, .int j t, .none], []⟩) R s := by
  intro n
  induction n using Nat.strongRecOn with
  | _ n ih =>
    intro i j t kvs d H s R hn hi I hD hz hq hf hit hp hR
    obtain ⟨its, rv, p, _⟩ := I.list hq
    have hl := rv.length
    obtain ⟨f0, f1, f2, f3, f4, f5⟩ := id hf
    refine codeAny_builtin l3_entry_update_loop ?_
    have hA : (A.under (.builtin "dict.update.loop" ⟨[.ref D, .ref it, .int j t, .none], []⟩)).handled = none := by rw [show (A.under (.builtin "dict.update.loop" ⟨[.ref D, .ref it, .int j t, .none], []⟩)).handled = A.handled from rfl]; exact hh
    generalize A.under (.builtin "dict.update.loop" ⟨[.ref D, .ref it, .int j t, .none], []⟩) = A' at hA ⊢
    unfold Builtin.«dict.update.loop»
    show wpAny _ _ (pyNext (.ref it) >>= _) _ _ _
    cases hx : xs[i]? with
    | none =>
      have hge : xs.length ≤ i := List.getElem?_eq_none_iff.mp hx
      refine wpAny_bind (wpAny_pyNext_list_end hA hit p.isList (by simp; omega) fun h' eb => ?_)
      have I1 : Inv X pins σ H { s with heap := h' } := I.turned (t' := s.toks) (fun b o hb e => eb b o hb e) f0 f1 f3 f4 f5
      have hdr : xs.drop i = [] := List.drop_eq_nil_of_le hge
      rw [hdr] at hp
      cases hp
      have e : upd H D (.dK (putAll d [])) = H := by
        funext b
        unfold upd
        split
        · rename_i hb; rw [hb, hD]; rfl
        · rfl
      rw [e] at hR
      show wpAny _ _ (Builtin.Dict.addKeywords D [] >>= _) _ _ _
      exact wpAny_bind (wpAny_pure (wpAny_pure (hR _ I1)))
    | some x =>
      have hlt : i < xs.length := (List.getElem?_eq_some_iff.mp hx).1
      obtain ⟨u, hu, ru⟩ := rv.get hx
      have hdr : xs.drop i = x :: xs.drop (i + 1) := by
        have e : xs[i] = x := (List.getElem?_eq_some_iff.mp hx).2
        rw [List.drop_eq_getElem_cons hlt, e]
      rw [hdr] at hp
      cases hp with
      | @cons _ kv _ r hkv hrest =>
        obtain ⟨ta, rfl, hta⟩ := hkv
        obtain rfl : u = Value.ref ta := ru
        refine wpAny_bind (wpAny_pyNext_list_item hit p.isList (x := .ref ta) (by simpa using hu) fun h' hit' sb => ?_)
        have I1 : Inv X pins σ H { s with heap := h' } := I.turned (t' := s.toks) (fun b o hb e => (sb.2 b hb).trans e) f0 f1 f3 f4 f5
        obtain ⟨its2, rv2, p2, _⟩ := I1.tuple (SqT.of hta)
        obtain ⟨w1, w2, rfl, r1, r2⟩ := Vals.two rv2
        refine wpAny_bind (wpAny_holding ?_)
        refine wpAny_bind (wpAny_tryCatch (l3_pairItems (show ({ s with heap := h' } : Shared).heap.IsTuple ta #[w1, w2] from (show IsTup h' ta #[w1, w2] by simpa using p2)) ?_))
        show wpAny _ _ (holding [w1, w2] (dictSet D w1 w2)) _ _ _
        obtain ⟨z, hd', vs, rel, dd⟩ := dk_of I1.hok hD
        have hzv : vs.length ≤ sizeLine := by rw [← rel.length]; exact z
        have hln : (putK d kv.1 kv.2).length ≤ d.length + 1 := length_putK d kv.1 kv.2
        have hn1 : n = xs.length - (i + 1) + 1 := by omega
        refine wpAny_holding (wpAny_dictSet_pairs (hsz := hzv) (kV_is r1) dd fun h2 dd' hs2 => ?_)
        have he : ∃ q, h2.get? D = some q := let ⟨q, _, _, hq, _⟩ := dd'; ⟨q, hq⟩
        have hDit : D ≠ it := fun z => by rw [z, f0] at hD; cases hD
        have hlD : SqL X.K (upd H D (.dK (putK d kv.1 kv.2))) l xs := by
          rcases hq with (q | ⟨o, q⟩) | q
          · exact .inl (.inl (by rw [upd_ne (ne_of q hD (fun z => nomatch z))]; exact q))
          · exact .inl (.inr ⟨o, by rw [upd_ne (ne_of q hD (fun z => nomatch z))]; exact q⟩)
          · exact .inr q
        refine wpAny_pure ⟨Code.quiet_builtin _ (by decide +kernel), ?_⟩
        refine ih (xs.length - (i + 1)) (by omega) (i + 1) _ _ r (putK d kv.1 kv.2) (upd H D (.dK (putK d kv.1 kv.2))) _ R rfl hlt (d_write (t' := _) I1 (by rw [hD]; exact True.intro) hs2 he (dk_new (by omega) hd' (rel.put kv.1 r2) dd')) upd_same (by omega) hlD ⟨by rw [upd_ne hDit.symm]; exact f0, hf.2⟩ (hit'.extBut hs2.extBut hDit.symm) ?_ ?_
        · exact Paired.mapP hrest fun a b ⟨c, e1, e2⟩ => ⟨c, e1, by rw [upd_ne (ne_of e2 hD (fun z => nomatch z))]; exact e2⟩
        · intro s' I'
          rw [upd_upd] at I'
          exact hR s' I'
def rDictOf (K : PySem.W.Frag) : List V → Hp → VK → Prop := fun vs H Q => ∃ l xs kvs, vs = [.ref l] ∧ H l = some (.lst xs) ∧ Paired (PairAt H) xs kvs ∧ ∀ D, H D = none → Q (.ref D) (upd H D (.dK (putAll [] kvs)))
theorem call_dict_pairs (hc : X.calm = true) : CallR X (.type "dict") (rDictOf X.K) := by
  intro pins s σ H vs us Q I r h
  obtain ⟨l, xs, kvs, rfl, hl, hp, q⟩ := h
  obtain ⟨u, rfl, ru⟩ := vals1 r
  obtain rfl : u = Value.ref l := ru
  have hh : X.A.handled = none := I.ok.hd hc
  have hD : H s.heap.objs.size = none := I.hok.fresh (Nat.le_refl _)
  have I1 : Inv X pins σ (upd H s.heap.objs.size (.dK [])) { s with heap := s.heap.push { cls := .type "dict", data := .dict #[] } } := I.laid (t' := s.toks) (fun _ _ e => Heap.get?_push_of_some _ e) (Nat.le_refl _) (dk_empty s.heap I.big)
  refine callType_codes (Q₁ := fun obj s₁ => obj = .ref s.heap.objs.size ∧ s₁ = { s with heap := s.heap.push { cls := .type "dict", data := .dict #[] } }) F.kt_called_dict (F.kt_typeCall_dict_1 _) F.entry_dict_init (kt_code_dict_new _ ⟨rfl, rfl⟩) ?_
  rintro obj s₁ ⟨rfl, rfl⟩
  have hnew : (s.heap.push { cls := .type "dict", data := .dict #[] }).DictOf (mixKind X.prog X.w) s.heap.objs.size [] := Heap.DictOf.new s.heap
  generalize hs1 : ({ s with heap := s.heap.push { cls := .type "dict", data := .dict #[] } } : Shared) = s1 at I1 ⊢
  have hnew1 : s1.heap.DictOf (mixKind X.prog X.w) s.heap.objs.size [] := by rw [← hs1]; exact hnew
  generalize s.heap.objs.size = D at hD I1 hnew1 ⊢
  have hl1 : (upd H D (.dK [])) l = some (.lst xs) := by rw [upd_ne (ne_of_none hl hD)]; exact hl
  refine ⟨hnew1.typeIs, F.args_dict_init_2 _ _, ?_⟩
  unfold Builtin.«dict.__init__»
  refine wpAny_bind ?_
  unfold Builtin.Dict.selfAndRest
  refine wpAny_bind (wpAny_notOrdered_dict hnew1.typeIs ?_)
  show wpAny _ _ (pure (D, [Value.ref l])) _ _ _
  refine wpAny_pure ?_
  show wpAny _ _ (Builtin.Dict.updateFrom "dict.__init__" D (.ref l) [] .none) _ _ _
  unfold Builtin.Dict.updateFrom
  obtain ⟨z, its, n, rv, e⟩ := (show ObjOk X.prog X.w _ s1.heap l (.lst xs) from I1.hok l _ hl1)
  refine wpAny_bind (wpAny_typeOf (T := "list") ⟨_, e, rfl⟩ ?_)
  rw [if_pos (by decide)]
  refine wpAny_bind (l3_getAttr_keys e hh fun h' tk hk => ?_)
  rw [if_pos (show (Option.isNone (none : Option Value)) = true from rfl)]
  have I2 : Inv X pins σ (upd H D (.dK [])) { s1 with heap := h', toks := tk } := I1.kept hk
  refine wpAny_bind (wpAny_rule ?_)
  refine wpAny_bind (wpAny_pyIter_list ⟨_, hk _ _ e, rfl, n, rfl⟩ ?_)
  have I3 := I2.kept (h' := h'.push { cls := .type "list_iterator", data := .fields #[.ref l, .int 0 0] }) (t' := tk) fun b o e => Heap.get?_push_of_some _ e
  refine wpAny_pure ⟨Code.quiet_builtin _ (by decide +kernel), ?_⟩
  refine update_loop (l := l) (it := h'.objs.size) (xs := xs) (d := []) (kvs := kvs) (pins := pins) (σ := σ) (A := X.A.in1) (show X.A.in1.handled = none from hh) xs.length 0 _ _ _ _ _ (by simp) (Nat.zero_le _) I3 upd_same (by simpa using z) (SqL.of hl1) (I2.fpOk (Nat.le_refl _) (I2.hok.fresh (Nat.le_refl _))) ⟨_, Heap.get?_push_size _ rfl, rfl, rfl⟩ ?_ ?_
  · exact Paired.mapP hp fun a b ⟨c, e1, e2⟩ => ⟨c, e1, by rw [upd_ne (ne_of_none e2 hD)]; exact e2⟩
  · intro s' I'
    rw [upd_upd] at I'
    exact ⟨rfl, .ref D, _, I', rfl, q D hD⟩
end
end L2
namespace L2
open PySem PySem.Spec PyProof.Rows SeqAt
inductive EB (K : PySem.W.Frag) (H : Hp) : Nat → V → V → Bool → Prop where
  | flat {n : Nat} {x y : V} : flatV x = true → flatV y = true → EB K H n x y (eqV x y)
  | same {n : Nat} {a : Addr} : EB K H n (.ref a) (.ref a) true
  | lst {n : Nat} {a b : Addr} {xs ys : List V} {e : Nat → Bool} : a ≠ b → SqL K H a xs → SqL K H b ys → xs.length = ys.length → (∀ j x y, xs[j]? = some x → ys[j]? = some y → EB K H n x y (e j)) →
      EB K H (n + 1) (.ref a) (.ref b) ((List.range xs.length).all e)
  | len {n : Nat} {a b : Addr} {xs ys : List V} : a ≠ b → SqL K H a xs → SqL K H b ys → xs.length ≠ ys.length → EB K H n (.ref a) (.ref b) false
  | tup {n : Nat} {a b : Addr} {xs ys : List V} {e : Nat → Bool} : a ≠ b → SqT K H a xs → SqT K H b ys → (∀ j x y, xs[j]? = some x → ys[j]? = some y → EB K H n x y (e j)) →
      EB K H (n + 1) (.ref a) (.ref b) ((List.range (min xs.length ys.length)).all e && xs.length == ys.length)
section
variable {X : Cx} {pins : List (Addr × Obj)} {σ : St} {H : Hp} {s : Shared}
theorem items_eq {K : PySem.W.Frag} {n : Nat} {A : Around} {xs ys : List V} {us vs : List Value} {e : Nat → Bool} (rv : Vals xs us) (rw' : Vals ys vs)
    (h : ∀ j x y, xs[j]? = some x → ys[j]? = some y → ∀ (A : Around) (u v : Value), RelV x u → RelV y v → A.units + n < cLine → EqAt A s u v (e j)) (hu : A.units + (n + 1) < cLine) :
    ∀ j (h1 : j < us.toArray.size) (h2 : j < vs.toArray.size), EqAt A.in1 s us.toArray[j] vs.toArray[j] (e j) := fun j h1 h2 => by
  have l1 := rv.length
  have l2 := rw'.length
  have h1' : j < us.length := by simpa using h1
  have h2' : j < vs.length := by simpa using h2
  have hx : xs[j]? = some (xs[j]'(by omega)) := List.getElem?_eq_getElem _
  have hy : ys[j]? = some (ys[j]'(by omega)) := List.getElem?_eq_getElem _
  obtain ⟨u, hu1, ru⟩ := rv.get hx
  obtain ⟨v, hv1, rv1⟩ := rw'.get hy
  have eu : us[j] = u := by have := List.getElem?_eq_getElem h1'; rw [hu1] at this; exact (Option.some.inj this).symm
  have ev : vs[j] = v := by have := List.getElem?_eq_getElem h2'; rw [hv1] at this; exact (Option.some.inj this).symm
  have q := h j _ _ hx hy A.in1 u v ru rv1 (by show A.units + 1 + n < cLine; omega)
  simpa [eu, ev] using q
theorem EB.at (I : Inv X pins σ H s) {n : Nat} {x y : V} {b : Bool} (q : EB X.K H n x y b) : ∀ (A : Around) (u v : Value), RelV x u → RelV y v → A.units + n < cLine → EqAt A s u v b := by
  induction q with
  | flat h1 h2 => exact fun A u v ru rv _ => eqAt_V ru rv h1 h2
  | same => intro A u v ru rv _; cases ru; cases rv; exact EqAt.same _
  | @lst n a b xs ys e hne ha hb hl _ ih =>
    intro A u v ru rv hu
    cases ru; cases rv
    obtain ⟨us, r1, p1, _⟩ := I.list ha
    obtain ⟨vs, r2, p2, _⟩ := I.list hb
    have l1 := r1.length
    have l2 := r2.length
    have q := RcAt.lists (A := A) p1.isList p2.isList (by simp; omega) (by omega) (items_eq (K := X.K) r1 r2 ih hu)
    rw [show us.toArray.size = xs.length by simp [l1]] at q
    exact EqAt.of_refs hne q
  | @len n a b xs ys hne ha hb hl =>
    intro A u v ru rv hu
    cases ru; cases rv
    obtain ⟨us, r1, p1, _⟩ := I.list ha
    obtain ⟨vs, r2, p2, _⟩ := I.list hb
    have l1 := r1.length
    have l2 := r2.length
    exact EqAt.of_refs hne (RcAt.lists_lengths p1.isList p2.isList (by simp; omega) (by omega))
  | @tup n a b xs ys e hne ha hb _ ih =>
    intro A u v ru rv hu
    cases ru; cases rv
    obtain ⟨us, r1, p1, _⟩ := I.tuple ha
    obtain ⟨vs, r2, p2, _⟩ := I.tuple hb
    have l1 := r1.length
    have l2 := r2.length
    have q := RcAt.tuples (A := A) (show s.heap.IsTuple a us.toArray from p1) (show s.heap.IsTuple b vs.toArray from p2) (by omega) (items_eq (K := X.K) r1 r2 ih hu)
    rw [show us.toArray.size = xs.length by simp [l1], show vs.toArray.size = ys.length by simp [l2]] at q
    exact EqAt.of_refs hne q
end
def RB (K : PySem.W.Frag) (H : Hp) (n : Nat) (x y : V) (b : Bool) : Prop := ∃ a c xs ys, x = .ref a ∧ y = .ref c ∧
  ((∃ e : Nat → Bool, SqL K H a xs ∧ SqL K H c ys ∧ xs.length = ys.length ∧ (∀ j x y, xs[j]? = some x → ys[j]? = some y → EB K H n x y (e j)) ∧ b = (List.range xs.length).all e) ∨
   (SqL K H a xs ∧ SqL K H c ys ∧ xs.length ≠ ys.length ∧ b = false) ∨
   (∃ e : Nat → Bool, SqT K H a xs ∧ SqT K H c ys ∧ (∀ j x y, xs[j]? = some x → ys[j]? = some y → EB K H n x y (e j)) ∧ b = ((List.range (min xs.length ys.length)).all e && xs.length == ys.length)))
section
variable {X : Cx}
theorem op_eqD {m : Nat} (hu : X.A.units + (m + 1) < cLine) : OpR X (compareOp .Eq) (fun x y H Q => ∃ b, RB X.K H m x y b ∧ Q (.bl b) H) := by
  intro pins s σ H x y v u Q I rx ry h
  obtain ⟨b, ⟨a, c, xs, ys, rfl, rfl, q⟩, k⟩ := h
  cases rx; cases ry
  rcases q with ⟨e, ha, hb, hl, he, rfl⟩ | ⟨ha, hb, hl, rfl⟩ | ⟨e, ha, hb, he, rfl⟩
  · obtain ⟨us, r1, p1, _⟩ := I.list ha
    obtain ⟨vs, r2, p2, _⟩ := I.list hb
    have l1 := r1.length
    have l2 := r2.length
    refine eq_listAt p1.isList p2.isList (by simp; omega) (by omega) (items_eq (K := X.K) r1 r2 (fun j x y h1 h2 => (he j x y h1 h2).at I) hu) ?_
    rw [show us.toArray.size = xs.length by simp [l1]]
    exact ⟨.bl _, H, I, rfl, k⟩
  · obtain ⟨us, r1, p1, _⟩ := I.list ha
    obtain ⟨vs, r2, p2, _⟩ := I.list hb
    have l1 := r1.length
    have l2 := r2.length
    exact eq_list_lengthsAt p1.isList p2.isList (by simp; omega) (by omega) ⟨.bl _, H, I, rfl, k⟩
  · obtain ⟨us, r1, p1, _⟩ := I.tuple ha
    obtain ⟨vs, r2, p2, _⟩ := I.tuple hb
    have l1 := r1.length
    have l2 := r2.length
    refine eq_tupleAt (show s.heap.IsTuple a us.toArray from p1) (show s.heap.IsTuple c vs.toArray from p2) (by omega) (items_eq (K := X.K) r1 r2 (fun j x y h1 h2 => (he j x y h1 h2).at I) hu) ?_
    rw [show us.toArray.size = xs.length by simp [l1], show vs.toArray.size = ys.length by simp [l2]]
    exact ⟨.bl _, H, I, rfl, k⟩
theorem op_neD {m : Nat} (hu : X.A.units + (m + 1) < cLine) : OpR X (compareOp .NotEq) (fun x y H Q => ∃ b, RB X.K H m x y b ∧ Q (.bl (!b)) H) := by
  intro pins s σ H x y v u Q I rx ry h
  obtain ⟨b, ⟨a, c, xs, ys, rfl, rfl, q⟩, k⟩ := h
  cases rx; cases ry
  rcases q with ⟨e, ha, hb, hl, he, rfl⟩ | ⟨ha, hb, hl, rfl⟩ | ⟨e, ha, hb, he, rfl⟩
  · obtain ⟨us, r1, p1, _⟩ := I.list ha
    obtain ⟨vs, r2, p2, _⟩ := I.list hb
    have l1 := r1.length
    have l2 := r2.length
    refine RcNeAt.lists p1.isList p2.isList (by simp; omega) (by omega) (items_eq (K := X.K) r1 r2 (fun j x y h1 h2 => (he j x y h1 h2).at I) hu) X.prog X.w X.xe _ ?_
    rw [show us.toArray.size = xs.length by simp [l1]]
    exact ⟨.bl _, H, I, rfl, k⟩
  · obtain ⟨us, r1, p1, _⟩ := I.list ha
    obtain ⟨vs, r2, p2, _⟩ := I.list hb
    have l1 := r1.length
    have l2 := r2.length
    exact RcNeAt.lists_lengths p1.isList p2.isList (by simp; omega) (by omega) X.prog X.w X.xe _ ⟨.bl _, H, I, rfl, k⟩
  · obtain ⟨us, r1, p1, _⟩ := I.tuple ha
    obtain ⟨vs, r2, p2, _⟩ := I.tuple hb
    have l1 := r1.length
    have l2 := r2.length
    refine RcNeAt.tuples (show s.heap.IsTuple a us.toArray from p1) (show s.heap.IsTuple c vs.toArray from p2) (by omega) (items_eq (K := X.K) r1 r2 (fun j x y h1 h2 => (he j x y h1 h2).at I) hu) X.prog X.w X.xe _ ?_
    rw [show us.toArray.size = xs.length by simp [l1], show vs.toArray.size = ys.length by simp [l2]]
    exact ⟨.bl _, H, I, rfl, k⟩
end
def ET (K : PySem.W.Frag) (H : Hp) (n : Nat) (x y : V) : Prop := EB K H n x y true
theorem all_true {n : Nat} : (List.range n).all (fun _ => true) = true := by rw [List.all_eq_true]; intro _ _; rfl
theorem ET.lst {K : PySem.W.Frag} {H : Hp} {n : Nat} {a b : Addr} {xs ys : List V} (ha : SqL K H a xs) (hb : SqL K H b ys) (hl : xs.length = ys.length) (h : ∀ (j : Nat) (x y : V), xs[j]? = some x → ys[j]? = some y → ET K H n x y) : ET K H (n + 1) (.ref a) (.ref b) := by
  by_cases e : a = b
  · subst e; exact .same
  · have q := EB.lst (e := fun _ => true) e ha hb hl h
    rw [all_true] at q
    exact q
theorem eqV_refl {x : V} (h : flatV x = true) : eqV x x = true := by cases x <;> simp_all [flatV, eqV]
theorem ET.refl {K : PySem.W.Frag} {H : Hp} {n : Nat} {x : V} (h : flatV x = true ∨ ∃ a, x = .ref a) : ET K H n x x := by
  rcases h with h | ⟨a, rfl⟩
  · have q := EB.flat (K := K) (H := H) (n := n) h h
    rw [eqV_refl h] at q
    exact q
  · exact .same
theorem RB.lst {K : PySem.W.Frag} {H : Hp} {n : Nat} {a b : Addr} {xs ys : List V} (ha : SqL K H a xs) (hb : SqL K H b ys) (hl : xs.length = ys.length) (h : ∀ (j : Nat) (x y : V), xs[j]? = some x → ys[j]? = some y → ET K H n x y) : RB K H n (.ref a) (.ref b) true :=
  ⟨a, b, xs, ys, rfl, rfl, .inl ⟨fun _ => true, ha, hb, hl, h, all_true.symm⟩⟩
theorem RB.tup {K : PySem.W.Frag} {H : Hp} {n : Nat} {a b : Addr} {xs ys : List V} (ha : SqT K H a xs) (hb : SqT K H b ys) (hl : xs.length = ys.length) (h : ∀ (j : Nat) (x y : V), xs[j]? = some x → ys[j]? = some y → ET K H n x y) : RB K H n (.ref a) (.ref b) true :=
  ⟨a, b, xs, ys, rfl, rfl, .inr (.inr ⟨fun _ => true, ha, hb, h, by rw [all_true, hl, beq_self_eq_true]; rfl⟩)⟩
theorem RB.nil {K : PySem.W.Frag} {H : Hp} {n : Nat} {a b : Addr} {xs : List V} (ha : SqL K H a xs) (hb : SqL K H b []) : RB K H n (.ref a) (.ref b) xs.isEmpty := by
  cases xs with
  | nil => exact RB.lst ha hb rfl (fun j x y h => by simp at h)
  | cons x r => exact ⟨a, b, _, [], rfl, rfl, .inr (.inl ⟨ha, hb, by simp, rfl⟩)⟩
section
variable {X : Cx} {pos : Pos}
def gLst (K : PySem.W.Frag) (n : Nat) (t : TGs) : TG := fun v σ H Q => ∃ a xs, v = .ref a ∧ SqL K H a xs ∧ xs.length = n ∧ t xs σ H Q
theorem pg_lst {es : List Expr} {k : Nat} {t : TGs} {n : Nat} (hc : X.calm = true) (h : PGs X es t)
    (hn : (assignEach es X.env).length = n := by rfl) (hst : (assignEach es X.env).findIdx? (·.1) = none := by rfl) : PG X (.Tuple es k pos) (gLst X.K n t) := by
  intro pins s σ H v u Q I r hw
  obtain ⟨a, xs, e1, hq, hl, hw⟩ := hw
  subst e1
  cases r
  obtain ⟨its, rv, ht, hz⟩ := I.list hq
  have hlen := rv.length
  rw [assign_Tuple]
  refine wpAny_bind (wpAny_standAt ?_)
  unfold unpack
  rw [show (assignEach es X.env).length = its.toArray.size by simp [hn, ← hl, hlen], hst]
  refine wpAny_bind (wpAny_holding (PySem.W.kun_itemsOf (I.ok.hd hc) ht.isList fun h' hx => ?_))
  have I1 : Inv X pins σ H { s with heap := h' } := I.kept (t' := s.toks) fun b o e => hx b o (Nat.ne_of_lt (Heap.lt_size e)) e
  exact h pins _ σ H xs _ Q I1 (by simpa using rv) hw
def CDivB (i j : Int) : Prop := 0 < j ∧ j < 2 ^ 1000
theorem op_fdivB : OpR X (binaryOp .FloorDiv) (rI CDivB fun i j => .int (i / j)) := opI fun i j _ _ _ _ _ hc q => by
  have h1 : (0 : Int) < j := hc.1
  have h2 : j < 2 ^ 1000 := hc.2
  have h3 : j.natAbs < 2 ^ 1000 := by omega
  exact floordiv_int (by omega) (by rw [Int.fdiv_eq_ediv_of_nonneg i (by omega)]; exact q) (.inl (PyProof.noPylong_of_log2 (Nat.lt_of_lt_of_le ((Nat.log2_lt (by omega)).mpr h3) (by decide))))
end
end L2
namespace TW
open PySem L2
inductive K2 where
  | plus | less | same | under | both
def K2.str : K2 → Str
  | .plus => "plus" | .less => "less" | .same => "same" | .under => "under" | .both => "both"
inductive E where
  | num (n : Int) | box (tag x : Str) | yes | nt (a : E) | two (k : K2) (a b : E)
def Tp (H : Hp) (v : V) (xs : List V) : Prop := ∃ p, v = .ref p ∧ H p = some (.tup xs)
def EAt (H : Hp) : V → E → Prop
  | v, .num n => Tp H v [.str "number", .int n]
  | v, .box t x => Tp H v [.str t, .str x]
  | v, .yes => Tp H v [.str "yes"]
  | v, .nt a => ∃ x, Tp H v [.str "not", x] ∧ EAt H x a
  | v, .two k a b => ∃ x y, Tp H v [.str k.str, x, y] ∧ EAt H x a ∧ EAt H y b
def TK (H H' : Hp) : Prop := ∀ b xs, H b = some (.tup xs) → H' b = some (.tup xs)
theorem TK.trans {A B C : Hp} (a : TK A B) (b : TK B C) : TK A C := fun c o h => b c o (a c o h)
theorem Tp.keep {H H' : Hp} {v : V} {xs : List V} (k : TK H H') (h : Tp H v xs) : Tp H' v xs := let ⟨p, e, q⟩ := h; ⟨p, e, k p xs q⟩
theorem EAt.keep {H H' : Hp} (k : TK H H') : ∀ {e : E} {v : V}, EAt H v e → EAt H' v e
  | .num _, _, h => Tp.keep k h
  | .box _ _, _, h => Tp.keep k h
  | .yes, _, h => Tp.keep k h
  | .nt _, _, ⟨x, h, a⟩ => ⟨x, h.keep k, EAt.keep k a⟩
  | .two _ _ _, _, ⟨x, y, h, a, b⟩ => ⟨x, y, h.keep k, EAt.keep k a, EAt.keep k b⟩
def E.dep : E → Nat
  | .num _ => 0 | .box _ _ => 0 | .yes => 0 | .nt a => a.dep + 1 | .two _ a b => max a.dep b.dep + 1
def E.isS : E → Prop
  | .num _ => True
  | .box _ _ => True
  | .two .plus a b => a.isS ∧ b.isS
  | .two .less a b => a.isS ∧ b.isS
  | _ => False
def E.isC : E → Prop
  | .yes => True
  | .nt a => a.isC
  | .two .same a b => a.isS ∧ b.isS
  | .two .under a b => a.isS ∧ b.isS
  | .two .both a b => a.isC ∧ b.isC
  | _ => False
def E.okIn (P : Str → Str → Prop) : E → Prop
  | .num n => n.natAbs < 2 ^ 100 | .box t x => P t x | .yes => True | .nt a => a.okIn P | .two _ a b => a.okIn P ∧ b.okIn P
theorem same_new {H : Hp} {p : Addr} (h : H p = none) (o : HO) : Same H (upd H p o) := fun b u q => by rw [upd_ne (ne_of_none q h)]; exact q
theorem Same.tk {H H' : Hp} (s : Same H H') : TK H H' := fun b xs h => s b _ h
theorem tk_new {H : Hp} {p : Addr} (h : H p = none) (o : HO) : TK H (upd H p o) := Same.tk (same_new h o)
theorem small {n : Nat} (h : n ≤ 1000) : n ≤ sizeLine := Nat.le_of_lt (small1000 h)
def BoxAt (H : Hp) (v : V) (b : Str × Int) : Prop := Tp H v [.str b.1, .int b.2]
end TW
set_option exponentiation.threshold 4000
namespace TW
open PySem L2
def Src (K : PySem.W.Frag) (mg : Str → Option Value) (x : Str) (st : Stmt) : Prop := ∃ f fd, Fun K x x st f fd ∧ mg x = some (.ref f)
def Has (P : Program) (w : World) (K : PySem.W.Frag) (mg : Str → Option Value) (base : Heap) (x : Str) (ps : List Str) (k : Nat) (sp : Sp) : Prop :=
  ∃ f fd, FnOk P w K mg base CX0 k f fd ps sp ∧ PySem.W.keepIn K (.ref f) = true ∧ Binds K fd ps [] ∧ mg x = some (.ref f)
theorem Has.mono {P : Program} {w : World} {K : PySem.W.Frag} {mg : Str → Option Value} {base : Heap} {x : Str} {ps : List Str} {j k : Nat} {sp : Sp} (h : Has P w K mg base x ps j sp) (hk : j ≤ k) : Has P w K mg base x ps k sp :=
  let ⟨f, fd, a, b, c, d⟩ := h; ⟨f, fd, a.mono hk, b, c, d⟩
theorem up_ne {A : Around} {k : Nat} (hr : Room k A) (m : Nat) (hm : m ≤ 64) : A.units + m < cLine := by have := hr.units; omega
end TW
namespace L2
open PySem PySem.Spec PyProof.Rows
structure NoStar (e : Expr) : Prop where
  h : ∀ (es : List Expr) (env : Env), starEach (e :: es) env = (false, eval e env) :: starEach es env
theorem ns_of {e : Expr} (h : ∀ x p, e ≠ .Starred x p) : NoStar e := ⟨fun es env => by
  cases e <;> first | rfl | exact absurd rfl (h _ _)⟩
theorem ns_const {c k p} : NoStar (.Constant c k p) := ns_of fun _ _ z => nomatch z
theorem ns_name {x p} : NoStar (.Name x p) := ns_of fun _ _ z => nomatch z
theorem ns_call {f a k p} : NoStar (.Call f a k p) := ns_of fun _ _ z => nomatch z
theorem ns_bin {a o b p} : NoStar (.BinOp a o b p) := ns_of fun _ _ z => nomatch z
theorem ns_sub {a b p} : NoStar (.Subscript a b p) := ns_of fun _ _ z => nomatch z
theorem ns_tup {a b p} : NoStar (.Tuple a b p) := ns_of fun _ _ z => nomatch z
theorem ns_lst {a p} : NoStar (.List a p) := ns_of fun _ _ z => nomatch z
theorem ns_cmp {a b c p} : NoStar (.Compare a b c p) := ns_of fun _ _ z => nomatch z
theorem ns_lc {a b c p} : NoStar (.ListComp a b c p) := ns_of fun _ _ z => nomatch z
theorem ns_un {a b p} : NoStar (.UnaryOp a b p) := ns_of fun _ _ z => nomatch z
theorem ns_bool {a b p} : NoStar (.BoolOp a b p) := ns_of fun _ _ z => nomatch z
def NoStars (es : List Expr) : Prop := ∀ (pos : Pos) (env : Env), (backTo pos (starEach es env)).any (·.1) = false
theorem nss_nil : NoStars [] := fun _ _ => rfl
theorem nss_cons {e : Expr} {es : List Expr} (h : NoStar e) (hs : NoStars es) : NoStars (e :: es) := fun pos env => by
  rw [h.h es env]
  exact hs pos env
structure PAs (X : Cx) (es : List Expr) (t : TA) : Prop where
  pa : PA X es t
  ns : ∀ e r, es = e :: r → NoStar e ∧ NoStars r
  nss : NoStars es
section
variable {X : Cx} {e : Expr} {es : List Expr} {te : TE} {t : TA} {pos : Pos}
theorem an : PAs X [] tNil := ⟨pa_nil, (fun _ _ z => nomatch z), nss_nil⟩
theorem ac (ha : PE X e te) (hr : PAs X es t)
    (hs : NoStar e := by first | exact ns_const | exact ns_name | exact ns_call | exact ns_bin | exact ns_sub | exact ns_tup | exact ns_lst | exact ns_cmp | exact ns_lc | exact ns_dc | exact ns_un | exact ns_bool | exact ns_attr) : PAs X (e :: es) (tCons te t) :=
  ⟨pa_cons ha hr.pa (hs.h es X.env), fun e' r z => by injection z with z1 z2; subst z1 z2; exact ⟨hs, hr.nss⟩, nss_cons hs hr.nss⟩
theorem xtup {x1} (h : PAs X es t) : PE X (.Tuple es x1 pos) (tTup t) := pe_tup h.pa
theorem xlst (h : PAs X es t) : PE X (.List es pos) (tLst t) := pe_lst h.pa
theorem xcallB {x : Str} {p : Pos} {id : String} {r : List V → Hp → VK → Prop} (hc : CallR X (.builtin id) r) (hg : Gl X x) (hm : X.mg x = none) (hv : bootBuiltins x = some (.builtin id)) (ha : PAs X (e :: es) t) (hn : x ≠ "__name__" := by decide) (hdb : (x == ("__debug__" : Str)) = false := by decide) :
    PE X (.Call (.Name x p) (e :: es) [] pos) (tCB r t) := pe_callB hc hg hm hv ha.pa hn hdb ((ha.ns e es rfl).1.h es X.env) ((ha.ns e es rfl).2 pos X.env)
theorem xcallT {x : Str} {p : Pos} {T : String} {r : List V → Hp → VK → Prop} (hc : CallR X (.type T) r) (hg : Gl X x) (hm : X.mg x = none) (hv : bootBuiltins x = some (.type T)) (ha : PAs X (e :: es) t) (hn : x ≠ "__name__" := by decide) (hdb : (x == ("__debug__" : Str)) = false := by decide) :
    PE X (.Call (.Name x p) (e :: es) [] pos) (tCB r t) := pe_callTy hc hg hm hv ha.pa hn hdb ((ha.ns e es rfl).1.h es X.env) ((ha.ns e es rfl).2 pos X.env)
theorem xown {x : Str} {p : Pos} {ps : List Str} {k : Nat} {sp : Sp} (D : TW.Has X.prog X.w X.K X.mg X.base x ps k sp) (hr : Room k X.A) (hg : Gl X x) (ha : PAs X (e :: es) t) (hdb : (x == ("__debug__" : Str)) = false := by decide) :
    PE X (.Call (.Name x p) (e :: es) [] pos) (tCall sp [] E0 t) :=
  let ⟨_, _, G, kp, b, m⟩ := D
  pe_call G hr hg m kp b .nil pass0 ha.pa hdb ((ha.ns e es rfl).1.h es X.env) ((ha.ns e es rfl).2 pos X.env)
theorem xrange1 {tg a : Expr} {ta : TA} {p : Pos} (hg : Gl X "range") (hm : X.mg "range" = none) (ha : PAs X [a] ta) : PI X tg (.Call (.Name "range" p) [a] [] pos) (iRng1 ta) :=
  pi_range1 hg hm ha.pa ((ha.ns a [] rfl).1.h [] X.env)
theorem xbm1 {o : Expr} {name : Str} {apos : Pos} {T id : String} {r : V → List V → Hp → VK → Prop} {to : TE} (pa : PlainAttrs T) (slot : Slot T name id) (hty : typeOf (.builtin id) = pure (.type "method_descriptor")) (hm : MtR X id r) (ho : PE X o to) (ha : PAs X [e] t)
    (hbase : attributeBase o name X.env (eval o X.env) = eval o X.env := by rfl) (hline : (apos.endLine == pos.line) = true := by rfl) : PE X (.Call (.Attribute o name apos) [e] [] pos) (tBM X.K T r to t) :=
  pe_bm pa slot hty hm ho ha.pa hbase (by rw [(ha.ns e [] rfl).1.h [] X.env]; rfl) hline ((ha.ns e [] rfl).1.h [] X.env) ((ha.ns e [] rfl).2 pos X.env)
end
end L2
namespace L3
open PySem PySem.Spec PyProof.Rows L2
structure SE (X : Cx) (e : Expr) (t : TE) : Prop where
  h : PE X e t
structure ST (X : Cx) (e : Expr) (t : TT) : Prop where
  h : PT X e t
structure SW (X : Cx) (e : Expr) (t : TT) : Prop where
  h : PW X e t
structure SA (X : Cx) (es : List Expr) (t : TA) : Prop where
  h : PAs X es t
structure SS (X : Cx) (s : Stmt) (t : TS) : Prop where
  h : PS X s t
structure SL (X : Cx) (ss : List Stmt) (t : TS) : Prop where
  h : PSs X ss t
structure SG (X : Cx) (e : Expr) (t : TG) : Prop where
  h : PG X e t
structure SGs (X : Cx) (es : List Expr) (t : TGs) : Prop where
  h : PGs X es t
structure SI (X : Cx) (tg iter : Expr) (t : TI) : Prop where
  h : PI X tg iter t
structure SIf (X : Cx) (cs : List Expr) (t : TT) : Prop where
  h : PIfs X cs t
structure SO (X : Cx) (f : Value → Value → Sem Value) (r : R2) : Prop where
  h : OpR X f r
structure SX (X : Cx) (r : R2) : Prop where
  h : IxR X r
structure SC (X : Cx) (f : Value) (r : List V → Hp → VK → Prop) : Prop where
  h : CallR X f r
structure SM (X : Cx) (id : String) (r : V → List V → Hp → VK → Prop) : Prop where
  h : MtR X id r
section
variable {X : Cx} {a b c e o : Expr} {es : List Expr} {ta tb tc te : TE} {t : TA} {tA uB : TT} {pos : Pos} {r : R2}
theorem v (i : Nat) {x : Str} (hN : X.N[i]? = some x := by rfl) (hv : Vis X.env.scope x := by first | exact Or.inl rfl | exact Or.inr (Or.inl rfl) | exact Or.inr (Or.inr rfl)) (hd : (x == ("__debug__" : Str)) = false := by decide)
    (hcd : (x == ("__classdict__" : Str)) = false := by decide) : SE X (.Name x pos) (tVar i) := ⟨pe_var hN hv hd hcd⟩
theorem int {i j} : SE X (.Constant (.int i) j pos) (tC (.int i)) := ⟨pe_int⟩
theorem bl {k j} : SE X (.Constant (.bool k) j pos) (tC (.bl k)) := ⟨pe_bl⟩
theorem str {x j} : SE X (.Constant (.str x) j pos) (tC (.str x)) := ⟨pe_str⟩
theorem glob {x : Str} {w : V} {u : Value} (hg : Gl X x) (hm : X.mg x = some u) (r : RelV w u) (hd : (x == ("__debug__" : Str)) = false := by decide) : SE X (.Name x pos) (tC w) := ⟨pe_glob hg hm r hd⟩
theorem bltn {x : Str} {w : V} {u : Value} (hg : Gl X x) (hm : X.mg x = none) (hv : bootBuiltins x = some u) (r : RelV w u) (hn : x ≠ "__name__" := by decide) (hd : (x == ("__debug__" : Str)) = false := by decide) : SE X (.Name x pos) (tC w) := ⟨pe_bltn hg hm hv r hn hd⟩
theorem op {k : Operator} (ho : SO X (binaryOp k) r) (ha : SE X a ta) (hb : SE X b tb) : SE X (.BinOp a k b pos) (tOp r ta tb) := ⟨pe_op ho.h ha.h hb.h⟩
theorem cmp {k : CmpOp} (ho : SO X (compareOp k) r) (ha : SE X a ta) (hb : SE X b tb) (hm : behindInMarks k b = false := by exact nomark _) : ST X (.Compare a [k] [b] pos) (tTest (tOp r ta tb)) := ⟨pt_cmpR ho.h ha.h hb.h hm⟩
theorem cmpE {k : CmpOp} (ho : SO X (compareOp k) r) (ha : SE X a ta) (hb : SE X b tb) (hm : behindInMarks k b = false := by exact nomark _) : SE X (.Compare a [k] [b] pos) (tOp r ta tb) := ⟨pe_cmpR ho.h ha.h hb.h hm⟩
theorem o_add : SO X (binaryOp .Add) (rI0 fun i j => .int (i + j)) := ⟨op_add⟩
theorem o_sub : SO X (binaryOp .Sub) (rI0 fun i j => .int (i - j)) := ⟨op_sub⟩
theorem o_mul : SO X (binaryOp .Mult) (rI CMul fun i j => .int (i * j)) := ⟨op_mul⟩
theorem o_mod : SO X (binaryOp .Mod) (rI (fun _ j => 0 < j) fun i j => .int (i % j)) := ⟨op_mod⟩
theorem o_div : SO X (binaryOp .FloorDiv) (rI CDivB fun i j => .int (i / j)) := ⟨op_fdivB⟩
theorem o_pow : SO X (binaryOp .Pow) (rI CPow fun i j => .int (i ^ j.toNat)) := ⟨op_pow⟩
theorem o_cat : SO X (binaryOp .Add) rCat := ⟨op_cat⟩
theorem o_eq : SO X (compareOp .Eq) rEq := ⟨op_eq⟩
theorem o_ne : SO X (compareOp .NotEq) rNe := ⟨op_ne⟩
theorem o_lt : SO X (compareOp .Lt) (rI0 fun i j => .bl (decide (i < j))) := ⟨op_lt⟩
theorem o_gt : SO X (compareOp .Gt) (rI0 fun i j => .bl (decide (j < i))) := ⟨op_gt⟩
theorem o_ge : SO X (compareOp .GtE) (rI0 fun i j => .bl (decide (j ≤ i))) := ⟨op_ge⟩
theorem o_eqD {KK : PySem.W.Frag} {m : Nat} (hu : X.A.units + (m + 1) < cLine) (hK : X.K = KK := by first | exact cxC_K | rfl) : SO X (compareOp .Eq) (fun x y H Q => ∃ b, RB KK H m x y b ∧ Q (.bl b) H) := by
  subst hK
  exact ⟨op_eqD hu⟩
theorem o_neD {KK : PySem.W.Frag} {m : Nat} (hu : X.A.units + (m + 1) < cLine) (hK : X.K = KK := by first | exact cxC_K | rfl) : SO X (compareOp .NotEq) (fun x y H Q => ∃ b, RB KK H m x y b ∧ Q (.bl (!b)) H) := by
  subst hK
  exact ⟨op_neD hu⟩
theorem o_in {KK : PySem.W.Frag} (hK : X.K = KK := by first | exact cxC_K | rfl) : SO X (compareOp .In) (rIn KK false) := by
  subst hK
  exact ⟨op_in_seq⟩
theorem o_notIn {KK : PySem.W.Frag} (hK : X.K = KK := by first | exact cxC_K | rfl) : SO X (compareOp .NotIn) (rIn KK true) := by
  subst hK
  exact ⟨op_notIn_seq⟩
theorem or2 {rest : List Expr} (ha : ST X a tA) (hb : SW X (.BoolOp .Or (b :: rest) pos) uB) : SW X (.BoolOp .Or (a :: b :: rest) pos) (tOr tA uB) := ⟨pw_or ha.h hb.h⟩
theorem or1 (ha : ST X a tA) : SW X (.BoolOp .Or [a] pos) tA := ⟨pw_or1 ha.h⟩
theorem and2 {rest : List Expr} (ha : ST X a tA) (hb : SW X (.BoolOp .And (b :: rest) pos) uB) : SW X (.BoolOp .And (a :: b :: rest) pos) (tAnd tA uB) := ⟨pw_and ha.h hb.h⟩
theorem and1 (ha : ST X a tA) : SW X (.BoolOp .And [a] pos) tA := ⟨pw_and1 ha.h⟩
theorem tw (h : SW X e tA) : ST X e tA := ⟨h.h.pt⟩
theorem nt (ha : ST X a tA) : ST X (.UnaryOp .Not a pos) (tNot tA) := ⟨pt_not ha.h⟩
theorem tval (h : SE X e te) (he : ∀ whole, isTrue e X.env whole = (do let v ← whole; standAt e.pos; holding [v] (truthy v)) := by intro _; rfl) : ST X e (tB te) := ⟨pt_val h.h he⟩
theorem ix (hr : SX X r) (ha : SE X a ta) (hb : SE X b tb) (hs : PlainIx b := by exact fun _ _ => rfl) : SE X (.Subscript a b pos) (tOp r ta tb) := ⟨pe_ix hr.h ha.h hb.h hs⟩
theorem ixL {KK : PySem.W.Frag} (hK : X.K = KK := by first | exact cxC_K | rfl) : SX X (rIxL KK) := by
  subst hK
  exact ⟨ix_list⟩
theorem ixT {KK : PySem.W.Frag} (hK : X.K = KK := by first | exact cxC_K | rfl) : SX X (rIxT KK) := by
  subst hK
  exact ⟨ix_tup⟩
theorem dget (hu : X.A.units + 1 < cLine) (ho : SE X a ta) (hi : SE X b tb) (hs : NoSl b := by exact fun _ _ => rfl) : SE X (.Subscript a b pos) (tDGet ta tb) := ⟨pe_dget hu ho.h hi.h hs⟩
theorem slT1 {KK : PySem.W.Frag} {p2 : Pos} (ha : SE X a ta) (hb : SE X b tb) (hK : X.K = KK := by first | exact cxC_K | rfl) : SE X (.Subscript a (.Slice (some b) none none p2) pos) (tSl (rSlT KK) ta (tPart tb) tNoPart) := by
  subst hK
  exact ⟨pe_slice sl_tup ha.h (po_some hb.h) po_none⟩
theorem slL2 {KK : PySem.W.Frag} {p2 : Pos} (ha : SE X a ta) (hb : SE X b tb) (hK : X.K = KK := by first | exact cxC_K | rfl) : SE X (.Subscript a (.Slice none (some b) none p2) pos) (tSl (rSlL KK) ta tNoPart (tPart tb)) := by
  subst hK
  exact ⟨pe_slice sl_list ha.h po_none (po_some hb.h)⟩
theorem n : SA X [] tNil := ⟨an⟩
theorem k (ha : SE X e te) (hr : SA X es t) (hs : NoStar e := by first | exact ns_const | exact ns_name | exact ns_call | exact ns_bin | exact ns_sub | exact ns_tup | exact ns_lst | exact ns_cmp | exact ns_lc | exact ns_dc | exact ns_un | exact ns_bool | exact ns_attr) :
    SA X (e :: es) (tCons te t) := ⟨ac ha.h hr.h hs⟩
theorem tup {x1} (h : SA X es t) : SE X (.Tuple es x1 pos) (tTup t) := ⟨xtup h.h⟩
theorem lst (h : SA X es t) : SE X (.List es pos) (tLst t) := ⟨xlst h.h⟩
theorem callB {x : Str} {p : Pos} {id : String} {rr : List V → Hp → VK → Prop} (hc : SC X (.builtin id) rr) (hg : Gl X x) (hm : X.mg x = none) (hv : bootBuiltins x = some (.builtin id)) (ha : SA X (e :: es) t) (hn : x ≠ "__name__" := by decide) (hdb : (x == ("__debug__" : Str)) = false := by decide) :
    SE X (.Call (.Name x p) (e :: es) [] pos) (tCB rr t) := ⟨xcallB hc.h hg hm hv ha.h hn hdb⟩
theorem callT {x : Str} {p : Pos} {T : String} {rr : List V → Hp → VK → Prop} (hc : SC X (.type T) rr) (hg : Gl X x) (hm : X.mg x = none) (hv : bootBuiltins x = some (.type T)) (ha : SA X (e :: es) t) (hn : x ≠ "__name__" := by decide) (hdb : (x == ("__debug__" : Str)) = false := by decide) :
    SE X (.Call (.Name x p) (e :: es) [] pos) (tCB rr t) := ⟨xcallT hc.h hg hm hv ha.h hn hdb⟩
theorem own {x : Str} {p : Pos} {ps : List Str} {kk : Nat} {sp : Sp} (D : TW.Has X.prog X.w X.K X.mg X.base x ps kk sp) (hr : Room kk X.A) (hg : Gl X x) (ha : SA X (e :: es) t) (hdb : (x == ("__debug__" : Str)) = false := by decide) :
    SE X (.Call (.Name x p) (e :: es) [] pos) (tCall sp [] E0 t) := ⟨xown D hr hg ha.h hdb⟩
theorem bm1 {KK : PySem.W.Frag} {name : Str} {apos : Pos} {T id : String} {rr : V → List V → Hp → VK → Prop} (pa : PlainAttrs T) (slot : Slot T name id) (hty : typeOf (.builtin id) = pure (.type "method_descriptor")) (hm : SM X id rr) (ho : SE X o ta) (ha : SA X [e] t)
    (hbase : attributeBase o name X.env (eval o X.env) = eval o X.env := by rfl) (hline : (apos.endLine == pos.line) = true := by rfl) (hK : X.K = KK := by first | exact cxC_K | rfl) : SE X (.Call (.Attribute o name apos) [e] [] pos) (tBM KK T rr ta t) := by
  subst hK
  exact ⟨xbm1 pa slot hty hm.h ho.h ha.h hbase hline⟩
theorem append {KK : PySem.W.Frag} {apos : Pos} (ho : SE X o ta) (ha : SA X [e] t) (hbase : attributeBase o "append" X.env (eval o X.env) = eval o X.env := by rfl) (hline : (apos.endLine == pos.line) = true := by rfl) (hK : X.K = KK := by first | exact cxC_K | rfl) : SE X (.Call (.Attribute o "append" apos) [e] [] pos) (tBM KK "list" rAppend ta t) := by
  subst hK
  exact bm1 PySem.F.plainAttrs_list PySem.F.slot_list_append PySem.F.type_list_append ⟨mt_append⟩ ho ha hbase hline
theorem popAt {KK : PySem.W.Frag} {apos : Pos} (ho : SE X o ta) (ha : SA X [e] t) (hbase : attributeBase o "pop" X.env (eval o X.env) = eval o X.env := by rfl) (hline : (apos.endLine == pos.line) = true := by rfl) (hK : X.K = KK := by first | exact cxC_K | rfl) : SE X (.Call (.Attribute o "pop" apos) [e] [] pos) (tBM KK "list" rPopAt ta t) := by
  subst hK
  exact bm1 PySem.F.plainAttrs_list PySem.F.slot_list_pop PySem.F.type_list_pop ⟨mt_popAt⟩ ho ha hbase hline
theorem c_len {KK : PySem.W.Frag} (hK : X.K = KK := by first | exact cxC_K | rfl) : SC X (.builtin "len") (fun xs H Q => ∃ p ys, xs = [.ref p] ∧ (SqL KK H p ys ∨ SqT KK H p ys) ∧ Q (.int ys.length) H) := by
  subst hK
  exact ⟨call_len_seq⟩
theorem c_list {KK : PySem.W.Frag} (hK : X.K = KK := by first | exact cxC_K | rfl) : SC X (.type "list") (fun xs H Q => ∃ p ys, xs = [.ref p] ∧ (SqL KK H p ys ∨ SqT KK H p ys) ∧ ∀ l, H l = none → Q (.ref l) (upd H l (.lst ys))) := by
  subst hK
  exact ⟨call_list_of⟩
theorem c_dict {KK : PySem.W.Frag} (hc : X.calm = true := by rfl) (hK : X.K = KK := by first | exact cxC_K | rfl) : SC X (.type "dict") (rDictOf KK) := by
  subst hK
  exact ⟨call_dict_pairs hc⟩
theorem c_int : SC X (.type "int") (fun xs H Q => (∃ i, xs = [.int i] ∧ Q (.int i) H) ∨ ∃ k, xs = [.bl k] ∧ Q (.int (if k then 1 else 0)) H) := ⟨call_int1⟩
theorem gn (i : Nat) {x : Str} (hN : X.N.Nodup) (hi : X.N[i]? = some x := by rfl) (hx : Loc X.env.scope x := by first | exact Or.inl rfl | exact Or.inr rfl) (hf : X.fn x = true ∨ X.env.scope.names.lookup x = some .local := by first | exact .inl rfl | exact .inr rfl) : SG X (.Name x pos) (gName i) := ⟨pg_name hN hi hx hf⟩
theorem gsn : SGs X [] gNil := ⟨pgs_nil⟩
theorem gsk {t : TG} {u : TGs} (h1 : SG X e t) (h2 : SGs X es u) (hs : (assignEach (e :: es) X.env).map (·.2) = assign e X.env :: (assignEach es X.env).map (·.2) := by rfl) : SGs X (e :: es) (gCons t u) := ⟨pgs_cons h1.h h2.h hs⟩
theorem gtup {KK : PySem.W.Frag} {kk : Nat} {t : TGs} (m : Nat) (h : SGs X es t) (hc : X.calm = true := by rfl) (hn : (assignEach es X.env).length = m := by rfl) (hst : (assignEach es X.env).findIdx? (·.1) = none := by rfl) (hK : X.K = KK := by first | exact cxC_K | rfl) : SG X (.Tuple es kk pos) (gTup KK m t) := by
  subst hK
  exact ⟨pg_tup hc h.h hn hst⟩
theorem glst {KK : PySem.W.Frag} {kk : Nat} {t : TGs} (m : Nat) (h : SGs X es t) (hc : X.calm = true := by rfl) (hn : (assignEach es X.env).length = m := by rfl) (hst : (assignEach es X.env).findIdx? (·.1) = none := by rfl) (hK : X.K = KK := by first | exact cxC_K | rfl) : SG X (.Tuple es kk pos) (gLst KK m t) := by
  subst hK
  exact ⟨pg_lst hc h.h hn hst⟩
theorem gset {cc : Const} {j : Nat} {p : Pos} (ho : SE X a ta) (hi : SE X (.Constant cc j p) tb) : SG X (.Subscript a (.Constant cc j p) pos) (gSub ta tb rSetL) := ⟨pg_sub ho.h hi.h set_list (fun _ => rfl)⟩
theorem iL {KK : PySem.W.Frag} {tg : Expr} (h : SE X a ta) (hK : X.K = KK := by first | exact cxC_K | rfl) : SI X tg a (iList KK ta) := by
  subst hK
  exact ⟨pi_list h.h⟩
theorem iT {KK : PySem.W.Frag} {tg : Expr} (h : SE X a ta) (hK : X.K = KK := by first | exact cxC_K | rfl) : SI X tg a (iTup KK ta) := by
  subst hK
  exact ⟨pi_tup h.h⟩
theorem iR {tg : Expr} {p : Pos} (hg : Gl X "range") (hm : X.mg "range" = none) (ha : SA X [a] t) : SI X tg (.Call (.Name "range" p) [a] [] pos) (iRng1 t) := ⟨xrange1 hg hm ha.h⟩
theorem if0 : SIf X [] tIf0 := ⟨pif0⟩
theorem if1 (h : ST X a tA) : SIf X [a] tA := ⟨pif1 h.h⟩
theorem lc {tg iter elt : Expr} {ifs : List Expr} {sc : Scope} {wi : TI} {g : TG} {tifs : TT} (src : List (Option Nat)) (N' : List Str) (S : CompScope sc X.env.scope) (hcap : capsOk sc src N' X.N = true) (hi : SI X tg iter wi)
    (hb : ∀ s H C fp xe, SG (cxC X N' sc s H C fp xe) tg g ∧ SIf (cxC X N' sc s H C fp xe) ifs tifs ∧ SE (cxC X N' sc s H C fp xe) elt te) (hc : X.calm = true := by rfl)
    (hs : ∀ x, foldedSetIterable iter X.env x = pure x := by intro _; rfl) : SE X (.ListComp elt [⟨tg, iter, ifs, 0⟩] sc pos) (tCompE src (.lst []) wi g tifs (mApp te)) :=
  ⟨pe_lc src N' hc S hcap hi.h (fun s H C fp xe => ⟨(hb s H C fp xe).1.h, (hb s H C fp xe).2.1.h, (hb s H C fp xe).2.2.h⟩) hs⟩
theorem slc {tg iter elt : Expr} {ifs : List Expr} {sc : Scope} {wi : TI} {g : TG} {tifs : TT} {i : Nat} {x : Str} {pos' pos2 : Pos} (src : List (Option Nat)) (N' : List Str) (S : CompScope sc X.env.scope) (hcap : capsOk sc src N' X.N = true) (hi : SI X tg iter wi)
    (hb : ∀ s H C fp xe, SG (cxC X N' sc s H C fp xe) tg g ∧ SIf (cxC X N' sc s H C fp xe) ifs tifs ∧ SE (cxC X N' sc s H C fp xe) elt te) (hN : X.N.Nodup) (hix : X.N[i]? = some x := by rfl) (hx : Loc X.env.scope x := by exact Or.inl rfl)
    (hsw : swapsWith (.ListComp elt [⟨tg, iter, ifs, 0⟩] sc pos) (some (.Name x pos')) pos2.line X.env = pure true := by rfl) (hc : X.calm = true := by rfl)
    (hs : ∀ x, foldedSetIterable iter X.env x = pure x := by intro _; rfl) (hf : X.fn x = true ∨ X.env.scope.names.lookup x = some .local := by first | exact .inl rfl | exact .inr rfl) :
    SS X (.Assign [.Name x pos'] (.ListComp elt [⟨tg, iter, ifs, 0⟩] sc pos) pos2) (tAsg (tCompE src (.lst []) wi g tifs (mApp te)) (gName i)) :=
  ⟨ps_lc src N' hc S hcap hi.h (fun s H C fp xe => ⟨(hb s H C fp xe).1.h, (hb s H C fp xe).2.1.h, (hb s H C fp xe).2.2.h⟩) hN hix hx hsw hs hf⟩
variable {st : Stmt} {rest : List Stmt} {u1 u2 : TS}
theorem nil : SL X [] tNext := ⟨pss_nil⟩
theorem cons (h1 : SS X st u1) (h2 : SL X rest u2) : SL X (st :: rest) (tSeq u1 u2) := ⟨pss_cons h1.h h2.h⟩
theorem one (h1 : SS X st u1) : SL X [st] u1 := ⟨pss_one h1.h⟩
theorem never : SL X rest tNever := ⟨pss_never⟩
theorem ret (he : SE X e te) : SS X (.Return (some e) pos) (tRet te) := ⟨ps_ret he.h⟩
theorem ex (he : SE X e te) (hs : swapsWith e none pos.line X.env = pure false := by rfl) : SS X (.Expr e pos) (tDrop te) := ⟨ps_expr he.h hs⟩
theorem ifs {tc : TT} {x y : List Stmt} (hc : ST X c tc) (ha : SL X x u1) (hb : SL X y u2) : SS X (.If c x y pos) (tIfS tc u1 u2) := ⟨ps_if hc.h ha.h hb.h⟩
theorem set (i : Nat) {x : Str} {pos' : Pos} (hN : X.N.Nodup) (he : SE X e te) (hi : X.N[i]? = some x := by rfl) (hx : Loc X.env.scope x := by first | exact Or.inl rfl | exact Or.inr rfl) (hs : swapsWith e (some (.Name x pos')) pos.line X.env = pure false := by rfl) (hf : X.fn x = true ∨ X.env.scope.names.lookup x = some .local := by first | exact .inl rfl | exact .inr rfl) :
    SS X (.Assign [.Name x pos'] e pos) (tAsg te (gName i)) := ⟨ps_set hN hi hx he.h hs hf⟩
theorem asg {tg : Expr} {g : TG} (he : SE X e te) (hg : SG X tg g) (hs : swapsWithSole [tg] e pos.line X.env = pure false := by rfl) (hw : swappedStores [tg] e X.env = pure none := by rfl)
    (h1 : (assignEach [tg] X.env).map (·.2) = [assign tg X.env] := by rfl) : SS X (.Assign [tg] e pos) (tAsg te g) := ⟨ps_asg he.h hg.h hs hw h1⟩
theorem for_ {tg iter : Expr} {body : List Stmt} {wi : TI} {g : TG} (hi : SI X tg iter wi) (hg : SG X tg g) (hb : SL X body u1) (hp : PassesOwn (model X.prog X.w) X.A X.env X.xe := by exact PassesOwn.never) (hc : X.calm = true := by rfl)
    (hs : ∀ x, foldedSetIterable iter X.env x = pure x := by intro _; rfl) : SS X (.For tg iter body [] pos) (tFor wi g u1) := ⟨ps_for hp hc hi.h hg.h hb.h hs⟩
end
end L3
namespace L3
open PySem PySem.Spec PyProof.Rows L2
section
variable {X : Cx} {a b c e o : Expr} {es : List Expr} {ta tb tc te : TE} {t : TA} {tA uB : TT} {pos : Pos} {r : R2}
theorem neg (ha : SE X a ta) : SE X (.UnaryOp .USub a pos) (tUn (rU fun i => .int (-i)) ta) := ⟨pe_un un_neg ha.h⟩
theorem ntE (ha : SE X a ta) : SE X (.UnaryOp .Not a pos) (tNotV ta) := ⟨pe_not ha.h⟩
theorem andE2 {rest : List Expr} (ha : SE X a ta) (hb : SE X (.BoolOp .And (b :: rest) pos) tb) : SE X (.BoolOp .And (a :: b :: rest) pos) (tAndV ta tb) := ⟨pe_and ha.h hb.h⟩
theorem orE2 {rest : List Expr} (ha : SE X a ta) (hb : SE X (.BoolOp .Or (b :: rest) pos) tb) : SE X (.BoolOp .Or (a :: b :: rest) pos) (tOrV ta tb) := ⟨pe_or ha.h hb.h⟩
theorem oneE {op} (ha : SE X a ta) : SE X (.BoolOp op [a] pos) ta := ⟨pe_one ha.h⟩
theorem ifE (hc : ST X c tA) (ha : SE X a ta) (hb : SE X b tb) : SE X (.IfExp c a b pos) (tIf tA ta tb) := ⟨pe_ifExp hc.h ha.h hb.h⟩
theorem gsetN {x : Str} {p : Pos} (ho : SE X a ta) (hi : SE X (.Name x p) tb) : SG X (.Subscript a (.Name x p) pos) (gSub ta tb rSetL) := ⟨pg_sub ho.h hi.h set_list (fun _ => rfl)⟩
end
end L3
namespace L2
open PySem PySem.Spec PyProof.Rows
end L2
namespace L2
open PySem PySem.Spec PyProof.Rows
end L2
namespace L3
open PySem PySem.Spec PyProof.Rows L2
end L3
namespace PySem
open Sem (wp)
end PySem
namespace PySem
end PySem
namespace L2
open PySem PySem.Spec PyProof.Rows
end L2
namespace L2
open PySem PySem.Spec PyProof.Rows
end L2
namespace L3
open PySem PySem.Spec PyProof.Rows L2
end L3
namespace L2
open PySem PySem.Spec PyProof.Rows
section
variable {X : Cx} {pos : Pos}
def tPar3 (i j k : Nat) (ta : TA) : TS := fun D σ H => ta σ H fun vs H1 => ∃ u v w, vs = [u, v, w] ∧ D.nx (((σ.set i (some u)).set j (some v)).set k (some w)) H1
theorem ps_par3 {i j k : Nat} {x y z : Str} {a b c : Expr} {ta : TA} {px py pz pt : Pos} {kt k2 pt2} (hc : X.calm = true) (hN : X.N.Nodup) (hi : X.N[i]? = some x) (hj : X.N[j]? = some y) (hk : X.N[k]? = some z) (hij : i ≠ j) (hik : i ≠ k) (hjk : j ≠ k)
    (hx : X.env.scope.names.lookup x = some .local) (hy : X.env.scope.names.lookup y = some .local) (hzl : X.env.scope.names.lookup z = some .local) (ha : PA X [a, b, c] ta)
    (hw : swappedStores [.Tuple [.Name x px, .Name y py, .Name z pz] kt pt] (.Tuple [a, b, c] k2 pt2) X.env = pure (some [x, y, z]))
    (hs : swapsWithSole [.Tuple [.Name x px, .Name y py, .Name z pz] kt pt] (.Tuple [a, b, c] k2 pt2) pos.line X.env = pure false := by rfl) :
    PS X (.Assign [.Tuple [.Name x px, .Name y py, .Name z pz] kt pt] (.Tuple [a, b, c] k2 pt2) pos) (tPar3 i j k ta) := by
  intro pins s σ H D I h
  rw [exec_Assign_arm]
  refine wpAny_bind (wpAny_standAt ?_)
  rw [hs]
  refine wpAny_bind (wpAny_pure ?_)
  rw [if_neg (by decide)]
  refine wpAny_bind (Tuple_ (thn (ha _ pins s σ H _ I h) fun us s1 ⟨vs, H1, I1, r1, q1⟩ => ?_))
  obtain ⟨u, v, w, e1, q1⟩ := q1
  subst e1
  obtain ⟨u1, u2, u3, rfl, ru, rv, rw'⟩ : ∃ u1 u2 u3, us = [u1, u2, u3] ∧ RelV u u1 ∧ RelV v u2 ∧ RelV w u3 := by
    cases r1 with
    | cons p q =>
      cases q with
      | cons p' q' =>
        cases q' with
        | cons p'' q'' =>
          cases q''
          exact ⟨_, _, _, rfl, p, p', p''⟩
  refine wpAny_newObj_type ?_ (by show 3 ≤ sizeLine; decide)
  have I2 : Inv X pins σ H1 { s1 with heap := s1.heap.push { cls := .type "tuple", data := .seq [u1, u2, u3].toArray } } := I1.kept (t' := s1.toks) fun b o e => Heap.get?_push_of_some _ e
  rw [hw]
  refine wpAny_bind (wpAny_pure ?_)
  show wpAny (model X.prog X.w) X.A (do rule "assign.swapped-stores"; let items ← unpackItems (.ref s1.heap.objs.size) 3 none; assignInOrder [fun v => bindName X.env z v, fun v => bindName X.env y v, fun v => bindName X.env x v] items.reverse; pure Flow.next) _ _ _
  refine wpAny_bind (wpAny_rule (wpAny_bind (unpackItems_tuple (items := #[u1, u2, u3]) (I.ok.hd hc) (IsTup.new s1.heap _) fun h' hx' => ?_)))
  have I3 := I2.kept (h' := h') (t' := s1.toks) fun b o e => hx' b o (Nat.ne_of_lt (Heap.lt_size e)) e
  show wpAny _ _ (assignInOrder [fun v => bindName X.env z v, fun v => bindName X.env y v, fun v => bindName X.env x v] [u3, u2, u1] >>= fun _ => pure Flow.next) _ _ _
  refine wpAny_bind (assignInOrder_cons (wpAny_bindName (store_ok I3 hN hk (.inl hzl) rw' (fun s2 I4 => ?_) (.inr hzl))))
  refine assignInOrder_cons (wpAny_bindName (store_ok I4 hN hj (.inl hy) rv (fun s3 I5 => ?_) (.inr hy)))
  refine assignInOrder_cons (wpAny_bindName (store_ok I5 hN hi (.inl hx) ru (fun s4 I6 => assignInOrder_nil (wpAny_pure ?_)) (.inr hx)))
  have e : ((σ.set k (some w)).set j (some v)).set i (some u) = ((σ.set i (some u)).set j (some v)).set k (some w) := by
    rw [List.set_comm _ _ hjk.symm, List.set_comm _ _ hik.symm, List.set_comm _ _ hij.symm]
  rw [e] at I6
  exact ⟨_, H1, I6, q1⟩
end
end L2
namespace L3
open PySem PySem.Spec PyProof.Rows L2
section
variable {X : Cx} {a b c e o : Expr} {es : List Expr} {ta tb tc te : TE} {t : TA} {pos : Pos}
theorem par3 (i j k : Nat) {x y z : Str} {px py pz pt : Pos} {kt k2 pt2} (hN : X.N.Nodup) (ha : SA X [a, b, c] t) (hi : X.N[i]? = some x := by rfl) (hj : X.N[j]? = some y := by rfl) (hk : X.N[k]? = some z := by rfl) (hij : i ≠ j := by decide) (hik : i ≠ k := by decide) (hjk : j ≠ k := by decide)
    (hx : X.env.scope.names.lookup x = some .local := by rfl) (hy : X.env.scope.names.lookup y = some .local := by rfl) (hzl : X.env.scope.names.lookup z = some .local := by rfl)
    (hw : swappedStores [.Tuple [.Name x px, .Name y py, .Name z pz] kt pt] (.Tuple [a, b, c] k2 pt2) X.env = pure (some [x, y, z]) := by rfl)
    (hs : swapsWithSole [.Tuple [.Name x px, .Name y py, .Name z pz] kt pt] (.Tuple [a, b, c] k2 pt2) pos.line X.env = pure false := by rfl) (hc : X.calm = true := by rfl) :
    SS X (.Assign [.Tuple [.Name x px, .Name y py, .Name z pz] kt pt] (.Tuple [a, b, c] k2 pt2) pos) (tPar3 i j k t) := ⟨ps_par3 hc hN hi hj hk hij hik hjk hx hy hzl ha.h.pa hw hs⟩
theorem extend {apos : Pos} {KK : PySem.W.Frag} (ho : SE X o ta) (ha : SA X [e] t) (hbase : attributeBase o "extend" X.env (eval o X.env) = eval o X.env := by rfl) (hline : (apos.endLine == pos.line) = true := by rfl) (hK : X.K = KK := by first | exact cxC_K | rfl) :
    SE X (.Call (.Attribute o "extend" apos) [e] [] pos) (tBM KK "list" rExtend ta t) := by
  subst hK
  exact bm1 PySem.F.plainAttrs_list PySem.F.slot_list_extend PySem.F.type_list_extend ⟨mt_extend⟩ ho ha hbase hline
theorem dget2 {f : Expr} {tf : TE} {apos : Pos} (hu : X.A.units + 1 < cLine) (ho : SE X o ta) (he : SE X e te) (hf : SE X f tf) (m : M2 X o "get" apos e f pos := by exact ⟨rfl, rfl, rfl, rfl⟩) : SE X (.Call (.Attribute o "get" apos) [e, f] [] pos) (tDGet2 ta te tf) := ⟨pe_dget2 hu ho.h he.h hf.h m⟩
end
end L3
namespace L2
open PySem PySem.Spec PyProof.Rows
end L2
namespace L2
open PySem PySem.Spec PyProof.Rows
end L2
namespace L3
open PySem PySem.Spec PyProof.Rows L2
section
variable {X : Cx} {a b c e o : Expr} {es : List Expr} {ta tb tc te : TE} {t : TA} {pos pos' : Pos} {P : Program} {w : World}
theorem c_tuple {KK : PySem.W.Frag} (hK : X.K = KK := by first | exact cxC_K | rfl) : SC X (.type "tuple") (fun xs H Q => ∃ p ys, xs = [.ref p] ∧ SqL KK H p ys ∧ ∀ l, H l = none → Q (.ref l) (upd H l (.tup ys))) := by
  subst hK
  refine ⟨fun pins s σ H xs us Q I r h => ?_⟩
  obtain ⟨p, ys, e, hq, q⟩ := h
  exact call_tuple_of pins s σ H xs us Q I r ⟨p, ys, e, .inl ⟨hq, q⟩⟩
theorem c_min (hc : X.calm = true := by rfl) : SC X (.builtin "min") (fun xs H Q => ∃ i j, xs = [.int i, .int j] ∧ Q (.int (if j < i then j else i)) H) := ⟨call_min2 hc⟩
end
end L3
namespace L2
open PySem PySem.Spec PyProof.Rows
def tListRng (ta : TA) : TE := fun σ H Q => ta σ H fun vs H1 => ∃ n : Nat, vs = [.int n] ∧ n ≤ 100000 ∧ ∀ l, H1 l = none → Q (.ref l) (upd H1 l (.lst ((List.range n).map fun i : Nat => V.int i)))
section
variable {X : Cx} {a b : Expr} {ta : TA} {tx ty : TE} {p1 p2 pos pos2 : Pos}
theorem pe_listrng (hc : X.calm = true) (hg1 : Gl X "list") (hm1 : X.mg "list" = none) (hg2 : Gl X "range") (hm2 : X.mg "range" = none) (ha : PAs X [a] ta) (hv1 : bootBuiltins "list" = some (.type "list") := by first | rfl | decide +kernel) :
    PE X (.Call (.Name "list" p1) [.Call (.Name "range" p2) [a] [] pos2] [] pos) (tListRng ta) := by
  intro pins s σ H Q I h
  refine wpAny_Call_Name_kw (ld_blt I hg1 hm1 hv1 ?_ (by decide) (by decide))
  refine PyProof.Rows.callWith_type1 ?_ rfl rfl
  show wpAny _ _ (spliced ((false, eval (.Call (.Name "range" p2) [a] [] pos2) X.env) :: [])) _ _ s
  refine Calls.spliced_cons (wpAny_Call_Name_kw (ld_blt I hg2 hm2 boot_range ?_ (by decide) (by decide)))
  refine PyProof.Rows.callWith_type1 (thn (ha.pa pos2 pins s σ H _ I h) fun us s1 ⟨vs, H1, I1, r1, q1⟩ => ?_) ((ha.ns a [] rfl).1.h [] X.env) ((ha.ns a [] rfl).2 pos2 X.env)
  obtain ⟨n, e, hn, q⟩ := q1
  subst e
  obtain ⟨u, rfl, ru⟩ := vals1 r1
  obtain ⟨t, rfl⟩ := ru
  refine call_range_1 ?_
  refine Calls.spliced_nil ?_
  have I2 : Inv X pins σ H1 { s1 with heap := s1.heap.push { cls := .type "range", data := .fields #[.int 0 s1.toks, .int n t, .int 1 (s1.toks + 1)] }, toks := s1.toks + 1 + 1 } := I1.kept (t' := s1.toks + 1 + 1) fun b o e => Heap.get?_push_of_some _ e
  have sz : Builtin.Range.rangeSize 0 n 1 = (n : Int) := by
    unfold Builtin.Range.rangeSize
    rw [if_pos (by decide)]
    by_cases z : (0 : Int) < n
    · rw [if_pos z, Int.ediv_one]
      omega
    · rw [if_neg z]
      omega
  have sm : Builtin.Range.small 0 n 1 = true := by
    exact small_one (by omega) (by omega) (by omega) (by omega)
  refine call_list_range (n := n) (I2.ok.hd hc) (Heap.get?_push_size _ rfl) sm sz (Nat.le_trans hn (by decide)) fun h' tk acc c' hk hS hacc => ?_
  refine ⟨V.ref (s1.heap.push { cls := .type "range", data := .fields #[.int 0 s1.toks, .int n t, .int 1 (s1.toks + 1)] }).objs.size, _, I2.laid (a := (s1.heap.push { cls := .type "range", data := .fields #[.int 0 s1.toks, .int n t, .int 1 (s1.toks + 1)] }).objs.size) (o := .lst ((List.range n).map fun i : Nat => V.int i)) (t' := tk) hk (Nat.le_refl _) ⟨by rw [List.length_map, List.length_range]; exact Nat.le_trans hn (by decide), acc.toList, c', ?_, by simpa using hS⟩, rfl, q _ (I2.hok.fresh (Nat.le_refl _))⟩
  have go : ∀ (l : List Value) (m : Nat), (∀ j v, l[j]? = some v → ∃ t, v = Value.int ((m + j : Nat) : Int) t) → Vals ((List.range' m l.length).map fun i : Nat => V.int i) l := by
    intro l
    induction l with
    | nil => intro m _; exact .nil
    | cons v r ih =>
      intro m hl
      obtain ⟨t, e⟩ := hl 0 v rfl
      refine .cons ⟨t, e⟩ (ih (m + 1) fun j v hj => ?_)
      obtain ⟨t, e⟩ := hl (j + 1) v hj
      exact ⟨t, by rw [e, show m + 1 + j = m + (j + 1) by omega]⟩
  have z := go acc.toList 0 fun j v hj => by
    obtain ⟨t, e⟩ := hacc.2 j v (by rw [← Array.getElem?_toList]; exact hj)
    exact ⟨t, by rw [e, show (0 : Int) + (j : Int) * 1 = ((0 + j : Nat) : Int) by omega]⟩
  rw [Array.length_toList, hacc.1, ← List.range_eq_range'] at z
  exact z
end
end L2
namespace L3
open PySem PySem.Spec PyProof.Rows L2
section
variable {X : Cx} {a b c e o : Expr} {es : List Expr} {ta tb tc te : TE} {t : TA} {pos : Pos}
theorem listrng {p1 p2 pos2 : Pos} (hg1 : Gl X "list") (hm1 : X.mg "list" = none) (hg2 : Gl X "range") (hm2 : X.mg "range" = none) (ha : SA X [a] t) (hc : X.calm = true := by rfl) : SE X (.Call (.Name "list" p1) [.Call (.Name "range" p2) [a] [] pos2] [] pos) (tListRng t) := ⟨pe_listrng hc hg1 hm1 hg2 hm2 ha.h⟩
theorem slL1 {KK : PySem.W.Frag} {p2 : Pos} (ha : SE X a ta) (hb : SE X b tb) (hK : X.K = KK := by first | exact cxC_K | rfl) : SE X (.Subscript a (.Slice (some b) none none p2) pos) (tSl (rSlL KK) ta (tPart tb) tNoPart) := by
  subst hK
  exact ⟨pe_slice sl_list ha.h (po_some hb.h) po_none⟩
end
end L3
namespace TW
end TW
namespace L2
open PySem PySem.Spec PyProof.Rows
end L2
namespace L3
open PySem PySem.Spec PyProof.Rows L2
end L3
namespace L2
open PySem PySem.Spec PyProof.Rows SeqAt
end L2
namespace L3
open PySem PySem.Spec PyProof.Rows L2
theorem o_rep {X : Cx} : SO X (binaryOp .Mult) rRep := ⟨op_rep⟩
end L3
namespace L2
open PySem PySem.Spec PyProof.Rows
theorem ObjOk.ex {P : Program} {w : World} {H : Hp} {h : Heap} {a : Addr} {o : HO} (x : ObjOk P w H h a o) : ∃ ob, h.get? a = some ob := by
  cases o with
  | lst xs => obtain ⟨_, _, _, _, e⟩ := x; exact ⟨_, e⟩
  | tup xs => obtain ⟨_, _, _, ob, e, _⟩ := x; exact ⟨ob, e⟩
  | dK kvs => obtain ⟨_, _, _, _, o, _, _, e, _⟩ := x; exact ⟨o, e⟩
  | dT kvs => obtain ⟨_, _, _, _, o, _, _, e, _⟩ := x; exact ⟨o, e⟩
  | set S n => obtain ⟨o, _, _, _, e, _⟩ := x; exact ⟨o, e⟩
  | ins C dx fs => obtain ⟨_, _, _, e, _⟩ := x; exact ⟨_, e⟩
  | own y => obtain ⟨ob, e⟩ := x; exact ⟨ob, e⟩
  | xd fs => obtain ⟨_, ⟨ob, _, _, e, _⟩, _⟩ := x; exact ⟨ob, e⟩
  | rng lo hi => obtain ⟨_, _, _, e⟩ := x; exact ⟨_, e⟩
  | frz ob u => obtain ⟨e, _⟩ := x; exact ⟨ob, e⟩
  | tbl ps => exact ⟨_, (show h.get? a = some _ from x)⟩
  | met f y => exact ⟨_, (show h.get? a = some _ from x)⟩
  | ext φ => obtain ⟨_, ⟨ob, e⟩, _⟩ := x; exact ⟨ob, e⟩
def CX1 (P : Program) (w : World) (base : Heap) : CXT := fun outer H s E e s' => ∃ (ea : Addr) (cls a0 : Value) (B : Heap) (H' : Hp), e = .ref ea ∧ s'.os = s.os ∧ AllBare s'.gens ∧ Un (frs outer) [] H H' s.heap s'.heap ∧ HOk P w H' s'.heap ∧
  base.StaysIn B ∧ Heap.FlyingW B outer ea cls a0 s'.heap ∧ (∀ b o, s.heap.get? b = some o → b ∉ frs outer → ∃ o', B.get? b = some o') ∧ (∀ b u, H' b = some u → ∃ o, B.get? b = some o) ∧ s.heap.get? ea = none ∧ E cls none H'
section
variable {P : Program} {w : World} {K : PySem.W.Frag} {mg : Str → Option Value} {base : Heap} {N : List Str} {qual : Str} {scope : Scope} {f : Addr} {cd : Value} {A : Around} {outer : List Env} {s : Shared} {H : Hp} {E : XK}
theorem stays_hok {H1 : Hp} {h B g : Heap} (ok : HOk P w H1 h) (inB : ∀ b u, H1 b = some u → ∃ o, B.get? b = some o) (sb : B.StaysIn h) (sg : B.StaysIn g) : HOk P w H1 g := fun a u e => by
  refine (ok a u e).stay (fun b o hb q => ?_) (fun _ q => q) (fun _ _ q => q)
  have hb' : ∃ v, H1 b = some v := by
    rcases hb with rfl | hb
    · exact ⟨u, e⟩
    · exact ⟨_, hb⟩
  obtain ⟨v, hv⟩ := hb'
  obtain ⟨o', ho'⟩ := inB b v hv
  have := sb b o' ho'
  rw [q] at this
  cases this
  exact sg b o ho'
theorem leave_made {pins : List (Addr × Obj)} {σ : St} {H1 : Hp} {s1 : Shared} {h' : Heap} {e : Addr} {cls : Value} {args : List Value} (I : Inv (cxOf (CX1 P w base) P w K mg base N qual scope f cd A outer s H E) pins σ H1 s1) (hx : Heap.MadeExcOf s1.heap h' e cls args) (q : E cls none H1) :
    (cxOf (CX1 P w base) P w K mg base N qual scope f cd A outer s H E).xe (.ref e) { s1 with heap := h' } := by
  have hstk : (cxOf (CX1 P w base) P w K mg base N qual scope f cd A outer s H E).stack = envOfC qual scope s.heap.objs.size f cd :: outer := rfl
  have fr : s1.heap.FunFrames base (envOfC qual scope s.heap.objs.size f cd :: outer) := I.stack
  have frf := I.stkFree
  rw [hstk] at frf
  have hbase : ∀ b o, base.get? b = some o → s1.heap.get? b = some o := I.bk
  have hun : Un (frs outer) [] H H1 s.heap s1.heap := I.base
  have hex : ∀ b : Addr, b ∉ ([] : List Addr) := fun b z => nomatch z
  have hloc : ∀ b o, s.heap.get? b = some o → b ∉ frs outer → b ∉ frs (envOfC qual scope s.heap.objs.size f cd :: outer) := fun b o hb hn hm => by
    rcases List.mem_cons.mp (show b ∈ s.heap.objs.size :: frs outer from hm) with z | z
    · exact absurd (Heap.lt_size hb) (by rw [z]; exact Nat.lt_irrefl _)
    · exact hn z
  let B := PySem.W.hideAll s1.heap (frs (envOfC qual scope s.heap.objs.size f cd :: outer))
  have bget : ∀ b o, s1.heap.get? b = some o → b ∉ frs (envOfC qual scope s.heap.objs.size f cd :: outer) → B.get? b = some o := fun b o hb hn => PySem.W.hideAll_get _ hb hn
  have bs1 : B.StaysIn s1.heap := fun b o hb => PySem.W.of_hideAll _ hb
  have stB : base.StaysIn B := fun b o hb => bget b o (hbase b o hb) fun hm => by
    have := (fr.mem hm).1
    rw [hb] at this
    cases this
  have frB : s1.heap.FunFrames B (envOfC qual scope s.heap.objs.size f cd :: outer) := PySem.W.funFrames_hide fr fun env he a ha => List.mem_filterMap.mpr ⟨env, he, ha⟩
  have trk : ∀ b u, H1 b = some u → ∃ o, B.get? b = some o := fun b u hu => by
    obtain ⟨o, ho⟩ := (I.hok b u hu).ex
    refine ⟨o, bget b o ho fun hm => ?_⟩
    rw [frf b hm] at hu
    cases hu
  refine wpAny_leaves_madeW (base := B) (h := s1.heap) (args := args) I.ok.frames rfl bs1 frB hx fun h2 t x1 x2 x3 x4 => ?_
  refine ⟨e, cls, .ref t, B, H1, rfl, I.os, I.bare, ⟨fun b o hb n hf _ => ?_, fun b o hb n hf _ => ?_, fun b o hb n _ => hun.free b o hb n (hex b), fun b o hb _ => ?_, hun.tups, hun.frzs, hun.tbls⟩, stays_hok I.hok trk bs1 x1.1, stB, x1, fun b o hb hf => ?_, trk, ?_, q⟩
  · exact x1.1 b o (bget b o (hun.keep b o hb n hf (hex b)) (hloc b o hb hf))
  · obtain ⟨sl, e1⟩ := hun.slot b o hb n hf (hex b)
    obtain ⟨_, o2, ho2, hd2⟩ := fr.mem (show b ∈ frs (envOfC qual scope s.heap.objs.size f cd :: outer) from List.mem_cons_of_mem _ hf)
    rw [e1] at ho2
    cases ho2
    obtain ⟨sl2, e2⟩ := x4 b _ (hx.keeps b _ e1) hd2
    exact ⟨sl2, e2⟩
  · obtain ⟨o1, e1⟩ := hun.there b o hb (hex b)
    by_cases hm : b ∈ frs (envOfC qual scope s.heap.objs.size f cd :: outer)
    · obtain ⟨_, o2, ho2, hd2⟩ := fr.mem hm
      obtain ⟨sl2, e2⟩ := x4 b _ (hx.keeps b _ ho2) hd2
      exact ⟨_, e2⟩
    · exact ⟨o1, x1.1 b o1 (bget b o1 e1 hm)⟩
  · obtain ⟨o1, e1⟩ := hun.there b o hb (hex b)
    exact ⟨o1, bget b o1 e1 (hloc b o hb hf)⟩
  · cases z : s.heap.get? e with
    | none => rfl
    | some o =>
      obtain ⟨o1, e1⟩ := hun.there e o z (hex e)
      rw [hx.new] at e1
      cases e1
theorem pass1 {E' : XK} (hE : ∀ c d H2, E' c d H2 → E c d H2) : Passes (CX1 P w base) (cxOf (CX1 P w base) P w K mg base N qual scope f cd A outer s H E) E' := by
  intro pins σ H1 s1 e s2 I cx
  obtain ⟨ea, cls, a0, B, H2, rfl, os2, bare2, un2, hok2, stB, fly, inB, trk, nea, q⟩ := cx
  have hun : Un (frs outer) [] H H1 s.heap s1.heap := I.base
  have hex : ∀ b : Addr, b ∉ ([] : List Addr) := fun b z => nomatch z
  have hstk : (cxOf (CX1 P w base) P w K mg base N qual scope f cd A outer s H E).stack = envOfC qual scope s.heap.objs.size f cd :: outer := rfl
  rw [hstk] at fly un2 inB
  have hloc : ∀ b o, s.heap.get? b = some o → b ∉ frs outer → b ∉ frs (envOfC qual scope s.heap.objs.size f cd :: outer) := fun b o hb hn hm => by
    rcases List.mem_cons.mp (show b ∈ s.heap.objs.size :: frs outer from hm) with z | z
    · exact absurd (Heap.lt_size hb) (by rw [z]; exact Nat.lt_irrefl _)
    · exact hn z
  have fr2 := fly.2.2.1
  have sB2 := fly.1
  refine wpAny_leaves_onW I.ok.frames rfl fly fun h3 x1 x2 => ?_
  have inB0 : ∀ b o, s.heap.get? b = some o → b ∉ frs outer → ∃ o', B.get? b = some o' := fun b o hb hf => by
    obtain ⟨o1, e1⟩ := hun.there b o hb (hex b)
    exact inB b o1 e1 (hloc b o hb hf)
  refine ⟨ea, cls, a0, B, H2, rfl, os2.trans I.os, bare2, ⟨fun b o hb n hf _ => ?_, fun b o hb n hf _ => ?_, fun b o hb n _ => ?_, fun b o hb _ => ?_, fun b xs h => un2.tups b xs (hun.tups b xs h), fun b o u h => un2.frzs b o u (hun.frzs b o u h), fun b ps h => ?_⟩, stays_hok hok2 trk sB2 x1.1, stB, x1, inB0, trk, ?_, hE _ _ _ q⟩
  · have e1 := hun.keep b o hb n hf (hex b)
    have n1 := hun.free b o hb n (hex b)
    have e2 := un2.keep b o e1 n1 (hloc b o hb hf) (hex b)
    obtain ⟨o', ho'⟩ := inB0 b o hb hf
    have e3 := sB2 b o' ho'
    rw [e2] at e3
    cases e3
    exact x1.1 b o ho'
  · obtain ⟨sl, e1⟩ := hun.slot b o hb n hf (hex b)
    have n1 := hun.free b o hb n (hex b)
    obtain ⟨sl2, e2⟩ := un2.any e1 n1 (hex b)
    obtain ⟨_, o2, ho2, hd2⟩ := fr2.mem (show b ∈ frs (envOfC qual scope s.heap.objs.size f cd :: outer) from List.mem_cons_of_mem _ hf)
    rw [e2] at ho2
    cases ho2
    obtain ⟨sl3, e3⟩ := x2 b _ e2 hd2
    exact ⟨sl3, e3⟩
  · obtain ⟨o1, e1⟩ := hun.there b o hb (hex b)
    exact un2.free b o1 e1 (hun.free b o hb n (hex b)) (hex b)
  · obtain ⟨o1, e1⟩ := hun.there b o hb (hex b)
    obtain ⟨o2, e2⟩ := un2.there b o1 e1 (hex b)
    by_cases hm : b ∈ frs (envOfC qual scope s.heap.objs.size f cd :: outer)
    · obtain ⟨_, o3, ho3, hd3⟩ := fr2.mem hm
      obtain ⟨sl3, e3⟩ := x2 b _ ho3 hd3
      exact ⟨_, e3⟩
    · obtain ⟨o', ho'⟩ := inB b o1 e1 hm
      exact ⟨o', x1.1 b o' ho'⟩
  · obtain ⟨m1, e1⟩ := hun.tbls b ps h
    obtain ⟨m2, e2⟩ := un2.tbls b _ e1
    exact ⟨m1 ++ m2, by rw [e2, Array.append_assoc]⟩
  · cases z : s.heap.get? ea with
    | none => rfl
    | some o =>
      obtain ⟨o1, e1⟩ := hun.there ea o z (hex ea)
      rw [nea] at e1
      cases e1
end
end L2
namespace L2
open PySem PySem.Spec PyProof.Rows
abbrev vE : List Value := [.type "ValueError", .type "Exception", .type "BaseException", .type "object"]
def clsMro (K : PySem.W.Frag) (C : Addr) : Option (List Value) := match K.lookup C with
  | some ⟨_, _, .cls cd, _⟩ => some cd.mro
  | _ => none
structure Xc (K : PySem.W.Frag) (mg : Str → Option Value) (x : Str) (C : Addr) (tl : List Value) : Prop where
  m : mg x = some (.ref C)
  ex : PySem.W.excIn K C vE "ValueError.__new__" = true
  mro : clsMro K C = some (.ref C :: tl)
theorem Xc.obj {K : PySem.W.Frag} {mg : Str → Option Value} {x : Str} {C : Addr} {tl : List Value} {h : Heap} (c : Xc K mg x C tl) (hk : K.In h) :
    ∃ N nm q bs hdct sn sub ab col dd k0 k1 k2 k3 k5 mN, h.get? C = some (excClassObj nm q C N bs tl hdct sn sub ab col dd k0 k1 k2 k3 k5 "ValueError.__new__") ∧ h.Ns N mN ∧ mN "__init__" = none ∧ OwnTail h vE tl := by
  have q := c.ex
  have m := c.mro
  unfold PySem.W.excIn at q
  unfold clsMro at m
  split at q
  · rename_i od cd sl look
    rw [look] at m
    split at q
    · rename_i C' bm k0 k1 k2 k3 n k5 hm hs
      simp only [Bool.and_eq_true, beq_iff_eq, Bool.not_eq_true'] at q
      obtain ⟨⟨⟨⟨⟨z1, z2⟩, hdel⟩, ht⟩, hok⟩, hni⟩ := q
      subst z1 z2
      have m2 : cd.mro = .ref C' :: tl := by injection m
      rw [hm] at m2
      have e1 : bm = tl := by injection m2
      subst e1
      obtain ⟨nm, bs, mro, ns, qn, hd, sn, sub, ab, col, del⟩ := cd
      dsimp only at hm hdel hok hni
      subst hm hdel
      have hsl : sl = #[k0, k1, k2, k3, some (.builtin "ValueError.__new__"), k5] := by
        obtain ⟨l⟩ := sl
        simp only at hs
        rw [hs]
      subst hsl
      exact ⟨ns, nm, qn, bs, hd, sn, sub, ab, col, od, k0, k1, k2, k3, k5, _, hk _ _ look, .of_isNs (PySem.W.isNs_of_in hk hok), PySem.W.nsMap_none_of_in hk hok hni, PySem.W.tail_of_in hk ht⟩
    · cases q
  · cases q
abbrev TF := St → Hp → (Hp → Prop) → Prop
def PF (X : Cx) (parts : List Expr) (n : Nat) (t : TF) : Prop := ∀ (pins : List (Addr × Obj)) (s : Shared) (σ : St) (H : Hp) (acc : Str) (k : Hp → Prop), Inv X pins σ H s → t σ H k → acc.length + n * 2000 ≤ sizeLine →
  Joins (model X.prog X.w) X.A X.xe (evalEach parts X.env) acc (fun out s1 => out.length ≤ sizeLine ∧ ∃ H', Inv X pins σ H' s1 ∧ k H') s
def fOk (x : V) : Prop := (∃ i, x = .int i ∧ i.natAbs.log2 < 1920) ∨ ∃ y : Str, x = .str y ∧ y.length ≤ 2000
section
variable {X : Cx} {a : Expr} {ps : List Expr} {n : Nat} {t : TF} {te : TE} {pos : Pos}
theorem pf_nil : PF X [] 0 (fun _ H k => k H) := fun pins s σ H acc k I h hl => ⟨by omega, H, I, h⟩
theorem pf_str {x : Str} {j} (hx : x.length ≤ 2000) (hr : PF X ps n t) : PF X (.Constant (.str x) j pos :: ps) (n + 1) t := by
  intro pins s σ H acc k I h hl
  have hp := pe_str (X := X) (x := x) (j := j) (pos := pos) pins s σ H (fun v H1 => v = .str x ∧ H1 = H) I ⟨rfl, rfl⟩
  refine thn hp fun u s1 ⟨v, H1, I1, rv, e1, e2⟩ => ?_
  subst e1 e2
  obtain ⟨tk, rfl⟩ := rv
  have hlen : (acc ++ x).length = acc.length + x.length := strLen_append ..
  exact ⟨x, tk, rfl, by omega, hr pins s1 σ H1 (acc ++ x) k I1 h (by omega)⟩
theorem pf_val (ha : PE X a te) (hr : PF X ps n t) : PF X (.FormattedValue a (-1) none pos :: ps) (n + 1) (fun σ H k => te σ H fun x H1 => fOk x ∧ t σ H1 k) := by
  intro pins s σ H acc k I h hl
  refine FormattedValue_plain (thn (ha pins s σ H _ I h) fun u s1 ⟨v, H1, I1, rv, fo, q⟩ => ?_)
  rcases fo with ⟨i, rfl, hi⟩ | ⟨y, rfl, hy⟩
  · obtain ⟨tk, rfl⟩ := rv
    refine formatField_int_small hi ?_
    have h1 := int_text_length_le (k := 1920) (by decide) hi
    have h2 : (Str.ofString (toString i)).length ≤ 1921 := by rw [PySem.ofString_length]; exact h1
    have hlen : (acc ++ Str.ofString (toString i)).length = acc.length + (Str.ofString (toString i)).length := strLen_append ..
    exact ⟨Str.ofString (toString i), _, rfl, by omega, hr pins _ σ H1 _ k ((I1.tok _).tok _) q (by omega)⟩
  · obtain ⟨tk, rfl⟩ := rv
    refine formatField_str (fun t' tk' => ?_) (Nat.le_trans hy (by decide))
    have hlen : (acc ++ y).length = acc.length + y.length := strLen_append ..
    exact ⟨y, _, rfl, by omega, hr pins _ σ H1 _ k (I1.tok _) q (by omega)⟩
theorem pe_fstr {v1 v2 : Expr} (h : PF X (v1 :: v2 :: ps) n t) (hn : n ≤ 1000) : PE X (.JoinedStr (v1 :: v2 :: ps) pos) (fun σ H Q => t σ H fun H1 => ∀ x, Q (.str x) H1) := by
  intro pins s σ H Q I hq
  refine PySem.wpAny_JoinedStr ?_
  have hz : (Str.empty : Str).length + n * 2000 ≤ sizeLine := by
    have : (Str.empty : Str).length = 0 := rfl
    have : (2000000 : Nat) ≤ sizeLine := by decide
    omega
  have j := h pins s σ H Str.empty _ I hq hz
  have go : ∀ (l : List (Sem Value)) (acc : Str) (s : Shared), Joins (model X.prog X.w) X.A X.xe l acc (fun out s1 => out.length ≤ sizeLine ∧ ∃ H', Inv X pins σ H' s1 ∧ ∀ x, Q (.str x) H') s → Joins (model X.prog X.w) X.A X.xe l acc (fun out s1 => out.length ≤ sizeLine ∧ EP X pins σ Q (.str out s1.toks) { s1 with toks := s1.toks + 1 }) s := by
    intro l
    induction l with
    | nil =>
      rintro acc s ⟨h1, H', I', q⟩
      exact ⟨h1, .str acc, H', I'.tok _, ⟨_, rfl⟩, q acc⟩
    | cons x l ih =>
      intro acc s hj
      exact thn hj fun u s1 ⟨y, tk, e, hl, r⟩ => ⟨y, tk, e, hl, ih _ _ r⟩
  exact go _ _ _ j
def tRaise (Ex : XK) (C : Addr) (ta : TA) : TS := fun _ σ H => ta σ H fun vs H1 => ∃ v, vs = [v] ∧ Ex (.ref C) none H1
def RaisesIn (X : Cx) (Ex : XK) : Prop := ∀ {pins : List (Addr × Obj)} {σ : St} {H : Hp} {s : Shared} {h' : Heap} {e : Addr} {cls : Value} {args : List Value}, Inv X pins σ H s → Heap.MadeExcOf s.heap h' e cls args → Ex cls none H → X.xe (.ref e) { s with heap := h' }
theorem ps_raise {x : Str} {C : Addr} {tl : List Value} {Ex : XK} {ta : TA} {np cpos : Pos} (hx : RaisesIn X Ex) (c : Xc X.K X.mg x C tl) (hb : tl.contains (.type "BaseException") = true) (hg : Gl X x) (hc : X.calm = true) (ha : PAs X [a] ta) (hd : (x == ("__debug__" : Str)) = false := by decide) :
    PS X (.Raise (some (.Call (.Name x np) [a] [] cpos)) none pos) (tRaise Ex C ta) := by
  intro pins s σ H D I h
  obtain ⟨N, nm, q, bs, hdct, sn, sub, ab, col, dd, k0, k1, k2, k3, k5, mN, hC, hN, hni, T⟩ := c.obj I.ok.mod.kin
  refine wpAny_Raise_call_subT (C := C) (nm := nm) (q := q) (N := N) (bs := bs) (bm := tl) (hdct := hdct) (sn := sn) (sub := sub) (ab := ab) (col := col) (dd := dd) (k0 := k0) (k1 := k1) (k2 := k2) (k3 := k3) (k5 := k5) PySem.F.excBase_ValueError (mN := mN) hb (I.ok.hd hc)
    (by rw [(ha.ns a [] rfl).1.h [] X.env]; exact (ha.ns a [] rfl).2 cpos X.env) hni (ld_glob I hg c.m ⟨rfl, ?_⟩ hd)
  have he := (ha.ns a [] rfl).1.h [] X.env
  have h2 := ha.pa cpos pins s σ H _ I h
  rw [he] at h2 ⊢
  refine Calls.evalArgs_plain (thn h2 fun us s2 ⟨vs, H1, I1, r, v, ev, q1⟩ => ⟨rfl, ?_, I1.bk _ _ hC, hN.keeps I1.bk, T.keeps I1.bk, fun h' e hm => hx I1 hm q1⟩)
  have h1 := r.length
  rw [ev] at h1
  show us.length ≤ sizeLine
  rw [← h1]
  exact (by decide : 1 ≤ sizeLine)
end
end L2
namespace L2
open PySem PySem.Spec PyProof.Rows PySem.W PySem.Builtin PySem.Builtin.ObjectAttr PySem.Builtin.Getset_descriptor
section
variable {prog : Program} {w : World} {A : Around} {E : Value → Shared → Prop} {s : Shared} {K : Frag} {x C : Addr} {ox : Obj}
def ExAt (x C : Addr) (h : Heap) : Prop := ∃ o, h.get? x = some o ∧ o.cls = .ref C
theorem ExAt.ty {x C : Addr} {h : Heap} {M : Model} (p : ExAt x C h) : Looks M h (typeOf (.ref x)) (.ref C) := by
  obtain ⟨o, h1, h2⟩ := p
  exact h2 ▸ (Looks.ld h1).andThen .now
theorem exc_get {R : Result → Shared → Prop} {tp : Value} (X : K.In s.heap) (I : ExAt x C s.heap) (hm : mroIn K C (.type "object") = some true)
    (h : R (.ok (.ret (.ref C))) s) : codeAny (model prog w) A (.call (.builtin "getset_descriptor.__get__") ⟨[.builtin "object.__class__", .ref x, tp], []⟩) R s := by
  obtain ⟨hh, g, dr, t, os⟩ := s
  have q0 := I.ty (M := model prog w)
  have q1 := looks_mroIn (M := model prog w) X hm
  refine codeAny_call_builtin KF.slot_gs.plain KF.entry_gs (KF.slot_gs.check _ _ _ _ _ _ _ _ KF.type_class (KF.args_gs _ _ _) ?_)
  unfold Builtin.«getset_descriptor.__get__» descrGet
  rw [dga_obj]
  refine wpAny_bind (wpAny_pure ?_)
  unfold descrGetter descrCheckInstance descrNameAndClass isInstance
  simp only [KF.owner_class]
  repeat lk
  refine ⟨Code.quiet_builtin _ (by decide +kernel), codeAny_builtin KF.entry_class ?_⟩
  unfold Builtin.«object.__class__» shownTypeOf
  repeat lk
  exact h
theorem exc_entry {tk : Tok} {P : Value → Shared → Prop} (X : K.In s.heap) (I : ExAt x C s.heap) (ha : findIn K (.ref C) "__class__" = some (some (.builtin "object.__class__"))) (hn : specialIn K (.builtin "object.__class__") "__get__" = some (some (.builtin "getset_descriptor.__get__")))
    (htk : takesIn K (.builtin "object.__class__") = some true) (hm : mroIn K C (.type "object") = some true) (h : P (.ref C) s) :
    wpAny (model prog w) A (Builtin.«object.__getattribute__» ⟨[.ref x, .str "__class__" tk], []⟩) (fun fin s' => ∃ v, fin = .done (.ret v) ∧ P v s') E s := by
  obtain ⟨hh, g, d, t, os⟩ := s
  have l0 := I.ty (M := model prog w)
  have l1 := looks_findIn (M := model prog w) X ha
  have l2 := looks_specialIn (M := model prog w) X hn
  have l3 := looks_takesIn (M := model prog w) X htk
  unfold Builtin.«object.__getattribute__»
  refine wpAny_bind (wpAny_pure ?_)
  dsimp only
  refine wpAny_bind (wpAny_pure ?_)
  refine wpAny_bind (l0.at ?_)
  refine wpAny_bind ?_
  unfold Builtin.ObjectAttr.find
  refine wpAny_bind (l1.at ?_)
  refine wpAny_bind (l2.at ?_)
  refine wpAny_bind (wpAny_bind (l3.at ?_))
  rw [if_pos rfl]
  refine wpAny_pure ?_
  refine wpAny_bind (wpAny_rule (wpAny_pure ?_))
  show wpAny _ _ (Builtin.ObjectAttr.bindTo (.builtin "getset_descriptor.__get__") (.builtin "object.__class__") (.ref x) (.ref C)) _ _ _
  unfold Builtin.ObjectAttr.bindTo
  dsimp only
  refine wpAny_bind (wpAny_holding (wpAny_call (exc_get X I hm ?_)))
  exact wpAny_pure ⟨_, rfl, h⟩
theorem exc_check {M : Model} {nameV : Value} {Q : Unit → Shared → Prop} (X : K.In s.heap) (I : ExAt x C s.heap) (hb : mroIn K C (.type "BaseException") = some true) (h : Q () s) :
    wpAny M A (checkBuiltinCall "BaseException.__getattribute__" ⟨[.ref x, nameV], []⟩) Q E s := by
  obtain ⟨hh, g, d, t, os⟩ := s
  have l0 := I.ty (M := M)
  have l1 := looks_mroIn (M := M) X hb
  have kd : builtinKind "BaseException.__getattribute__" = some .slot := by decide +kernel
  have sp : splitId "BaseException.__getattribute__" = some ("BaseException", "__getattribute__") := by decide +kernel
  have ar := F.args_bexc_ga (.ref x) nameV
  simp only [checkBuiltinCall, kd, sp]
  unfold isInstance
  refine wpAny_bind (wpAny_bind (l0.at (l1.at ?_)))
  repeat (first | exact h | assumption | wp_step)
theorem exc_class {Q : Option Value → Shared → Prop} (X : K.In s.heap) (I : ExAt x C s.heap) (hga : findIn K (.ref C) "__getattribute__" = some (some (.builtin "BaseException.__getattribute__"))) (hgn : findIn K (.ref C) "__getattr__" = some none)
    (ha : findIn K (.ref C) "__class__" = some (some (.builtin "object.__class__"))) (hn : specialIn K (.builtin "object.__class__") "__get__" = some (some (.builtin "getset_descriptor.__get__"))) (htk : takesIn K (.builtin "object.__class__") = some true)
    (hm : mroIn K C (.type "object") = some true) (hb : mroIn K C (.type "BaseException") = some true) (h : Q (some (.ref C)) { s with toks := s.toks + 1 }) :
    wpAny (model prog w) A (getAttr? (.ref x) "__class__") Q E s := by
  obtain ⟨hh, g, d, t, os⟩ := s
  have l0 := I.ty (M := model prog w)
  have l1 := looks_findIn (M := model prog w) X hga
  have l2 := looks_findIn (M := model prog w) X hgn
  unfold getAttr? getAttrBy? getAttrBy
  refine wpAny_bind (wpAny_mkText (wpAny_bind (wpAny_attempt (wpAny_holding (wpAny_bind (l0.at (wpAny_bind (l1.at ?_))))))))
  dsimp only
  rw [if_neg (fun z => by rw [show (Value.builtin "BaseException.__getattribute__" == Value.builtin "object.__getattribute__") = false by decide +kernel, Bool.and_false] at z; cases z)]
  unfold getAttrByItsOwn hookBefore
  rw [if_pos (show onTheHeap (Value.ref C) = true by rfl)]
  refine wpAny_bind (l2.at ?_)
  refine wpAny_bind (wpAny_attempt (wpAny_holding ?_))
  show wpAny _ _ (boundAndCalled (.builtin "BaseException.__getattribute__") (.ref x) (.str "__class__" t)) _ _ _
  unfold boundAndCalled
  rw [F.attr_ValueError.ga.bind (.ref x)]
  refine wpAny_bind (wpAny_pure ?_)
  refine wpAny_call (codeAny_call_builtin F.attr_ValueError.ga.plain F.entry_bexc_ga (exc_check (s := ⟨hh, g, d, t + 1, os⟩) X I hb ?_))
  refine wpAny_mono (exc_entry (s := ⟨hh, g, d, t + 1, os⟩) X I ha hn htk hm (P := fun v s' => v = .ref C ∧ s' = ⟨hh, g, d, t + 1, os⟩) ⟨rfl, rfl⟩) (fun fin s' z => ?_) fun _ _ z => z
  obtain ⟨v, rfl, rfl, rfl⟩ := z
  show wpAny (model prog w) A (handedOut (.ref C)) _ _ _
  exact handed_on rfl (wpAny_pure h)
structure XcK (K : Frag) (C : Addr) : Prop where
  ga : findIn K (.ref C) "__getattribute__" = some (some (.builtin "BaseException.__getattribute__"))
  gn : findIn K (.ref C) "__getattr__" = some none
  ha : findIn K (.ref C) "__class__" = some (some (.builtin "object.__class__"))
  hn : specialIn K (.builtin "object.__class__") "__get__" = some (some (.builtin "getset_descriptor.__get__"))
  htk : takesIn K (.builtin "object.__class__") = some true
  hm : mroIn K C (.type "object") = some true
  hb : mroIn K C (.type "BaseException") = some true
  hc : (clsIn K C).isSome = true
theorem kitx_exc (k : XcK K C) : KitX K (.ref x) (.ref C) (ExAt x C) where
  ty := fun _ _ _ I => I.ty
  it := fun _ _ X _ => by
    obtain ⟨cd, e⟩ := Option.isSome_iff_exists.mp k.hc
    unfold clsIn at e
    split at e
    · rename_i c' d' cd' sl' look
      intro A' Q' E' s' st q
      unfold isType loadHead
      exact wpAny_bind (wpAny_loadPart (st _ _ (X _ _ look)) (wpAny_pure q))
    · cases e
  ne := fun h tp dd its n sl X htp => by
    obtain ⟨cd, e⟩ := Option.isSome_iff_exists.mp k.hc
    refine Bool.eq_false_iff.mpr fun q => ?_
    have z : C = tp := Value.ref.inj (beq_iff_eq.mp q)
    subst z
    unfold clsIn at e
    split at e
    · rename_i c' d' cd' sl' look
      have y := (X _ _ look).symm.trans htp
      cases y
    · cases e
  ca := fun X I q => exc_class X I k.ga k.gn k.ha k.hn k.htk k.hm k.hb q
end
end L2
namespace L2
open PySem PySem.Spec PyProof.Rows
theorem un_stays {fs : List Addr} {H1 H2 : Hp} {h1 h2 h3 B : Heap} (u : Un fs [] H1 H2 h1 h2) (s2 : B.StaysIn h2) (s3 : B.StaysIn h3) (inB : ∀ b o, h1.get? b = some o → b ∉ fs → ∃ o', B.get? b = some o')
    (sl : ∀ b o, b ∈ fs → h2.get? b = some o → ∃ x, h3.get? b = some { o with slots := x }) : Un fs [] H1 H2 h1 h3 := by
  have hex : ∀ b : Addr, b ∉ ([] : List Addr) := fun b z => nomatch z
  refine ⟨fun b o hb n hf _ => ?_, fun b o hb n hf _ => ?_, fun b o hb n _ => u.free b o hb n (hex b), fun b o hb _ => ?_, u.tups, u.frzs, u.tbls⟩
  · have e2 := u.keep b o hb n hf (hex b)
    obtain ⟨o', ho'⟩ := inB b o hb hf
    have e3 := s2 b o' ho'
    rw [e2] at e3
    cases e3
    exact s3 b o ho'
  · obtain ⟨x, e2⟩ := u.slot b o hb n hf (hex b)
    obtain ⟨y, e3⟩ := sl b _ hf e2
    exact ⟨y, e3⟩
  · by_cases hm : b ∈ fs
    · obtain ⟨o2, e2⟩ := u.there b o hb (hex b)
      obtain ⟨y, e3⟩ := sl b _ hm e2
      exact ⟨_, e3⟩
    · obtain ⟨o', ho'⟩ := inB b o hb hm
      exact ⟨o', s3 b o' ho'⟩
theorem slots_of {h2 h3 B : Heap} {l : List Env} (fr : h2.FunFrames B l) (x : h2.UpToSlots h3) : ∀ b o, b ∈ frs l → h2.get? b = some o → ∃ y, h3.get? b = some { o with slots := y } := fun b o hm ho => by
  obtain ⟨_, o2, ho2, hd2⟩ := fr.mem hm
  rw [ho] at ho2
  cases ho2
  exact x b o ho hd2
def exO (ea C : Addr) : HO := .ext (ExAt ea C)
theorem exO_ok {P : Program} {w : World} {H : Hp} {h : Heap} {ea C : Addr} (x : ExAt ea C h) : ObjOk P w H h ea (exO ea C) := by
  obtain ⟨o, h1, h2⟩ := id x
  exact ⟨x, ⟨o, h1⟩, fun g1 g2 ⟨o', a, b⟩ k => ⟨o', k _ a, b⟩⟩
section
variable {X : Cx} {pins : List (Addr × Obj)} {σ : St} {H : Hp} {s : Shared} {ea C : Addr}
theorem Inv.track (I : Inv X pins σ H s) (n : H ea = none) (x : ExAt ea C s.heap) (n0 : X.s₀.heap.get? ea = none) (nl : ea ≠ X.env.locals) (nc : ∀ y c, X.env.cells.lookup y = some c → c ≠ ea) (np : ∀ p ∈ X.pn ++ pins, p.1 ≠ ea) : Inv X pins σ (upd H ea (exO ea C)) s := by
  have ne : ∀ b u, H b = some u → b ≠ ea := fun b u e z => by rw [z, n] at e; cases e
  have k : ∀ b u, H b = some u → (upd H ea (exO ea C)) b = some u := fun b u e => by rw [upd_ne (ne b u e)]; exact e
  refine ⟨I.ok, I.os, I.bare, ⟨I.base.keep, I.base.slot, fun b o e m hx => ?_, I.base.there, fun b xs e => k _ _ (I.base.tups b xs e), fun b o u e => k _ _ (I.base.frzs b o u e), fun b ps e => ?_⟩, I.loc, I.cell, ?_, fun y c e => ?_, fun p hp => ?_, fun b u e => ?_, I.len⟩
  · rw [upd_ne (fun z => by rw [z, n0] at e; cases e)]
    exact I.base.free b o e m hx
  · obtain ⟨more, e1⟩ := I.base.tbls b ps e
    exact ⟨more, k _ _ e1⟩
  · rw [upd_ne (Ne.symm nl)]
    exact I.free
  · rw [upd_ne (nc y c e)]
    exact I.freeC y c e
  · obtain ⟨a1, a2, a3, a4, a5⟩ := I.pin p hp
    exact ⟨a1, by rw [upd_ne (np p hp)]; exact a2, a3, a4, a5⟩
  · by_cases hb : b = ea
    · subst hb
      rw [upd_same] at e
      cases e
      exact exO_ok x
    · rw [upd_ne hb] at e
      exact (I.hok b u e).stay (fun c v _ q => q) (fun c q => k _ _ q) fun c xs q => k _ _ q
end
section
variable {M : Model} {A : Around} {E : Value → Shared → Prop} {s : Shared} {nm q : Str} {C N : Addr} {bs bm : List Value} {hdct : Bool} {sn : List Str} {sub : List Value} {ab : Bool} {col : Option Bool} {dd : Option Addr} {k0 k1 k2 k3 k5 : Option Value} {newId : String}
  {nm' q' : Str} {T N' : Addr} {bs' bm' : List Value} {hdct' : Bool} {sn' : List Str} {sub' : List Value} {ab' : Bool} {col' : Option Bool} {dd' : Option Addr} {j0 j1 j2 j3 j5 : Option Value} {newId' : String}
theorem matches_up {h : Heap} {g : Array GenState} {d : Drawn} {t : Nat} {os : OsState} {e : Addr} {oe : Obj} {Q : Bool → Shared → Prop} (hC : h.get? C = some (excClassObj nm q C N bs bm hdct sn sub ab col dd k0 k1 k2 k3 k5 newId)) (hT : h.get? T = some (excClassObj nm' q' T N' bs' bm' hdct' sn' sub' ab' col' dd' j0 j1 j2 j3 j5 newId'))
    (he : h.get? e = some oe) (hcls : oe.cls = .ref C) (hup : (Value.ref C :: bm).contains (.ref T) = true) (hbase : bm'.contains (.type "BaseException") = true) (hq : Q true ⟨h, g, d, t, os⟩) : wpAny M A (excMatches (.ref e) (.ref T)) Q E ⟨h, g, d, t, os⟩ := by
  have hcB : (Value.ref T :: bm').contains (.type "BaseException") = true := by rw [List.contains_cons, hbase, Bool.or_true]
  have f := tc_notTuple
  unfold excMatches
  repeat (first | (with_reducible refine wpAny_loadPart_at he ?_; rw [hcls]) | with_reducible refine wpAny_loadPart_at hT ?_ | (with_reducible refine wpAny_isSubtype_exc hT ?_; rw [hcB]) | (with_reducible refine wpAny_isSubtype_exc hC ?_; rw [hup]) | wp_step)
  exact hq
end
end L2
namespace L2
open PySem PySem.Spec PyProof.Rows
section
variable {X : Cx} {pins : List (Addr × Obj)} {σ : St} {H : Hp} {s : Shared}
theorem Inv.forget {σ' : St} {h' : Heap} {t' : Nat} {m : Str → Option Value} {en : Str} {v : Option Value} (I : Inv X pins σ H s) (hm : ∀ (i : Nat) (x : Str) (v : V), X.N[i]? = some x → σ[i]? = some (some v) → Vis X.env.scope x → ∃ u, RelV v u ∧ Look X.env s.heap m x u)
    (hn' : h'.Ns X.env.locals (fun x => if x = en then v else m x)) (hs : Heap.SameBut X.env.locals s.heap h') (hl : σ'.length = σ.length) (hw : ∀ (i : Nat) v, σ'[i]? = some (some v) → σ[i]? = some (some v) ∧ X.N[i]? ≠ some en) : Inv X pins σ' H { s with heap := h', toks := t' } := by
  have neL : ∀ b o, X.s₀.heap.get? b = some o → b ≠ X.env.locals := fun b o e => Nat.ne_of_lt (Nat.lt_of_lt_of_le (Heap.lt_size e) I.ok.above)
  refine ⟨I.ok, I.os, I.bare, ⟨fun b o e n hb hx => ?_, fun b o e n hb hx => ?_, I.base.free, fun b o e hx => ?_, I.base.tups, I.base.frzs, I.base.tbls⟩, ⟨_, hn', fun j y v' e1 e2 e3 => ?_⟩, fun y c e => ?_, I.free, I.freeC, fun p hp => ?_, fun b u e => ?_, hl.trans I.len⟩
  · exact (hs.2 b (neL b o e)).trans (I.base.keep b o e n hb hx)
  · obtain ⟨sl, e1⟩ := I.base.slot b o e n hb hx
    exact ⟨sl, (hs.2 b (neL b o e)).trans e1⟩
  · obtain ⟨o', e1⟩ := I.base.there b o e hx
    exact ⟨o', (hs.2 b (neL b o e)).trans e1⟩
  · obtain ⟨w1, w2⟩ := hw j v' e2
    obtain ⟨u, r, l⟩ := hm j y v' e1 w1 e3
    refine ⟨u, r, ?_⟩
    rcases l with ⟨k, e⟩ | ⟨k, c, e, z⟩
    · refine .inl ⟨k, ?_⟩
      have : y ≠ en := fun z => w2 (by rw [e1, z])
      show (if y = en then v else m y) = some u
      rw [if_neg this]
      exact e
    · exact .inr ⟨k, c, e, z.sameBut hs (I.cne y c e)⟩
  · obtain ⟨w', z⟩ := I.cell y c e
    exact ⟨w', z.sameBut hs (I.cne y c e)⟩
  · obtain ⟨e, n, ne, nf, d⟩ := I.pin p hp
    exact ⟨(hs.2 p.1 ne).trans e, n, ne, nf, d⟩
  · have hfree := I.free
    refine (I.hok b u e).stay (fun c w' hc q => (hs.2 c ?_).trans q) (fun _ q => q) fun _ _ q => q
    intro z
    rcases hc with hc | hc
    · rw [hc] at z
      rw [z, hfree] at e
      cases e
    · rw [z, hfree] at hc
      cases hc
theorem Inv.other {W : Value → Shared → Prop} {pn pins' : List (Addr × Obj)} (I : Inv X pins σ H s) (h : ∀ p ∈ pn ++ pins', p ∈ X.pn ++ pins) : Inv { X with xe := W, pn := pn } pins' σ H s :=
  ⟨⟨I.ok.mod, I.ok.kind, I.ok.glob, I.ok.blt, I.ok.above, I.ok.inj, I.ok.has, I.ok.cab, I.ok.hd, I.ok.frames, I.ok.stk, I.ok.exf, I.ok.bs, I.ok.bsz, I.ok.noex, I.ok.exfs, I.ok.funs, I.ok.frf⟩, I.os, I.bare, I.base, I.loc, I.cell, I.free, I.freeC, fun p hp => I.pin p (h p hp), I.hok, I.len⟩
theorem Inv.back {W : Value → Shared → Prop} {pn pins' : List (Addr × Obj)} (I : Inv { X with xe := W, pn := pn } pins' σ H s) (h : ∀ p ∈ X.pn ++ pins, p ∈ pn ++ pins') : Inv X pins σ H s :=
  ⟨⟨I.ok.mod, I.ok.kind, I.ok.glob, I.ok.blt, I.ok.above, I.ok.inj, I.ok.has, I.ok.cab, I.ok.hd, I.ok.frames, I.ok.stk, I.ok.exf, I.ok.bs, I.ok.bsz, I.ok.noex, I.ok.exfs, I.ok.funs, I.ok.frf⟩, I.os, I.bare, I.base, I.loc, I.cell, I.free, I.freeC, fun p hp => I.pin p (h p hp), I.hok, I.len⟩
theorem Inv.mark {e : Option Value} (I : Inv X pins σ H s) : Inv { X with A := X.A.mark e, calm := false, xe := fun _ _ => False } pins σ H s :=
  ⟨⟨I.ok.mod, I.ok.kind, I.ok.glob, I.ok.blt, I.ok.above, I.ok.inj, I.ok.has, I.ok.cab, (fun z => nomatch z), I.ok.frames, I.ok.stk, I.ok.exf, I.ok.bs, I.ok.bsz, I.ok.noex, I.ok.exfs, I.ok.funs, I.ok.frf⟩, I.os, I.bare, I.base, I.loc, I.cell, I.free, I.freeC, I.pin, I.hok, I.len⟩
theorem Inv.unmark {e : Option Value} {σ' : St} {H' : Hp} {s' : Shared} (I0 : Inv X pins σ H s) (I : Inv { X with A := X.A.mark e, calm := false, xe := fun _ _ => False } pins σ' H' s') : Inv X pins σ' H' s' :=
  ⟨I0.ok, I.os, I.bare, I.base, I.loc, I.cell, I.free, I.freeC, I.pin, I.hok, I.len⟩
end
end L2
namespace L2
open PySem PySem.Spec PyProof.Rows
section
variable {P : Program} {w : World} {K : PySem.W.Frag} {mg : Str → Option Value} {base : Heap}
theorem Fun.okX {x qual : Str} {st : Stmt} {f : Addr} {fd : FuncData} {N ps : List Str} {k : Nat} {sp : Sp} (F : Fun K x qual st f fd) (S : FnScope N ps (defScope st)) (len : ∀ vs H Q E, sp vs H Q E → vs.length = ps.length)
    (hbody : ∀ (cdv : Value) (A : Around) (outer : List Env) (s : Shared) (H : Hp) (vs : List V) (Q : VK) (E : XK), Room k (A.deeper (envOfC qual (defScope st) s.heap.objs.size f cdv)) → sp vs H Q E →
      ∃ t, PSs (cxOf (CX1 P w base) P w K mg base N qual (defScope st) f cdv A outer s H E) (defBody st) t ∧ t { nx := fun _ H' => Q .non H', rt := Q } (start N vs) H) : FnOk P w K mg base (CX1 P w base) (k + 1) f fd ps sp := by
  obtain ⟨oc, od, kV, doc, pm, an, cdv, ct, osl, rfl, lk, hcd⟩ := F.ex
  exact fn_of lk hcd S len fun A outer s H vs Q E hr hsp => hbody cdv A outer s H vs Q E hr hsp
theorem raisesX {N : List Str} {qual : Str} {scope : Scope} {f : Addr} {cd : Value} {A : Around} {outer : List Env} {s : Shared} {H : Hp} {E : XK} : RaisesIn (cxOf (CX1 P w base) P w K mg base N qual scope f cd A outer s H E) E := fun I hm q => leave_made I hm q
theorem passX {N : List Str} {qual : Str} {scope : Scope} {f : Addr} {cd : Value} {A : Around} {outer : List Env} {s : Shared} {H : Hp} {E : XK} : Passes (CX1 P w base) (cxOf (CX1 P w base) P w K mg base N qual scope f cd A outer s H E) E := pass1 fun _ _ _ h => h
end
def rIsX (K : PySem.W.Frag) : List V → Hp → VK → Prop := fun xs H Q => ∃ ea C b, H ea = some (exO ea C) ∧ XcK K C ∧ ((∃ D, xs = [.ref ea, .ref D] ∧ PySem.W.kitOne K (.ref C) (.ref D) = some b) ∨ (∃ n, xs = [.ref ea, .ty n] ∧ PySem.W.kitOne K (.ref C) (.type n) = some b) ∨
  (∃ (t : Addr) (ds : List Addr), xs = [.ref ea, .ref t] ∧ H t = some (.tup (ds.map V.ref)) ∧ PySem.W.kitAny K (.ref C) (ds.map Value.ref) = some b)) ∧ Q (.bl b) H
theorem vals_refs : ∀ {ds : List Addr} {its : List Value}, Vals (ds.map V.ref) its → its = ds.map Value.ref
  | [], _, .nil => rfl
  | d :: ds, _, .cons r t => by rw [vals_refs t, show _ = Value.ref d from r]; rfl
section
variable {X : Cx}
theorem call_isX : CallR X (.builtin "isinstance") (rIsX X.K) := by
  intro pins s σ H xs us Q I r h
  obtain ⟨ea, C, b, hea, k, cs, q⟩ := h
  have ex : ExAt ea C s.heap := (show ObjOk X.prog X.w H s.heap ea (exO ea C) from I.hok ea _ hea).1
  rcases cs with ⟨D, rfl, e⟩ | ⟨n, rfl, e⟩ | ⟨t, ds, rfl, ht, e⟩
  · obtain ⟨u, v, rfl, ru, rv⟩ := Vals.two r
    obtain rfl : u = Value.ref ea := ru
    obtain rfl : v = Value.ref D := rv
    exact PySem.W.kia_one (kitx_exc k) I.kIn ex e (fun z => nomatch z) fun tk => ⟨.bl b, H, I.tok tk, rfl, q⟩
  · obtain ⟨u, v, rfl, ru, rv⟩ := Vals.two r
    obtain rfl : u = Value.ref ea := ru
    obtain rfl : v = Value.type n := rv
    exact PySem.W.kia_one (kitx_exc k) I.kIn ex e (fun z => nomatch z) fun tk => ⟨.bl b, H, I.tok tk, rfl, q⟩
  · obtain ⟨u, v, rfl, ru, rv⟩ := Vals.two r
    obtain rfl : u = Value.ref ea := ru
    obtain rfl : v = Value.ref t := rv
    obtain ⟨_, its, rl, o, h1, h2, n, h3⟩ := (show ObjOk X.prog X.w H s.heap t (.tup (ds.map V.ref)) from I.hok t _ ht)
    rw [vals_refs rl] at h3
    obtain ⟨oc, od, oda, osl⟩ := o
    simp only at h2 h3
    subst h2 h3
    exact PySem.W.kia_tup (kitx_exc k) I.kIn ex h1 e (fun z => nomatch z) fun tk => ⟨.bl b, H, I.tok tk, rfl, q⟩
end
theorem ns_joined {a p} : NoStar (.JoinedStr a p) := ns_of fun _ _ z => nomatch z
end L2
namespace TW
open PySem L2
def HasX (P : Program) (w : World) (K : PySem.W.Frag) (mg : Str → Option Value) (base : Heap) (x : Str) (ps : List Str) (k : Nat) (sp : Sp) : Prop :=
  ∃ f fd, FnOk P w K mg base (CX1 P w base) k f fd ps sp ∧ PySem.W.keepIn K (.ref f) = true ∧ Binds K fd ps [] ∧ mg x = some (.ref f)
theorem HasX.mono {P : Program} {w : World} {K : PySem.W.Frag} {mg : Str → Option Value} {base : Heap} {x : Str} {ps : List Str} {j k : Nat} {sp : Sp} (h : HasX P w K mg base x ps j sp) (hk : j ≤ k) : HasX P w K mg base x ps k sp :=
  let ⟨f, fd, a, b, c, d⟩ := h; ⟨f, fd, a.mono hk, b, c, d⟩
end TW
namespace L3
open PySem PySem.Spec PyProof.Rows L2
structure SFp (X : Cx) (ps : List Expr) (n : Nat) (t : TF) : Prop where
  h : PF X ps n t
section
variable {X : Cx} {a b c e o : Expr} {es : List Expr} {ta tb tc te : TE} {t : TA} {tf : TF} {pos : Pos} {n : Nat}
theorem fn : SFp X [] 0 (fun _ H k => k H) := ⟨pf_nil⟩
theorem fs {x : Str} {j} (hr : SFp X es n tf) (hx : x.length ≤ 2000 := by decide) : SFp X (.Constant (.str x) j pos :: es) (n + 1) tf := ⟨pf_str hx hr.h⟩
theorem fv (ha : SE X a ta) (hr : SFp X es n tf) : SFp X (.FormattedValue a (-1) none pos :: es) (n + 1) (fun σ H k => ta σ H fun x H1 => fOk x ∧ tf σ H1 k) := ⟨pf_val ha.h hr.h⟩
theorem fstr (h : SFp X (a :: b :: es) n tf) (hn : n ≤ 1000 := by decide) : SE X (.JoinedStr (a :: b :: es) pos) (fun σ H Q => tf σ H fun H1 => ∀ x, Q (.str x) H1) := ⟨pe_fstr h.h hn⟩
theorem raise_ {x : Str} {C : Addr} {tl : List Value} {Ex : XK} {np cpos : Pos} (hx : RaisesIn X Ex) (cc : Xc X.K X.mg x C tl) (hb : tl.contains (.type "BaseException") = true) (hg : Gl X x) (ha : SA X [a] t) (hc : X.calm = true := by rfl) (hd : (x == ("__debug__" : Str)) = false := by decide) :
    SS X (.Raise (some (.Call (.Name x np) [a] [] cpos)) none pos) (tRaise Ex C t) := ⟨ps_raise hx cc hb hg hc ha.h hd⟩
theorem ownX {x : Str} {p : Pos} {ps : List Str} {kk : Nat} {sp : Sp} {Ex : XK} (hp : Passes (CX1 X.prog X.w X.base) X Ex) (D : TW.HasX X.prog X.w X.K X.mg X.base x ps kk sp) (hr : Room kk X.A) (hg : Gl X x) (ha : SA X (e :: es) t) (hdb : (x == ("__debug__" : Str)) = false := by decide) :
    SE X (.Call (.Name x p) (e :: es) [] pos) (tCall sp [] Ex t) :=
  let ⟨_, _, G, kp, b, m⟩ := D
  ⟨pe_call G hr hg m kp b .nil hp ha.h.pa hdb ((ha.h.ns e es rfl).1.h es X.env) ((ha.h.ns e es rfl).2 pos X.env)⟩
theorem c_isX {KK : PySem.W.Frag} (hK : X.K = KK := by first | exact cxC_K | rfl) : SC X (.builtin "isinstance") (rIsX KK) := by
  subst hK
  exact ⟨call_isX⟩
end
end L3
namespace L2
open PySem PySem.Spec PyProof.Rows
end L2
namespace L3
open PySem PySem.Spec PyProof.Rows L2
end L3
namespace L2
open PySem PySem.Spec PyProof.Rows
section
variable {X : Cx} {a : Expr} {ta : TA} {p1 p2 pos pos2 : Pos}
def rInsert : V → List V → Hp → VK → Prop := fun x vs H Q => ∃ l xs y i, x = .ref l ∧ vs = [.int i, y] ∧ H l = some (.lst xs) ∧ 0 ≤ i ∧ i ≤ (xs.length : Int) ∧ xs.length < 1000 ∧ Q .non (upd H l (.lst (xs.take i.toNat ++ y :: xs.drop i.toNat)))
theorem mt_insert : MtM X "list.insert" rInsert := by
  intro pins s σ H x vs v us Q I rx rv h
  obtain ⟨l, xs, y, i, rfl, rfl, hH, h0, hk, hz, q⟩ := h
  cases rx
  obtain ⟨u1, u, rfl, ⟨tk, rfl⟩, ru⟩ := Vals.two rv
  obtain ⟨z, its, n, r, hl, e⟩ := I.lstM hH
  have hlen := r.length
  have fits : ¬(!Builtin.List.listFitsIndex i) = true := by
    have : Builtin.List.listFitsIndex i = true := by
      unfold Builtin.List.listFitsIndex
      simp
      omega
    simp [this]
  have few : its.toArray.size ≤ sizeLine := by rw [List.size_toArray]; exact Nat.le_trans (show _ ≤ 1000 by omega) (by decide)
  refine call_meets F.slot_list_insert ⟨_, e, rfl⟩ F.entry_list_insert (F.args_list_insert_3 _ _ _) (PySem.AutoSeq1.list_insert_list_int_val_1 l its.toArray n i tk u fits few) ⟨e, ?_⟩
  refine ⟨.non, _, I.lset (its' := its.take i.toNat ++ u :: its.drop i.toNat) hH e ?_ ((r.take i.toNat).append (.cons ru (r.drop i.toNat))) ?_, rfl, q⟩
  · have e1 : (if i < 0 then (i + (its.toArray.size : Int)).toNat else min i.toNat its.toArray.size) = i.toNat := by
      rw [if_neg (by omega), List.size_toArray]
      omega
    dsimp only
    rw [e1]
    apply Array.ext'
    simp
    exact List.take_of_length_le (by rw [List.length_drop]; exact Nat.le_refl _)
  · rw [List.length_append, List.length_cons, List.length_take, List.length_drop]
    exact Nat.le_trans (show _ ≤ 1000 by omega) (by decide)
end
end L2
namespace L3
open PySem PySem.Spec PyProof.Rows L2
section
variable {X : Cx} {a b c e o : Expr} {es : List Expr} {ta tb tc te : TE} {t : TA} {pos : Pos}
theorem insert {apos : Pos} {KK : PySem.W.Frag} {e1 e2 : Expr} (ho : SE X o ta) (ha : SA X [e1, e2] t) (hn : NoStar e2 := by first | exact ns_const | exact ns_name | exact ns_call | exact ns_sub) (hbase : attributeBase o "insert" X.env (eval o X.env) = eval o X.env := by rfl) (hline : (apos.endLine == pos.line) = true := by rfl) (hK : X.K = KK := by first | exact cxC_K | rfl) :
    SE X (.Call (.Attribute o "insert" apos) [e1, e2] [] pos) (tBM KK "list" rInsert ta t) := by
  subst hK
  exact ⟨pe_bm PySem.F.plainAttrs_list PySem.F.slot_list_insert PySem.F.type_list_insert mt_insert ho.h ha.h.pa hbase (by rw [(ha.h.ns e1 [e2] rfl).1.h [e2] X.env, hn.h [] X.env]; rfl) hline ((ha.h.ns e1 [e2] rfl).1.h [e2] X.env) ((ha.h.ns e1 [e2] rfl).2 pos X.env)⟩
end
end L3
namespace L2
open PySem PySem.Spec PyProof.Rows
end L2
namespace L3
open PySem PySem.Spec PyProof.Rows L2
end L3
namespace L2
open PySem PySem.Spec PyProof.Rows
end L2
namespace L3
open PySem PySem.Spec PyProof.Rows L2
end L3
namespace TW
end TW
namespace L3
open PySem PySem.Spec PyProof.Rows L2
section
variable {X : Cx} {a b o i value : Expr} {ta tb td ty tv : TE} {pos : Pos}
theorem slT2 {KK : PySem.W.Frag} {p2 : Pos} (ha : SE X a ta) (hb : SE X b tb) (hK : X.K = KK := by first | exact cxC_K | rfl) : SE X (.Subscript a (.Slice none (some b) none p2) pos) (tSl (rSlT KK) ta tNoPart (tPart tb)) := by
  subst hK
  exact ⟨pe_slice sl_tup ha.h po_none (po_some hb.h)⟩
theorem o_catT {KK : PySem.W.Frag} (hK : X.K = KK := by first | exact cxC_K | rfl) : SO X (binaryOp .Add) (rCatT KK) := by
  subst hK
  exact ⟨op_catT⟩
end
end L3
namespace L2
open PySem PySem.Spec PyProof.Rows
end L2
namespace L3
open PySem PySem.Spec PyProof.Rows L2
end L3
namespace L2
open PySem PySem.Spec PyProof.Rows
end L2
namespace L3
open PySem PySem.Spec PyProof.Rows L2
end L3
namespace PySem
open Sem (wp)
end PySem
namespace PySem
open Sem (wp)
open AutoSeq1 (wpAny_loadPart')
end PySem
namespace L2
open PySem PySem.Spec PyProof.Rows
end L2
namespace L3
open PySem PySem.Spec PyProof.Rows L2
end L3
namespace L2
open PySem PySem.Spec PyProof.Rows
section
variable {X : Cx} {pos : Pos}
def tPar2 (i j : Nat) (ta : TA) : TS := fun D σ H => ta σ H fun vs H1 => ∃ u v, vs = [u, v] ∧ D.nx ((σ.set i (some u)).set j (some v)) H1
theorem ps_par2 {i j : Nat} {x y : Str} {a b : Expr} {ta : TA} {px py pt : Pos} {kt k2 pt2} (hc : X.calm = true) (hN : X.N.Nodup) (hi : X.N[i]? = some x) (hj : X.N[j]? = some y) (hij : i ≠ j)
    (hx : X.env.scope.names.lookup x = some .local) (hy : X.env.scope.names.lookup y = some .local) (ha : PA X [a, b] ta)
    (hw : swappedStores [.Tuple [.Name x px, .Name y py] kt pt] (.Tuple [a, b] k2 pt2) X.env = pure (some [x, y]))
    (hs : swapsWithSole [.Tuple [.Name x px, .Name y py] kt pt] (.Tuple [a, b] k2 pt2) pos.line X.env = pure false := by rfl) :
    PS X (.Assign [.Tuple [.Name x px, .Name y py] kt pt] (.Tuple [a, b] k2 pt2) pos) (tPar2 i j ta) := by
  intro pins s σ H D I h
  rw [exec_Assign_arm]
  refine wpAny_bind (wpAny_standAt ?_)
  rw [hs]
  refine wpAny_bind (wpAny_pure ?_)
  rw [if_neg (by decide)]
  refine wpAny_bind (Tuple_ (thn (ha _ pins s σ H _ I h) fun us s1 ⟨vs, H1, I1, r1, q1⟩ => ?_))
  obtain ⟨u, v, e1, q1⟩ := q1
  subst e1
  obtain ⟨u1, u2, rfl, ru, rv⟩ := Vals.two r1
  refine wpAny_newObj_type ?_ (by show 2 ≤ sizeLine; decide)
  have I2 : Inv X pins σ H1 { s1 with heap := s1.heap.push { cls := .type "tuple", data := .seq [u1, u2].toArray } } := I1.kept (t' := s1.toks) fun b o e => Heap.get?_push_of_some _ e
  rw [hw]
  refine wpAny_bind (wpAny_pure ?_)
  show wpAny (model X.prog X.w) X.A (do rule "assign.swapped-stores"; let items ← unpackItems (.ref s1.heap.objs.size) 2 none; assignInOrder [fun v => bindName X.env y v, fun v => bindName X.env x v] items.reverse; pure Flow.next) _ _ _
  refine wpAny_bind (wpAny_rule (wpAny_bind (unpackItems_tuple (items := #[u1, u2]) (I.ok.hd hc) (IsTup.new s1.heap _) fun h' hx' => ?_)))
  have I3 := I2.kept (h' := h') (t' := s1.toks) fun b o e => hx' b o (Nat.ne_of_lt (Heap.lt_size e)) e
  show wpAny _ _ (assignInOrder [fun v => bindName X.env y v, fun v => bindName X.env x v] [u2, u1] >>= fun _ => pure Flow.next) _ _ _
  refine wpAny_bind (assignInOrder_cons (wpAny_bindName (store_ok I3 hN hj (.inl hy) rv (fun s2 I4 => ?_) (.inr hy))))
  refine assignInOrder_cons (wpAny_bindName (store_ok I4 hN hi (.inl hx) ru (fun s3 I5 => assignInOrder_nil (wpAny_pure ?_)) (.inr hx)))
  rw [List.set_comm _ _ hij.symm] at I5
  exact ⟨_, H1, I5, q1⟩
end
end L2
namespace L3
open PySem PySem.Spec PyProof.Rows L2
section
variable {X : Cx} {a b c e o : Expr} {es : List Expr} {ta tb tc te : TE} {t : TA} {pos : Pos}
theorem par2 (i j : Nat) {x y : Str} {px py pt : Pos} {kt k2 pt2} (hN : X.N.Nodup) (ha : SA X [a, b] t) (hi : X.N[i]? = some x := by rfl) (hj : X.N[j]? = some y := by rfl) (hij : i ≠ j := by decide)
    (hx : X.env.scope.names.lookup x = some .local := by rfl) (hy : X.env.scope.names.lookup y = some .local := by rfl)
    (hw : swappedStores [.Tuple [.Name x px, .Name y py] kt pt] (.Tuple [a, b] k2 pt2) X.env = pure (some [x, y]) := by rfl)
    (hs : swapsWithSole [.Tuple [.Name x px, .Name y py] kt pt] (.Tuple [a, b] k2 pt2) pos.line X.env = pure false := by rfl) (hc : X.calm = true := by rfl) :
    SS X (.Assign [.Tuple [.Name x px, .Name y py] kt pt] (.Tuple [a, b] k2 pt2) pos) (tPar2 i j t) := ⟨ps_par2 hc hN hi hj hij hx hy ha.h.pa hw hs⟩
theorem c_max (hc : X.calm = true := by rfl) : SC X (.builtin "max") (fun xs H Q => ∃ i j, xs = [.int i, .int j] ∧ Q (.int (if j > i then j else i)) H) := ⟨call_max2 hc⟩
end
end L3
namespace TW
end TW
namespace L2
open PySem PySem.Spec PyProof.Rows SeqAt
theorem all_ints {xs ys : List Int} (h : xs.length = ys.length) : (List.range xs.length).all (fun j => eqV (.int (xs.getD j 0)) (.int (ys.getD j 0))) = decide (xs = ys) := by
  have key : (∀ j, j < xs.length → xs.getD j 0 = ys.getD j 0) ↔ xs = ys := by
    constructor
    · intro k
      refine List.ext_getElem h fun j h1 h2 => ?_
      have := k j h1
      rw [List.getD_eq_getElem?_getD, List.getD_eq_getElem?_getD, List.getElem?_eq_getElem h1, List.getElem?_eq_getElem h2] at this
      exact this
    · intro e j _
      rw [e]
  by_cases e : xs = ys
  · rw [decide_eq_true e, List.all_eq_true]
    intro j hj
    show decide (xs.getD j 0 = ys.getD j 0) = true
    exact decide_eq_true (key.mpr e j (List.mem_range.mp hj))
  · rw [decide_eq_false e]
    rw [Bool.eq_false_iff]
    intro z
    rw [List.all_eq_true] at z
    exact e (key.mp fun j hj => of_decide_eq_true (show decide (xs.getD j 0 = ys.getD j 0) = true from z j (List.mem_range.mpr hj)))
theorem ints_flat {K : PySem.W.Frag} {H : Hp} {n : Nat} {xs ys : List Int} : ∀ (j : Nat) (x y : V), (xs.map V.int)[j]? = some x → (ys.map V.int)[j]? = some y → EB K H n x y (eqV (.int (xs.getD j 0)) (.int (ys.getD j 0))) := fun j x y hx hy => by
  rw [List.getElem?_map] at hx hy
  obtain ⟨a, ha, rfl⟩ := Option.map_eq_some_iff.mp hx
  obtain ⟨b, hb, rfl⟩ := Option.map_eq_some_iff.mp hy
  rw [List.getD_eq_getElem?_getD, List.getD_eq_getElem?_getD, ha, hb]
  exact EB.flat rfl rfl
theorem RB.ints {K : PySem.W.Frag} {H : Hp} {n : Nat} {a b : Addr} {xs ys : List Int} (ha : H a = some (.lst (xs.map V.int))) (hb : H b = some (.lst (ys.map V.int))) : RB K H n (.ref a) (.ref b) (decide (xs = ys)) := by
  by_cases hl : xs.length = ys.length
  · refine ⟨a, b, _, _, rfl, rfl, .inl ⟨_, SqL.of ha, SqL.of hb, by rw [List.length_map, List.length_map]; exact hl, ints_flat, ?_⟩⟩
    rw [List.length_map, all_ints hl]
  · exact ⟨a, b, _, _, rfl, rfl, .inr (.inl ⟨SqL.of ha, SqL.of hb, by rw [List.length_map, List.length_map]; exact hl, decide_eq_false fun z => hl (by rw [z])⟩)⟩
end L2
namespace L3
open PySem PySem.Spec PyProof.Rows L2
end L3
namespace TW
end TW
namespace TW
end TW
namespace L2
open PySem PySem.Spec PyProof.Rows
section
variable {X : Cx}
theorem bools_of : ∀ {bs : List Bool} {us : List Value}, Vals (bs.map V.bl) us → us = bs.map Value.bool
  | [], _, .nil => rfl
  | b :: bs, _, .cons r q => by
    cases r
    rw [bools_of q]
    rfl
end
end L2
namespace L3
open PySem PySem.Spec PyProof.Rows L2
end L3
namespace L2
open PySem PySem.Spec PyProof.Rows SeqAt
end L2
namespace L2
open PySem PySem.Spec PyProof.Rows
def tTry2 (K : PySem.W.Frag) (mg : Str → Option Value) (T : Addr) (n ie : Nat) (tb : XK → TS) (th : TS) : TS := fun D σ H => tb (fun cls _ H2 => ∃ C tl x, cls = .ref C ∧ Xc K mg x C tl ∧ (Value.ref C :: tl).contains (.ref T) = true ∧ ∀ ea, H2 ea = none → th { nx := fun σ8 H8 => D.nx (σ8.set ie none) H8, rt := fun _ _ => False } ((List.replicate n none).set ie (some (.ref ea))) (upd H2 ea (exO ea C))) D σ H
theorem ps_try2 {X : Cx} {tn en : Str} {T : Addr} {ie : Nat} {body hrest : List Stmt} {hst0 : Stmt} {tb : XK → TS} {th : TS} {np hp pos : Pos} (hst : X.stack = X.env :: X.outer) (hex : X.ex = []) (hfr : X.env.frame = some X.env.locals) (hN : X.N.Nodup) (hie : X.N[ie]? = some en)
    (hle : X.env.scope.names.lookup en = some .local) (cT : Xc X.K X.mg tn T vE) (hg : Gl X tn)
    (hb : ∀ (W : Value → Shared → Prop) (pn : List (Addr × Obj)) (Ex : XK), Passes (CX1 X.prog X.w X.base) { X with xe := W, pn := pn } Ex → PSs { X with xe := W, pn := pn } body (tb Ex))
    (hh : ∀ ea : Addr, PSs { X with A := X.A.mark (some (.ref ea)), calm := false, xe := fun _ _ => False } (hst0 :: hrest) th) (hdt : (tn == ("__debug__" : Str)) = false) :
    PS X (.Try body [.ExceptHandler (some (.Name tn np)) (some en) (hst0 :: hrest) hp] [] [] pos) (tTry2 X.K X.mg T X.N.length ie tb th) := by
  intro pins s σ H D I h
  let Hd : List ExceptHandler := [.ExceptHandler (some (.Name tn np)) (some en) (hst0 :: hrest) hp]
  let W : Value → Shared → Prop := fun e s1 => wpAny (model X.prog X.w) X.A (noteFrame e X.env) (fun _ s2 => wpAny (model X.prog X.w) X.A (setFlight e none) (fun _ s3 => wpAny (model X.prog X.w) X.A (handleBy e X.env Hd) (SP X pins D) X.xe s3) X.xe s2) X.xe s1
  have sub1 : ∀ p ∈ (X.pn ++ pins) ++ [], p ∈ X.pn ++ pins := fun p hp => by rw [List.append_nil] at hp; exact hp
  have back : ∀ {σ1 : St} {H1 : Hp} {s1 : Shared} {pins1 : List (Addr × Obj)}, Inv { X with xe := W, pn := X.pn ++ pins } pins1 σ1 H1 s1 → Inv X pins σ1 H1 s1 := fun J => J.back fun p hp => List.mem_append_left _ hp
  refine wpAny_Try_except ?_
  refine wpAny_mono (hb W (X.pn ++ pins) _ ?_ [] s σ H D (I.other sub1) h) (fun f s1 hs => ?_) (fun e s1 he => he)
  · -- an exception of a callee
    intro pins1 σ1 H1 s1 e s2 J cx
    obtain ⟨ea, cls, a0, B, H2, rfl, os2, bare2, un2, hok2, stB, fly, inB, trk, nea, C, tl, x, rfl, xc, hup, q⟩ := cx
    have J0 := back J
    have hst' : ({ X with xe := W, pn := X.pn ++ pins } : Cx).stack = X.env :: X.outer := hst
    rw [hst'] at un2 fly inB
    have fr2 := fly.2.2.1
    have at_ : ∀ h3 : Heap, B.StaysIn h3 → s2.heap.UpToSlots h3 → Inv X pins σ1 H2 { s2 with heap := h3 } := fun h3 s3 up => by
      refine J0.call' (s' := { s2 with heap := h3 }) (ch := []) os2 ?_ (stays_hok hok2 trk fly.1 s3) bare2 (fun b z => nomatch z)
      rw [hst]
      exact un_stays un2 fly.1 s3 inB (slots_of fr2 up)
    have n2 : H2 ea = none := by
      cases z : H2 ea with
      | none => rfl
      | some u =>
        obtain ⟨o, ho⟩ := trk ea u z
        rw [fly.2.1] at ho
        cases ho
    show wpAny (model X.prog X.w) X.A (noteFrame (.ref ea) X.env) _ _ _
    have frm : X.A.frames = some (X.env :: X.outer) := by rw [← hst]; exact I.ok.frames
    refine wpAny_looks_onW frm hfr fly fun h4 held4 up4 => ?_
    refine wpAny_landsW held4 fun h5 fly5 up5 => ?_
    have up25 := up4.trans up5
    have I5 := at_ h5 fly5.1 up25
    refine wpAny_handleBy_cons (codeAny_handlers_test (ld_glob (I5.mark (e := some (.ref ea))) hg cT.m ?_ hdt)) (by intro z; cases z)
    obtain ⟨N1, a1, a2, a3, a4, a5, a6, a7, a8, a9, b0, b1, b2, b3, b5, m1, hC, _, _, _⟩ := xc.obj I5.kIn
    obtain ⟨N2, c1, c2, c3, c4, c5, c6, c7, c8, c9, d0, d1, d2, d3, d5, m2, hT, _, _, _⟩ := cT.obj I5.kIn
    obtain ⟨ob, hob, hobc⟩ := fly5.there
    refine matches_up hC hT hob hobc hup rfl (codeAny_handlers_suite_as ?_)
    refine lands_againW fly5 fun h6 fly6 up6 => ?_
    have I6 := at_ h6 fly6.1 (up25.trans up6)
    have ex6 : ExAt ea C h6 := fly6.there
    have ne_of1 : ∀ b o, s1.heap.get? b = some o → b ≠ ea := fun b o hb z => by rw [z, nea] at hb; cases hb
    have I6t := I6.track n2 ex6 (by
      cases z : X.s₀.heap.get? ea with
      | none => rfl
      | some o =>
        by_cases hx : ea ∈ X.ex
        · rw [hex] at hx
          exact nomatch hx
        · obtain ⟨o', e1⟩ := J0.base.there ea o z hx
          rw [nea] at e1
          cases e1) (by
      obtain ⟨m, ⟨o, _, _, ho, _⟩, _⟩ := J0.loc
      exact (ne_of1 _ o ho).symm) (fun y c e => by
      obtain ⟨v, o, ho, _⟩ := J0.cell y c e
      exact ne_of1 c o ho) (fun p hp => ne_of1 p.1 p.2 (J0.pin p hp).1)
    refine store_ok I6t hN hie (.inl hle) (v := .ref ea) rfl (fun s7 I7 => ?_) (.inr hle)
    have hlenσ : σ1.length = X.N.length := J0.len
    have hieL : ie < σ1.length := by rw [hlenσ]; exact (List.getElem?_eq_some_iff.mp hie).1
    have I7w := I7.weak (σ' := (List.replicate X.N.length none).set ie (some (.ref ea))) (by rw [List.length_set, List.length_set, List.length_replicate, hlenσ]) (fun i v e => by
      by_cases hi : i = ie
      · subst hi
        rw [List.getElem?_set_self (by rw [List.length_replicate, ← hlenσ]; exact hieL)] at e
        rw [List.getElem?_set_self hieL]
        exact e
      · rw [List.getElem?_set_ne (Ne.symm hi), List.getElem?_replicate] at e
        split at e <;> cases e)
    refine wpAny_mono (hh ea pins s7 _ _ _ (I7w.mark (e := some (.ref ea))) (q ea n2)) (fun f s8 hs => ?_) (fun _ _ z => z.elim)
    cases f with
    | next =>
      obtain ⟨σ8, H8, I8, z8⟩ := hs
      have I8x := I6.unmark I8
      obtain ⟨m8, hn8, hl8⟩ := id I8x.loc
      refine wpAny_nameGoes_keeps (by exact hle) hn8 (by rw [I.ok.kind]; rfl) fun h9 v9 hn9 hs9 => ?_
      refine ⟨_, _, I8x.forget (σ' := σ8.set ie none) hl8 hn9 hs9 (by rw [List.length_set]) (fun i v e => ?_), z8⟩
      have l8 : σ8.length = X.N.length := I8x.len
      by_cases hi : i = ie
      · subst hi
        rw [List.getElem?_set_self (by rw [l8, ← hlenσ]; exact hieL)] at e
        cases e
      · rw [List.getElem?_set_ne (Ne.symm hi)] at e
        refine ⟨e, fun z => hi ?_⟩
        obtain ⟨h1, e1⟩ := List.getElem?_eq_some_iff.mp z
        obtain ⟨h2, e2⟩ := List.getElem?_eq_some_iff.mp hie
        rcases Nat.lt_trichotomy i ie with c | c | c
        · exact absurd (e1.trans e2.symm) (List.pairwise_iff_getElem.mp hN i ie h1 h2 c)
        · exact c
        · exact absurd (e2.trans e1.symm) (List.pairwise_iff_getElem.mp hN ie i h2 h1 c)
    | brk => obtain ⟨_, _, _, z⟩ := hs; exact z.elim
    | cont => obtain ⟨_, _, _, z⟩ := hs; exact z.elim
    | ret u => obtain ⟨_, _, _, _, _, z⟩ := hs; exact z.elim
  · cases f with
    | next =>
      obtain ⟨σ', H', J, z⟩ := hs
      exact wpAny_execs_nil ⟨σ', H', back J, z⟩
    | brk => obtain ⟨σ', H', J, z⟩ := hs; exact ⟨σ', H', back J, z⟩
    | cont => obtain ⟨σ', H', J, z⟩ := hs; exact ⟨σ', H', back J, z⟩
    | ret u => obtain ⟨v, σ', H', J, r, z⟩ := hs; exact ⟨v, σ', H', back J, r, z⟩
end L2
namespace TW
open PySem L2
end TW
namespace L3
open PySem L2
section
variable {X : Cx} {e : Expr} {es : List Expr} {t : TA} {pos : Pos}
theorem try2 {tn en : Str} {T : Addr} (ie : Nat) {body hrest : List Stmt} {hst0 : Stmt} {tbb : XK → TS} {th : TS} {np hp : Pos} {KK : PySem.W.Frag} {mg : Str → Option Value} {NN : Nat} (hN : X.N.Nodup) (cT : Xc X.K X.mg tn T vE) (hg : Gl X tn)
    (hb : ∀ (W : Value → Shared → Prop) (pn : List (Addr × Obj)) (Ex : XK), Passes (CX1 X.prog X.w X.base) { X with xe := W, pn := pn } Ex → SL { X with xe := W, pn := pn } body (tbb Ex))
    (hh : ∀ ea : Addr, SL { X with A := X.A.mark (some (.ref ea)), calm := false, xe := fun _ _ => False } (hst0 :: hrest) th)
    (hie : X.N[ie]? = some en := by rfl) (hle : X.env.scope.names.lookup en = some .local := by rfl)
    (hst : X.stack = X.env :: X.outer := by rfl) (hex : X.ex = [] := by rfl) (hfr : X.env.frame = some X.env.locals := by rfl) (hK : X.K = KK := by rfl) (hm : X.mg = mg := by rfl) (hNN : X.N.length = NN := by rfl)
    (hdt : (tn == ("__debug__" : Str)) = false := by decide) :
    SS X (.Try body [.ExceptHandler (some (.Name tn np)) (some en) (hst0 :: hrest) hp] [] [] pos) (tTry2 KK mg T NN ie tbb th) := by
  subst hK hm hNN
  exact ⟨ps_try2 hst hex hfr hN hie hle cT hg (fun W pn Ex hpp => (hb W pn Ex hpp).h) (fun ea => (hh ea).h) hdt⟩
end
end L3
namespace L2
open PySem PySem.Spec PyProof.Rows SeqAt
end L2
namespace L3
open PySem PySem.Spec PyProof.Rows L2
end L3
namespace PySem
open Sem (wp)
end PySem
namespace PySem
end PySem
namespace L2
open PySem PySem.Spec PyProof.Rows
end L2
namespace L3
open PySem PySem.Spec PyProof.Rows L2
end L3
namespace L2
open PySem PySem.Spec PyProof.Rows
def Ite (K : PySem.W.Frag) (a : Addr) : It :=
  ⟨fun i H => ∃ xs x, SqL K H a xs ∧ xs[i]? = some x,
   fun i H v H' => ∃ p x, H p = none ∧ v = .ref p ∧ H' = upd H p (.tup [.int (i : Nat), x]) ∧ ∀ xs, SqL K H a xs → xs[i]? = some x,
   fun i H => ∃ xs, SqL K H a xs ∧ xs.length ≤ i⟩
theorem turn_enum {P : Program} {w : World} {K : PySem.W.Frag} {elts : List Expr} {x1 : Nat} {tp : Pos} {a n : Addr} :
    Turn P w K (.Tuple elts x1 tp) (Ite K a) [n + 1, n] (n + 1) (fun i h => (∃ old, IsEnum h (n + 1) n (i : Nat) old) ∧ h.IsListIter n a i) where
  mem := by simp
  obj := fun i h st d hd => by
    obtain ⟨⟨old, he⟩, ⟨o1, e1, c1, d1⟩⟩ := st
    simp only [List.mem_cons, List.not_mem_nil, or_false] at hd
    rcases hd with rfl | rfl
    · exact ⟨_, he, fun v q => nomatch q⟩
    · exact ⟨_, e1, fun v q => by rw [d1] at q; cases q⟩
  keep := fun i h h' st k => by
    obtain ⟨⟨old, he⟩, h1⟩ := st
    exact ⟨⟨old, k _ (by simp) _ he⟩, h1.at fun o e => k _ (by simp) o e⟩
  item := by
    intro X hP hw hK hc i pins s σ H E I hf st hg
    subst hP hw hK
    obtain ⟨xs, x, hq1, hx⟩ := hg
    obtain ⟨its1, rv1, p1, _⟩ := I.list hq1
    obtain ⟨ux, gx, rx⟩ := rv1.get hx
    obtain ⟨⟨old, he⟩, h1⟩ := st
    have ne : (n + 1 : Addr) ≠ n := Nat.succ_ne_self n
    refine wpAny_pyNext_enum_item he h1 p1.isList (x := ux) (by simpa using gx) ne fun g a1 a2 a3 a4 hk => ?_
    refine ⟨_, rfl, wpAny_letOwnedTupleGo_enum (s := { s with heap := g, toks := s.toks + 1 }) a1 fun g2 he2 e2 => ?_⟩
    have n0 : H s.heap.objs.size = none := I.hok.fresh (Nat.le_refl _)
    have lte : n + 1 < s.heap.objs.size := Heap.lt_size he
    have e2' : Heap.SameBut (n + 1) g g2 := e2
    have kk : ∀ d o, d ∉ ([n + 1, n] : List Addr) → s.heap.get? d = some o → g2.get? d = some o := fun d o hd e => by
      simp only [List.mem_cons, List.not_mem_nil, or_false, not_or] at hd
      exact e2'.extBut _ _ hd.1 (hk d o hd.1 hd.2 e)
    have t2 : IsPair g2 s.heap.objs.size (.int i s.toks) ux := e2'.extBut _ _ (Nat.ne_of_gt lte) a3
    have I1 : Inv X pins σ (upd H s.heap.objs.size (.tup [.int (i : Nat), x])) { s with heap := g2, toks := s.toks + 1 } := I.many (ch := [n + 1, n]) hf kk (Nat.le_refl _)
      ⟨by show 2 ≤ sizeLine; decide, [.int i s.toks, ux], .cons ⟨_, rfl⟩ (.cons rx .nil), _, t2, rfl, _, rfl⟩
    refine ⟨.ref s.heap.objs.size, _, I1, rfl, ⟨_, x, n0, rfl, rfl, fun xs' q1 => ?_⟩, ⟨⟨_, by simpa using he2⟩, a2.at fun o e => e2'.extBut _ _ ne.symm e⟩, fun d hd => ?_⟩
    · rw [I.list_inj q1 hq1]; exact hx
    · have lt : d < s.heap.objs.size := by
        simp only [List.mem_cons, List.not_mem_nil, or_false] at hd
        rcases hd with rfl | rfl
        · exact lte
        · exact Nat.lt_of_succ_lt lte
      rw [upd_ne (Nat.ne_of_lt lt)]
      exact (hf d hd).1
  done := by
    intro X hP hw hK hc i pins s σ H E I hf st hg
    subst hP hw hK
    obtain ⟨xs, hq1, hend⟩ := hg
    obtain ⟨its1, rv1, p1, _⟩ := I.list hq1
    have l1 := rv1.length
    obtain ⟨⟨old, he⟩, h1⟩ := st
    refine wpAny_pyNext_enum_end (I.ok.hd hc) he h1 p1.isList (by simp; omega) fun g hk => ⟨rfl, ?_⟩
    exact I.many0 (t' := s.toks) (ch := [n]) (fun d hd => hf d (by rw [List.mem_singleton.mp hd]; simp)) fun d o hd e => hk d o (fun z => hd (by rw [z]; simp)) e
  self := fun _ _ _ _ _ st h => by
    obtain ⟨⟨old, he⟩, _⟩ := st
    exact wpAny_pyIter_enum he h
def iEnu (K : PySem.W.Frag) (ta : TA) : TI := fun σ H R => ta σ H fun vs H1 => ∃ a, vs = [.ref a] ∧ (∃ xs, SqL K H1 a xs) ∧ R (Ite K a) H1
theorem pi_enum {X : Cx} {a : Expr} {ta : TA} {p pos tp : Pos} {elts : List Expr} {x1 : Nat} (hg : Gl X "enumerate") (hm : X.mg "enumerate" = none) (ha : PAs X [a] ta) (hv : bootBuiltins "enumerate" = some (.type "enumerate") := by first | rfl | decide +kernel) :
    PI X (.Tuple elts x1 tp) (.Call (.Name "enumerate" p) [a] [] pos) (iEnu X.K ta) := by
  intro pins s σ H R I h
  refine wpAny_Call_Name_kw (ld_blt I hg hm hv ?_ (by decide) (by decide))
  refine PyProof.Rows.callWith_type1 (thn (ha.pa pos pins s σ H _ I h) fun us s1 ⟨vs, H1, I1, r1, q1⟩ => ?_) ((ha.ns a [] rfl).1.h [] X.env) ((ha.ns a [] rfl).2 pos X.env)
  obtain ⟨l1, e, ⟨xs, hq1⟩, q⟩ := q1
  subst e
  cases r1 with
  | cons r1 r2 =>
  cases r2
  cases r1
  obtain ⟨its1, rv1, p1, _⟩ := I1.list hq1
  refine call_enumerate_list p1.isList fun g he hi _ hk => ?_
  refine wpAny_pyIter_enum he ?_
  have I2 : Inv X pins σ H1 { s1 with heap := g } := I1.kept (t' := s1.toks) hk
  refine ⟨_, _, _, _, H1, rfl, I2, turn_enum, ⟨⟨_, he⟩, hi⟩, fun c hc => ?_, q⟩
  simp only [List.mem_cons, List.not_mem_nil, or_false] at hc
  have up : ∀ k, FpOk X pins H1 (s1.heap.objs.size + k) := fun k => I1.fpOk (Nat.le_add_right _ _) (I1.hok.fresh (Nat.le_add_right _ _))
  rcases hc with rfl | rfl
  · exact up 1
  · exact up 0
section
variable {K : PySem.W.Frag} {a : Addr} {xs : List V} {g : TG}
theorem comp_enum {tifs : TT} {tm : TM} {σ0 : St} {Z : Hp → Prop} {H : Hp} (Pv : Nat → Hp → Prop) (h0 : Pv 0 H) (hl : ∀ i H, i ≤ xs.length → Pv i H → SqL K H a xs)
    (turn : ∀ i x p H, xs[i]? = some x → Pv i H → H p = none → g (.ref p) σ0 (upd H p (.tup [.int (i : Nat), x])) fun σ2 H2 => tifs σ2 H2 fun b H3 =>
      if b = true then tm σ2 H3 fun H4 => Keeps2 σ0 σ2 ∧ ∃ m', m' < xs.length - i ∧ (m' = xs.length - (i + 1) ∧ i + 1 ≤ xs.length ∧ Pv (i + 1) H4) else Keeps2 σ0 σ2 ∧ ∃ m', m' < xs.length - i ∧ (m' = xs.length - (i + 1) ∧ i + 1 ≤ xs.length ∧ Pv (i + 1) H3))
    (hZ : ∀ H, Pv xs.length H → Z H) : tComp (Ite K a) σ0 g tifs tm Z H := by
  refine comp_by xs.length Pv h0 (fun i H hi p => ⟨xs, xs[i], hl i H (Nat.le_of_lt hi) p, by simp [hi]⟩) (fun H p => ⟨xs, hl _ H (Nat.le_refl _) p, Nat.le_refl _⟩) (fun i H hi p x H' y => ?_) hZ
  obtain ⟨pp, x1, hn, rfl, rfl, k⟩ := y
  exact turn i x1 pp H (k xs (hl i H (Nat.le_of_lt hi) p)) p hn
end
end L2
namespace L3
open PySem PySem.Spec PyProof.Rows L2
theorem iE {X : Cx} {a : Expr} {t : TA} {KK : PySem.W.Frag} {p pos tp : Pos} {elts : List Expr} {x1 : Nat} (hg : Gl X "enumerate") (hm : X.mg "enumerate" = none) (ha : SA X [a] t) (hK : X.K = KK := by first | exact cxC_K | rfl) :
    SI X (.Tuple elts x1 tp) (.Call (.Name "enumerate" p) [a] [] pos) (iEnu KK t) := by
  subst hK
  exact ⟨pi_enum hg hm ha.h⟩
end L3
namespace TW
open PySem L2
end TW
namespace L2
open PySem PySem.Spec PyProof.Rows
section
variable {X : Cx}
theorem call_anyL (hc : X.calm = true) : CallR X (.builtin "any") (fun xs H Q => ∃ (l : Addr) (bs : List Bool), xs = [.ref l] ∧ SqL X.K H l (bs.map V.bl) ∧ Q (.bl (bs.any id)) H) := by
  intro pins s σ H xs us Q I r h
  obtain ⟨l, bs, rfl, hq, q⟩ := h
  obtain ⟨u, rfl, ru⟩ := vals1 r
  obtain rfl : u = Value.ref l := ru
  obtain ⟨its, rv, pl, _⟩ := I.list hq
  have e1 := bools_of rv
  subst e1
  have hl := pl.isList
  have hlt : l < s.heap.objs.size := by obtain ⟨_, e, _⟩ := hl; exact Heap.lt_size e
  refine call_any_walk (wpAny_pyIter_list hl ?_)
  refine ⟨_, _, _, _, _, _, fun i => bs.getD i false, rfl, Walks.list (A := X.A.in1) (show X.A.in1.handled = none from I.ok.hd hc) s.heap.objs.size l (Nat.ne_of_lt hlt) (bs.map Value.bool).toArray, ⟨⟨_, Heap.get?_push_size _ rfl, rfl, rfl⟩, hl.push _⟩, ?_, fun h' tk hk => ?_⟩
  · intro i v s' Q' E' hP hQ'
    have hv : bs[i]?.map Value.bool = some v := by simpa using hP
    obtain ⟨b, hb, rfl⟩ := Option.map_eq_some_iff.mp hv
    have hQ2 : Q' (bs.getD i false) s' := hQ'
    rw [List.getD_eq_getElem?_getD, hb] at hQ2
    exact wpAny_truthy_bool hQ2
  · have kk : ∀ b o, s.heap.get? b = some o → h'.get? b = some o := old_kept hk
    refine ⟨.bl (bs.any id), H, I.kept kk, ?_, q⟩
    have e : (List.range (bs.map Value.bool).toArray.size).any (fun i => bs.getD i false) = bs.any id := by
      rw [show (bs.map Value.bool).toArray.size = bs.length by simp]
      rw [Bool.eq_iff_iff, List.any_eq_true, List.any_eq_true]
      constructor
      · rintro ⟨i, hi, e⟩
        have hi' := List.mem_range.mp hi
        rw [List.getD_eq_getElem?_getD, List.getElem?_eq_getElem hi'] at e
        exact ⟨_, List.getElem_mem hi', e⟩
      · rintro ⟨b, hb, e⟩
        obtain ⟨i, hi, e2⟩ := List.getElem_of_mem hb
        refine ⟨i, List.mem_range.mpr hi, ?_⟩
        rw [List.getD_eq_getElem?_getD, List.getElem?_eq_getElem hi, Option.getD_some, e2]
        exact e
    rw [e]
    rfl
end
end L2
namespace L3
open PySem PySem.Spec PyProof.Rows L2
section
variable {X : Cx} {a o e : Expr} {es : List Expr} {ta tv : TE} {t : TA} {p pos pos' apos : Pos} {x m : Str} {C : Addr} {ps : List Str} {kk : Nat} {sp : Sp}
theorem c_any {KK : PySem.W.Frag} (hc : X.calm = true := by rfl) (hK : X.K = KK := by first | exact cxC_K | rfl) : SC X (.builtin "any") (fun xs H Q => ∃ (l : Addr) (bs : List Bool), xs = [.ref l] ∧ SqL KK H l (bs.map V.bl) ∧ Q (.bl (bs.any id)) H) := by
  subst hK
  exact ⟨call_anyL hc⟩
end
end L3
namespace L3
open PySem PySem.Spec PyProof.Rows L2
end L3
namespace L2
open PySem PySem.Spec PyProof.Rows
end L2
namespace L3
open PySem PySem.Spec PyProof.Rows L2
end L3
namespace L2
open PySem PySem.Spec PyProof.Rows
end L2
namespace L3
open PySem PySem.Spec PyProof.Rows L2
end L3
namespace L3
open PySem PySem.Spec PyProof.Rows L2
structure SP (X : Cx) (pos : Pos) (keys : List (Option Expr)) (values : List Expr) (trs : List (TE × TE)) : Prop where
  h : PPs X pos keys values trs
section
variable {X : Cx} {pos : Pos} {k v : Expr} {ks : List (Option Expr)} {vs : List Expr} {tk tv : TE} {trs : List (TE × TE)}
theorem dpn : SP X pos [] [] [] := ⟨pps_nil⟩
theorem dpk (hk : SE X k tk) (hv : SE X v tv) (hr : SP X pos ks vs trs) : SP X pos (some k :: ks) (v :: vs) ((tk, tv) :: trs) := ⟨pps_cons hk.h hv.h hr.h⟩
theorem disp (h : SP X pos (some k :: ks) vs trs) (hall : (some k :: ks).all (·.isSome) = true := by rfl) (hl : (some k :: ks).length = vs.length := by rfl) (h15 : (some k :: ks).length ≤ 15 := by decide) : SE X (.Dict (some k :: ks) vs pos) (tDisp trs) := ⟨pe_disp h.h hall hl (fun z => nomatch z) h15⟩
end
end L3
namespace L2
open PySem PySem.Spec PyProof.Rows
end L2
namespace L3
open PySem PySem.Spec PyProof.Rows L2
end L3
namespace PySem
open Sem (wp)
open PyProof.Rows (IsTup IsTupIter)
end PySem
namespace L2
open PySem PySem.Spec PyProof.Rows
end L2
namespace L3
open PySem PySem.Spec PyProof.Rows L2
end L3
namespace L2
open PySem PySem.Spec PyProof.Rows
end L2
namespace L3
open PySem PySem.Spec PyProof.Rows L2
end L3
namespace PySem.StrLaws
open Builtin Builtin.Str
end PySem.StrLaws
namespace L2
open PySem PySem.Spec PyProof.Rows
end L2
namespace L3
open PySem PySem.Spec PyProof.Rows L2
end L3
namespace HT
open PySem PySem.Spec PyProof.Rows
section
variable {prog : Program} {w : World} {A : Around} {E : Value → Shared → Prop} {s : Shared}
theorem getItem_tuple_all {t sl : Addr} {items : Array Value} {vl vu : Value} {lo hi : Option Int} {Q : Value → Shared → Prop} (ht : IsTup s.heap t items) (hs : s.heap.IsSliceOf sl vl vu .none) (pl : IsPart vl lo) (pu : IsPart vu hi)
    (hw : sIx items.size 0 lo = 0 ∧ sIx items.size items.size hi = items.size)
    (h : Q (.ref t) s) : wpAny (model prog w) A (getItem (.ref t) (.ref sl)) Q E s := by
  obtain ⟨os, hos, hcs, hds⟩ := id hs
  have hTs : s.TypeIs (.ref sl) "slice" := ⟨os, hos, hcs⟩
  unfold getItem
  try with_reducible refine wpAny_holding ?_
  first | refine wpAny_bind (wpAny_pure ?_) | skip
  refine wpAny_bind (wpAny_sequenceKey ht.typeIs (by decide) ?_)
  refine wpAny_bind (wpAny_callSpecial?_slot (name := Str.ofString "__getitem__") ht.typeIs PyProof.Rows.slot_tuple_getitem
    (wpAny_call_entry PyProof.Rows.slot_tuple_getitem ht.typeIs entry_tuple_getitem ?_ (args_tuple_getitem _ _)))
  show wpAny _ _ (Builtin.Tuple.tupleItemsOf (.ref t) >>= _) _ _ s
  refine wpAny_bind (tupleItemsOf_ ht ?_)
  refine wpAny_bind (wpAny_typeOf hTs ?_)
  rw [if_pos (by decide)]
  refine wpAny_bind (sliceApplied_gen hs pl pu ?_)
  show wpAny _ _ (if (((sIx items.size 0 lo : Nat) : Int) == 0 && (1 : Int) == 1 && (sIx items.size items.size hi - sIx items.size 0 lo) == items.size) = true then _ else _) _ _ s
  rw [if_pos (by rw [hw.1, hw.2]; simp)]
  unfold Builtin.Tuple.tupleIsExact
  refine wpAny_bind (wpAny_bind (wpAny_typeOf ht.typeIs (wpAny_pure ?_)))
  rw [if_pos (by decide)]
  exact wpAny_bind (wpAny_rule (wpAny_pure ⟨_, rfl, wpAny_pure h⟩))
end
end HT
namespace L2
open PySem PySem.Spec PyProof.Rows
section
variable {X : Cx}
def rSlA (K : PySem.W.Frag) : V → Option Int → Option Int → Hp → VK → Prop := fun x lo hi H Q => rSlT K x lo hi H Q ∨ ∃ a xs, x = .ref a ∧ SqT K H a xs ∧ (HT.sIx xs.length 0 lo = 0 ∧ HT.sIx xs.length xs.length hi = xs.length) ∧ Q (.ref a) H
theorem sl_tupA : SlR X (rSlA X.K) := SlR.or sl_tup (by
  intro pins s σ H x v vl vu lo hi sl Q I rx hs pl pu h
  obtain ⟨a, xs, rfl, hx, hw, q⟩ := h
  cases rx
  obtain ⟨its, r, ht, hz⟩ := I.tuple hx
  have hlen : its.toArray.size = xs.length := by rw [List.size_toArray]; exact r.length.symm
  refine ⟨"tuple", _, PyProof.Rows.slot_tuple_getitem.lookup, ht.typeIs, ?_⟩
  exact HT.getItem_tuple_all ht hs pl pu (by rw [hlen]; exact hw) ⟨.ref a, H, I, rfl, q⟩)
end
end L2
namespace L3
open PySem PySem.Spec PyProof.Rows L2
section
variable {X : Cx} {a b : Expr} {ta tb : TE} {pos : Pos}
theorem slA2 {KK : PySem.W.Frag} {p2 : Pos} (ha : SE X a ta) (hb : SE X b tb) (hK : X.K = KK := by first | exact cxC_K | rfl) : SE X (.Subscript a (.Slice none (some b) none p2) pos) (tSl (rSlA KK) ta tNoPart (tPart tb)) := by
  subst hK
  exact ⟨pe_slice sl_tupA ha.h po_none (po_some hb.h)⟩
end
end L3
namespace L2
open PySem PySem.Spec PyProof.Rows
end L2
namespace L3
open PySem PySem.Spec PyProof.Rows L2
end L3
namespace L2
open PySem PySem.Spec PyProof.Rows
end L2
namespace L3
open PySem PySem.Spec PyProof.Rows L2
end L3
namespace L2
open PySem PySem.Spec PyProof.Rows
end L2
namespace L3
open PySem PySem.Spec PyProof.Rows L2
end L3
namespace L2
open PySem PySem.Spec PyProof.Rows
end L2
namespace L3
open PySem L2
end L3
namespace L2
open PySem PySem.Spec PyProof.Rows
end L2
namespace L2
open PySem PySem.Spec PyProof.Rows
end L2
namespace L2
open PySem PySem.Spec PyProof.Rows
end L2
namespace L2
open PySem PySem.Spec PyProof.Rows
end L2
namespace L2
open PySem PySem.Spec PyProof.Rows
end L2
namespace L3
open PySem L2
end L3
namespace L2
open PySem PySem.Spec PyProof.Rows SeqAt
inductive EM (K : PySem.W.Frag) (H : Hp) : V → V → Bool → Prop where
  | flat {x y : V} : flatV x = true → flatV y = true → EM K H x y (eqV x y)
  | text {a : Addr} {zs : List V} {t : Str} : SqT K H a zs → EM K H (.ref a) (.str t) false
def rEqM (K : PySem.W.Frag) : R2 := fun x y H Q => ∃ a c xs ys, ∃ e : Nat → Bool, x = .ref a ∧ y = .ref c ∧ SqT K H a xs ∧ SqT K H c ys ∧ (∀ j x y, xs[j]? = some x → ys[j]? = some y → EM K H x y (e j)) ∧ Q (.bl ((List.range (min xs.length ys.length)).all e && xs.length == ys.length)) H
section
variable {X : Cx}
theorem op_eqM (hu : X.A.units + (0 + 1) < cLine) : OpR X (compareOp .Eq) (rEqM X.K) := by
  intro pins s σ H x y v u Q I rx ry h
  obtain ⟨a, c, xs, ys, e, rfl, rfl, ha, hb, he, k⟩ := h
  cases rx; cases ry
  obtain ⟨us, r1, p1, _⟩ := I.tuple ha
  obtain ⟨vs, r2, p2, _⟩ := I.tuple hb
  have l1 := r1.length
  have l2 := r2.length
  refine eq_tupleAt (show s.heap.IsTuple a us.toArray from p1) (show s.heap.IsTuple c vs.toArray from p2) (by omega) (items_eq (K := X.K) (e := e) r1 r2 (fun j x y h1 h2 => ?_) hu) ?_
  · intro A u v ru rv hu
    have q := he j x y h1 h2
    generalize e j = b at q ⊢
    cases q with
    | flat f1 f2 => exact eqAt_V ru rv f1 f2
    | text hz =>
      obtain ⟨ws, _, p3, _⟩ := I.tuple hz
      cases ru
      obtain ⟨tk, rfl⟩ := rv
      exact EqAt.tuple_str _ _ p3 (by omega)
  · rw [show us.toArray.size = xs.length by simp [l1], show vs.toArray.size = ys.length by simp [l2]]
    exact ⟨.bl _, H, I, rfl, k⟩
end
end L2
namespace L3
open PySem PySem.Spec PyProof.Rows L2
theorem o_eqM {X : Cx} {KK : PySem.W.Frag} (hu : X.A.units + (0 + 1) < cLine) (hK : X.K = KK := by first | exact cxC_K | rfl) : SO X (compareOp .Eq) (rEqM KK) := by
  subst hK
  exact ⟨op_eqM hu⟩
theorem sdcK {X : Cx} {tg iter kx vx : Expr} {ifs : List Expr} {sc : Scope} {wi : TI} {g : TG} {tifs : TT} {tk tv : TE} {i : Nat} {x : Str} {pos pos' pos2 : Pos} (src : List (Option Nat)) (N' : List Str) (hu : X.A.units + 1 < cLine) (S : CompScope sc X.env.scope) (hcap : capsOk sc src N' X.N = true) (hi : SI X tg iter wi)
    (hb : ∀ s H C fp xe, SG (cxC X N' sc s H C fp xe) tg g ∧ SIf (cxC X N' sc s H C fp xe) ifs tifs ∧ SE (cxC X N' sc s H C fp xe) kx tk ∧ SE (cxC X N' sc s H C fp xe) vx tv) (hN : X.N.Nodup) (hix : X.N[i]? = some x := by rfl) (hx : Loc X.env.scope x := by first | exact Or.inl rfl | exact Or.inr rfl)
    (hsw : swapsWith (.DictComp kx vx [⟨tg, iter, ifs, 0⟩] sc pos) (some (.Name x pos')) pos2.line X.env = pure true := by rfl) (hc : X.calm = true := by rfl)
    (hs : ∀ x, foldedSetIterable iter X.env x = pure x := by intro _; rfl) (hf : X.fn x = true ∨ X.env.scope.names.lookup x = some .local := by first | exact .inl rfl | exact .inr rfl) :
    SS X (.Assign [.Name x pos'] (.DictComp kx vx [⟨tg, iter, ifs, 0⟩] sc pos) pos2) (tAsg (tCompE src (.dK []) wi g tifs (mPut tk tv)) (gName i)) :=
  ⟨ps_comp ck_dict hc S hcap hi.h (fun s H C fp xe D => ⟨(hb s H C fp xe).1.h, (hb s H C fp xe).2.1.h, pm_put (X := cxC X N' sc s H C fp xe) hu (hb s H C fp xe).2.2.1.h (hb s H C fp xe).2.2.2.h D⟩) acc_dK hs (fun _ => rfl) hN hix hx hsw hf⟩
theorem dcK {X : Cx} {tg iter kx vx : Expr} {ifs : List Expr} {sc : Scope} {pos : Pos} {wi : TI} {g : TG} {tifs : TT} {tk tv : TE} (src : List (Option Nat)) (N' : List Str) (hu : X.A.units + 1 < cLine) (S : CompScope sc X.env.scope) (hcap : capsOk sc src N' X.N = true) (hi : SI X tg iter wi)
    (hb : ∀ s H C fp xe, SG (cxC X N' sc s H C fp xe) tg g ∧ SIf (cxC X N' sc s H C fp xe) ifs tifs ∧ SE (cxC X N' sc s H C fp xe) kx tk ∧ SE (cxC X N' sc s H C fp xe) vx tv) (hc : X.calm = true := by rfl)
    (hs : ∀ x, foldedSetIterable iter X.env x = pure x := by intro _; rfl) : SE X (.DictComp kx vx [⟨tg, iter, ifs, 0⟩] sc pos) (tCompE src (.dK []) wi g tifs (mPut tk tv)) :=
  ⟨pe_comp ck_dict hc S hcap hi.h (fun s H C fp xe D => ⟨(hb s H C fp xe).1.h, (hb s H C fp xe).2.1.h, pm_put (X := cxC X N' sc s H C fp xe) hu (hb s H C fp xe).2.2.1.h (hb s H C fp xe).2.2.2.h D⟩) acc_dK hs rfl⟩
theorem aug {X : Cx} {e : Expr} {te : TE} (i : Nat) {x : Str} {pos pos' : Pos} (hN : X.N.Nodup) (he : SE X e te) (hi : X.N[i]? = some x := by rfl) (hx : Loc X.env.scope x := by first | exact Or.inl rfl | exact Or.inr rfl) (hf : X.fn x = true ∨ X.env.scope.names.lookup x = some .local := by first | exact .inl rfl | exact .inr rfl) :
    SS X (.AugAssign (.Name x pos') .Add e pos) (tAug i te (ipI fun i j => i + j)) := ⟨ps_aug hN hi hx he.h ip_add hf⟩
end L3
namespace L2
open PySem PySem.Spec PyProof.Rows
def ItemsV (v d : Addr) : Heap → Prop := fun h => h.IsItemsView v d
section
variable {X : Cx}
def rItems : V → List V → Hp → VK → Prop := fun x vs H Q => ∃ d kvs, x = .ref d ∧ vs = [] ∧ H d = some (.dK kvs) ∧ ∀ v, H v = none → Q (.ref v) (upd H v (.ext (ItemsV v d)))
theorem mt_items : MtM X "dict.items" rItems := by
  intro pins s σ H x vs v us Q I rx rv h
  obtain ⟨d, kvs, rfl, rfl, hH, q⟩ := h
  cases rx
  have hus := rv.zero
  subst hus
  obtain ⟨z, hd, ws, rel, dd⟩ := dk_of I.hok hH
  refine call_meetsIn PySem.F.slot_dict_items dd.typeIs PySem.F.entry_dict_items (PySem.F.args_dict_items_1 _) (meets_dict_items (mixKind X.prog X.w) d hd) ⟨⟨ws, dd⟩, ?_⟩
  have n0 : H s.heap.objs.size = none := I.hok.fresh (Nat.le_refl _)
  refine ⟨.ref s.heap.objs.size, _, I.laid (o := .ext (ItemsV s.heap.objs.size d)) (t' := s.toks) (fun b u e => Heap.get?_push_of_some _ e) (Nat.le_refl _) ⟨⟨_, Heap.get?_push_size _ rfl, rfl, rfl⟩, ⟨_, Heap.get?_push_size _ rfl⟩, fun h1 h2 hv k => ?_⟩, rfl, q _ n0⟩
  obtain ⟨o, e, r⟩ := hv
  exact ⟨o, k o e, r⟩
end
def Itd (a : Addr) (o : Obj) (kvs : List (Key × V)) : It :=
  ⟨fun i H => H a = some (.frz o (.dK kvs)) ∧ i < kvs.length,
   fun i H v H' => ∃ p k y, H p = none ∧ v = .ref p ∧ kvs[i]? = some (k, y) ∧ H' = upd H p (.tup [kV k, y]),
   fun i H => H a = some (.frz o (.dK kvs)) ∧ kvs.length ≤ i⟩
theorem is_kV {P : Program} {w : World} {k : Key} {u : Value} (h : (mixKind P w).is k u = true) : RelV (kV k) u := by
  rcases keyIs_shape (k := k) (v := u) h with ⟨i, t, rfl, rfl⟩ | ⟨x, t, rfl, rfl⟩
  · exact ⟨t, rfl⟩
  · exact ⟨t, rfl⟩
theorem pairedGet {α β : Type} {R : α → β → Prop} : ∀ {xs : List α} {ys : List β} {i : Nat} {x : α}, Paired R xs ys → xs[i]? = some x → ∃ y, ys[i]? = some y ∧ R x y
  | _, _, _, _, .nil, h => by simp at h
  | _, _, 0, _, .cons r _, h => by cases h; exact ⟨_, rfl, r⟩
  | _, _, i + 1, _, .cons _ t, h => pairedGet (i := i) t h
theorem pairedGet' {α β : Type} {R : α → β → Prop} : ∀ {xs : List α} {ys : List β} {i : Nat} {y : β}, Paired R xs ys → ys[i]? = some y → ∃ x, xs[i]? = some x ∧ R x y
  | _, _, _, _, .nil, h => by simp at h
  | _, _, 0, _, .cons r _, h => by cases h; exact ⟨_, rfl, r⟩
  | _, _, i + 1, _, .cons _ t, h => pairedGet' (i := i) t h
theorem frz_at {P : Program} {w : World} {H : Hp} {h : Heap} {a : Addr} {o : Obj} {es : Array DictEntry} {ep : Nat} {kvs : List (Key × V)} (ho : o.data = .dict es ep) (ok : HOk P w H h) (e : H a = some (.frz o (.dK kvs))) : ∃ vs, KV kvs vs ∧ h.DictAt (mixKind P w) a vs ep := by
  obtain ⟨e1, z, hd, vs, rel, o2, es2, ep2, h1, h2, h3, h4⟩ := (show ObjOk P w H h a (.frz o (.dK kvs)) from ok a _ e)
  rw [e1] at h1
  cases h1
  rw [ho] at h3
  cases h3
  exact ⟨vs, rel, o, es, e1, h2, ho, h4⟩
theorem turn_items {P : Program} {w : World} {K : PySem.W.Frag} {elts : List Expr} {x1 : Nat} {tp : Pos} {a n : Addr} {o : Obj} {es : Array DictEntry} {ep : Nat} {kvs : List (Key × V)} (hne : a ≠ n) (ho : o.data = .dict es ep) :
    Turn P w K (.Tuple elts x1 tp) (Itd a o kvs) [n] n (fun i h => ∃ ok ov, IsItemIter h n a i kvs.length ep ok ov) where
  mem := by simp
  obj := fun i h st d hd => by
    obtain ⟨ok, ov, he⟩ := st
    rw [List.mem_singleton.mp hd]
    exact ⟨_, he, fun v q => nomatch q⟩
  keep := fun i h h' st k => by
    obtain ⟨ok, ov, he⟩ := st
    exact ⟨ok, ov, k _ (by simp) _ he⟩
  item := by
    intro X hP hw hK hc i pins s σ H E I hf st hg
    subst hP hw hK
    obtain ⟨hH, hi⟩ := hg
    obtain ⟨vs, rel, dd⟩ := frz_at ho I.hok hH
    obtain ⟨ok, ov, he⟩ := st
    have hl := rel.length
    obtain ⟨⟨k, y⟩, hx⟩ : ∃ p, kvs[i]? = some p := ⟨kvs[i], by simp [hi]⟩
    obtain ⟨⟨k', u⟩, hu, ek, ru⟩ := pairedGet rel hx
    have ek : k = k' := ek
    subst ek
    rw [hl] at he
    refine wpAny_pyNext_items_item he dd hu fun key g hk hit ht hz hkeep => ?_
    refine ⟨_, rfl, wpAny_letOwnedTupleGo_items (s := { s with heap := g }) hit fun g2 he2 e2 => ?_⟩
    have n0 : H s.heap.objs.size = none := I.hok.fresh (Nat.le_refl _)
    have lte : n < s.heap.objs.size := Heap.lt_size he
    have e2' : Heap.SameBut n g g2 := e2
    have kk : ∀ d o, d ∉ ([n] : List Addr) → s.heap.get? d = some o → g2.get? d = some o := fun d o hd e => by
      have hd : d ≠ n := by simpa using hd
      exact e2'.extBut _ _ hd (hkeep d o hd e)
    have t2 : g2.get? s.heap.objs.size = some { cls := .type "tuple", data := .seq #[key, u] } := e2'.extBut _ _ (Nat.ne_of_gt lte) ht
    have I1 : Inv X pins σ (upd H s.heap.objs.size (.tup [kV k, y])) { s with heap := g2 } := I.many (ch := [n]) hf kk (Nat.le_refl _)
      ⟨by show 2 ≤ sizeLine; decide, [key, u], .cons (is_kV hk) (.cons ru .nil), _, t2, rfl, _, rfl⟩
    refine ⟨.ref s.heap.objs.size, _, I1, rfl, ⟨_, k, y, n0, rfl, hx, rfl⟩, ⟨key, u, by rw [hl]; exact he2⟩, fun d hd => ?_⟩
    rw [List.mem_singleton.mp hd, upd_ne (Nat.ne_of_lt lte)]
    exact (hf n (by simp)).1
  done := by
    intro X hP hw hK hc i pins s σ H E I hf st hg
    subst hP hw hK
    obtain ⟨hH, hend⟩ := hg
    obtain ⟨vs, rel, dd⟩ := frz_at ho I.hok hH
    obtain ⟨ok, ov, he⟩ := st
    have hl := rel.length
    rw [hl] at he
    refine wpAny_pyNext_items_end (I.ok.hd hc) he dd (by simp; omega) fun g hk => ⟨rfl, ?_⟩
    exact I.many0 (t' := s.toks) (ch := [n]) (fun d hd => hf d hd) fun d o hd e => hk d o (by simpa using hd) e
  self := fun A i s Q E st h => by
    obtain ⟨ok, ov, he⟩ := st
    exact PySem.W.kcp_self he h
def iItm (ta : TE) : TI := fun σ H R => ta σ H fun x H1 => ∃ v d kvs, x = .ref v ∧ H1 v = some (.ext (ItemsV v d)) ∧ H1 d = some (.dK kvs) ∧ ∀ o, R (Itd d o kvs) (upd H1 d (.frz o (.dK kvs)))
theorem pi_items {X : Cx} {e : Expr} {te : TE} {elts : List Expr} {x1 : Nat} {tp : Pos} (he : PE X e te) : PI X (.Tuple elts x1 tp) e (iItm te) := by
  intro pins s σ H R I h
  refine thn (he pins s σ H _ I h) fun v s1 ⟨x, H1, I1, r1, q1⟩ => ?_
  obtain ⟨v, d, kvs, rfl, hv, hH, q⟩ := q1
  cases r1
  obtain ⟨hv1, _, _⟩ := (show ObjOk X.prog X.w H1 s1.heap v (.ext (ItemsV v d)) from I1.hok v _ hv)
  obtain ⟨z, hd, vs, rel, o, es, ep, h1, h2, h3, h4⟩ := dk_of I1.hok hH
  have dd : s1.heap.DictAt (mixKind X.prog X.w) d vs ep := ⟨o, es, h1, h2, h3, h4⟩
  refine wpAny_pyIter_items hv1 dd ?_
  have I2 : Inv X pins σ (upd H1 d (.frz o (.dK kvs))) s1 := d_write (h' := s1.heap) (t' := s1.toks) I1 (by rw [hH]; exact True.intro) (Heap.SameBut.refl _ _) ⟨_, h1⟩ ⟨h1, z, hd, vs, rel, o, es, ep, h1, h2, h3, h4⟩
  have n0 : H1 s1.heap.objs.size = none := I1.hok.fresh (Nat.le_refl _)
  have dn : d ≠ s1.heap.objs.size := Nat.ne_of_lt (Heap.lt_size h1)
  refine ⟨s1.heap.objs.size, [s1.heap.objs.size], _, _, _, rfl, I2.kept (t' := s1.toks) fun b o e => Heap.get?_push_of_some _ e, turn_items (es := es) (ep := ep) (o := o) (kvs := kvs) dn h3, ⟨.none, .none, by rw [rel.length]; exact Heap.get?_push_size _ rfl⟩, fun b hb => ?_, q o⟩
  have e : b = s1.heap.objs.size := by simpa using hb
  subst e
  exact I1.fpOk (Nat.le_refl _) (by rw [upd_ne dn.symm]; exact n0)
section
variable {a : Addr} {o : Obj} {kvs : List (Key × V)} {g : TG}
theorem for_items {tb : TS} {D : Ends} {σ : St} {H : Hp} (Pv : Nat → St → Hp → Prop) (h0 : Pv 0 σ H) (hl : ∀ i σ H, i ≤ kvs.length → Pv i σ H → H a = some (.frz o (.dK kvs)))
    (hs : ∀ i k y p σ H, kvs[i]? = some (k, y) → Pv i σ H → H p = none → g (.ref p) σ (upd H p (.tup [kV k, y])) fun σ2 H2 => tb { D with nx := Pv (i + 1), ct := Pv (i + 1), bk := D.nx } σ2 H2) (hd : ∀ σ H, Pv kvs.length σ H → D.nx σ H) :
    ∃ W : Nat → Nat → St → Hp → Prop, (∃ m, W 0 m σ H) ∧ ∀ i m σ H, W i m σ H →
      ((Itd a o kvs).stop i H ∧ D.nx σ H) ∨ ((Itd a o kvs).go i H ∧ ∃ N : St → Hp → Prop, (∀ σ' H', N σ' H' → ∃ m', m' < m ∧ W (i + 1) m' σ' H') ∧ ∀ x H', (Itd a o kvs).yld i H x H' → g x σ H' fun σ2 H2 => tb { D with nx := N, ct := N, bk := D.nx } σ2 H2) := by
  refine ⟨fun i m σ H => m = kvs.length - i ∧ i ≤ kvs.length ∧ Pv i σ H, ⟨kvs.length, by simp, Nat.zero_le _, h0⟩, ?_⟩
  rintro i m σ H ⟨rfl, hi, p⟩
  have q1 := hl i σ H hi p
  by_cases hlt : i < kvs.length
  · refine .inr ⟨⟨q1, hlt⟩, Pv (i + 1), fun σ' H' p' => ⟨kvs.length - (i + 1), by omega, rfl, hlt, p'⟩, fun x H' y => ?_⟩
    obtain ⟨pp, k, y1, hn, rfl, hx, rfl⟩ := y
    exact hs i k y1 pp σ H hx p hn
  · have e : i = kvs.length := by omega
    subst e
    exact .inl ⟨⟨q1, Nat.le_refl _⟩, hd σ H p⟩
theorem comp_items {tifs : TT} {tm : TM} {σ0 : St} {Z : Hp → Prop} {H : Hp} (Pv : Nat → Hp → Prop) (h0 : Pv 0 H) (hl : ∀ i H, i ≤ kvs.length → Pv i H → H a = some (.frz o (.dK kvs)))
    (turn : ∀ i k y p H, kvs[i]? = some (k, y) → Pv i H → H p = none → g (.ref p) σ0 (upd H p (.tup [kV k, y])) fun σ2 H2 => tifs σ2 H2 fun b H3 =>
      if b = true then tm σ2 H3 fun H4 => Keeps2 σ0 σ2 ∧ ∃ m', m' < kvs.length - i ∧ (m' = kvs.length - (i + 1) ∧ i + 1 ≤ kvs.length ∧ Pv (i + 1) H4) else Keeps2 σ0 σ2 ∧ ∃ m', m' < kvs.length - i ∧ (m' = kvs.length - (i + 1) ∧ i + 1 ≤ kvs.length ∧ Pv (i + 1) H3))
    (hZ : ∀ H, Pv kvs.length H → Z H) : tComp (Itd a o kvs) σ0 g tifs tm Z H := by
  refine comp_by kvs.length Pv h0 (fun i H hi p => ⟨hl i H (Nat.le_of_lt hi) p, hi⟩) (fun H p => ⟨hl _ H (Nat.le_refl _) p, Nat.le_refl _⟩) (fun i H hi p x H' y => ?_) hZ
  obtain ⟨pp, k, y1, hn, rfl, hx, rfl⟩ := y
  exact turn i k y1 pp H hx p hn
end
def rListD : List V → Hp → VK → Prop := fun xs H Q => ∃ p kvs, xs = [.ref p] ∧ H p = some (.dK kvs) ∧ ∀ l, H l = none → Q (.ref l) (upd H l (.lst (kvs.map fun kv => kV kv.1)))
theorem vals_of : ∀ {xs : List V} {us : List Value}, us.length = xs.length → (∀ (j : Nat) (v : Value), us[j]? = some v → ∃ x, xs[j]? = some x ∧ RelV x v) → Vals xs us
  | [], [], _, _ => .nil
  | [], _ :: _, h, _ => by simp at h
  | _ :: _, [], h, _ => by simp at h
  | x :: xs, u :: us, h, k => by
    obtain ⟨y, hy, r⟩ := k 0 u rfl
    cases hy
    exact .cons r (vals_of (by simpa using h) fun j v e => k (j + 1) v e)
theorem call_listD {X : Cx} (hc : X.calm = true) : CallR X (.type "list") rListD := by
  intro pins s σ H xs us Q I rv h
  obtain ⟨d, kvs, rfl, hH, q⟩ := h
  cases rv with
  | cons r1 r2 =>
  cases r2
  cases r1
  obtain ⟨z, hd, vs, rel, o, es, ep, h1, h2, h3, h4⟩ := dk_of I.hok hH
  have dd : s.heap.DictAt (mixKind X.prog X.w) d vs ep := ⟨o, es, h1, h2, h3, h4⟩
  have hl := rel.length
  refine PySem.W.kdl_call (PySem.W.kdl_dict hd) (I.ok.hd hc) dd (by rw [← hl]; exact z) fun h' tk acc c hk hD hacc => ?_
  have n0 : H s.heap.objs.size = none := I.hok.fresh (Nat.le_refl _)
  have vv : Vals (kvs.map fun kv => kV kv.1) acc.toList := vals_of (by rw [List.length_map, Array.length_toList, hacc.1, hl]) fun j v e => by
    obtain ⟨k, x, hx, hk⟩ := hacc.2 j v (by rw [← Array.getElem?_toList]; exact e)
    obtain ⟨⟨k', y⟩, hy, ek⟩ := pairedGet' rel hx
    have ek : k' = k := ek.1
    subst ek
    exact ⟨kV k', by rw [List.getElem?_map, hy]; rfl, is_kV hk⟩
  refine ⟨.ref s.heap.objs.size, _, I.laid (o := .lst (kvs.map fun kv => kV kv.1)) (t' := tk) hk (Nat.le_refl _) ⟨by rw [List.length_map]; exact z, acc.toList, c, vv, by rw [hD]⟩, rfl, q _ n0⟩
section
variable {X : Cx} {pos : Pos}
def tAsg2 (te : TE) (g1 g2 : TG) : TS := fun D σ H => te σ H fun x H1 => g1 x σ H1 fun σ2 H2 => g2 x σ2 H2 D.nx
theorem ps_asg2 {t1 t2 e : Expr} {te : TE} {g1 g2 : TG} (he : PE X e te) (hg1 : PG X t1 g1) (hg2 : PG X t2 g2) (hs : swapsWithSole [t1, t2] e pos.line X.env = pure false := by rfl) (hw : swappedStores [t1, t2] e X.env = pure none := by rfl)
    (h1 : (assignEach [t1, t2] X.env).map (·.2) = [assign t1 X.env, assign t2 X.env] := by rfl) : PS X (.Assign [t1, t2] e pos) (tAsg2 te g1 g2) := by
  intro pins s σ H D I h
  refine wpAny_Assign_stores (thn (he pins s σ H _ I h) fun v s1 ⟨x, H1, I1, r1, q1⟩ => ?_) hs hw
  rw [h1]
  refine wpAny_bind (wpAny_holding (thn (hg1 pins s1 σ H1 x v _ I1 r1 q1) fun _ s2 ⟨σ2, H2, I2, q2⟩ => ?_))
  exact thn (hg2 pins s2 σ2 H2 x v _ I2 r1 q2) fun _ s3 q => q
end
end L2
namespace L3
open PySem PySem.Spec PyProof.Rows L2
theorem c_listD {X : Cx} (hc : X.calm = true := by rfl) : SC X (.type "list") rListD := ⟨call_listD hc⟩
theorem items {X : Cx} {o : Expr} {ta : TE} {apos pos : Pos} {KK : PySem.W.Frag} (ho : SE X o ta) (hbase : attributeBase o "items" X.env (eval o X.env) = eval o X.env := by rfl) (hline : (apos.endLine == pos.line) = true := by rfl) (hK : X.K = KK := by first | exact cxC_K | rfl) :
    SE X (.Call (.Attribute o "items" apos) [] [] pos) (tBM0 KK "dict" rItems ta) := by
  subst hK
  exact ⟨pe_bm0 PySem.F.plainAttrs_dict PySem.F.slot_dict_items PySem.F.type_dict_items mt_items ho.h hbase hline⟩
theorem iI {X : Cx} {e : Expr} {te : TE} {elts : List Expr} {x1 : Nat} {tp : Pos} (he : SE X e te) : SI X (.Tuple elts x1 tp) e (iItm te) := ⟨pi_items he.h⟩
theorem dpop1 {X : Cx} {o e : Expr} {td ty : TE} {apos pos : Pos} (ho : SE X o td) (he : SE X e ty) (m : M1 X o "pop" apos e pos := by exact ⟨rfl, rfl, rfl, rfl⟩) : SE X (.Call (.Attribute o "pop" apos) [e] [] pos) (tDPop1 td ty) := ⟨pe_dpop1 ho.h he.h m⟩
theorem asg2 {X : Cx} {t1 t2 e : Expr} {te : TE} {g1 g2 : TG} {pos : Pos} (he : SE X e te) (h1 : SG X t1 g1) (h2 : SG X t2 g2) (hs : swapsWithSole [t1, t2] e pos.line X.env = pure false := by rfl) (hw : swappedStores [t1, t2] e X.env = pure none := by rfl)
    (h3 : (assignEach [t1, t2] X.env).map (·.2) = [assign t1 X.env, assign t2 X.env] := by rfl) : SS X (.Assign [t1, t2] e pos) (tAsg2 te g1 g2) := ⟨ps_asg2 he.h h1.h h2.h hs hw h3⟩
end L3
set_option maxHeartbeats 1000000
namespace TW
open PySem L2
section
variable {P : Program} {w : World} {K : PySem.W.Frag} {mg : Str → Option Value} {base : Heap}
theorem bnd1 {x qual : Str} {st : Stmt} {f : Addr} {fd : FuncData} {p0 : Str} (F : Fun K x qual st f fd) (h : ∀ (kV doc pm : Value) (an : Option Addr) (cdv ct u0 : Value), bindArgs (PySem.W.fnOf x qual (defArgs st) (defBody st) (defScope st) .none kV doc pm an cdv ct) ⟨[u0], []⟩ = pure (([p0] : List Str).zip [u0])) : Binds K fd [p0] [] := F.binds fun kV doc pm an cdv ct us hl => match us, hl with | [u0], _ => h kV doc pm an cdv ct u0
theorem bnd2 {x qual : Str} {st : Stmt} {f : Addr} {fd : FuncData} {p0 p1 : Str} (F : Fun K x qual st f fd) (h : ∀ (kV doc pm : Value) (an : Option Addr) (cdv ct u0 u1 : Value), bindArgs (PySem.W.fnOf x qual (defArgs st) (defBody st) (defScope st) .none kV doc pm an cdv ct) ⟨[u0, u1], []⟩ = pure (([p0, p1] : List Str).zip [u0, u1])) : Binds K fd [p0, p1] [] := F.binds fun kV doc pm an cdv ct us hl => match us, hl with | [u0, u1], _ => h kV doc pm an cdv ct u0 u1
theorem bnd3 {x qual : Str} {st : Stmt} {f : Addr} {fd : FuncData} {p0 p1 p2 : Str} (F : Fun K x qual st f fd) (h : ∀ (kV doc pm : Value) (an : Option Addr) (cdv ct u0 u1 u2 : Value), bindArgs (PySem.W.fnOf x qual (defArgs st) (defBody st) (defScope st) .none kV doc pm an cdv ct) ⟨[u0, u1, u2], []⟩ = pure (([p0, p1, p2] : List Str).zip [u0, u1, u2])) : Binds K fd [p0, p1, p2] [] := F.binds fun kV doc pm an cdv ct us hl => match us, hl with | [u0, u1, u2], _ => h kV doc pm an cdv ct u0 u1 u2
theorem bnd4 {x qual : Str} {st : Stmt} {f : Addr} {fd : FuncData} {p0 p1 p2 p3 : Str} (F : Fun K x qual st f fd) (h : ∀ (kV doc pm : Value) (an : Option Addr) (cdv ct u0 u1 u2 u3 : Value), bindArgs (PySem.W.fnOf x qual (defArgs st) (defBody st) (defScope st) .none kV doc pm an cdv ct) ⟨[u0, u1, u2, u3], []⟩ = pure (([p0, p1, p2, p3] : List Str).zip [u0, u1, u2, u3])) : Binds K fd [p0, p1, p2, p3] [] := F.binds fun kV doc pm an cdv ct us hl => match us, hl with | [u0, u1, u2, u3], _ => h kV doc pm an cdv ct u0 u1 u2 u3
def top (i : Nat) : Stmt := PySem.Challenge.pw_twinwalk_k67_made_over_refused.main.body.getD i (.Pass ⟨0, 0, 0, 0⟩)
abbrev sNext : Stmt := top 40
abbrev sPots : Stmt := top 41
theorem TK.lst {H : Hp} {a : Addr} {xs : List V} {o : HO} (h : H a = some (.lst xs)) : TK H (upd H a o) := fun b ys e => by rw [upd_ne (ne_of e h (fun z => nomatch z))]; exact e
theorem Paired.get {α β : Type} {F : α → β → Prop} : ∀ {l₁ : List α} {l₂ : List β} {i : Nat} {x : α}, Paired F l₁ l₂ → l₁[i]? = some x → ∃ y, l₂[i]? = some y ∧ F x y
  | _, _, _, _, .nil, e => by simp at e
  | _, _, 0, _, .cons r _, e => by simp at e; subst e; exact ⟨_, rfl, r⟩
  | _, _, i + 1, x, .cons _ t, e => by
    obtain ⟨u, h1, h2⟩ := Paired.get (i := i) (x := x) t (by simpa using e)
    exact ⟨u, by simpa using h1, h2⟩
theorem turn0 {σ : L2.St} {H : Hp} {A B : Hp → Prop} (h : A H) : tIf0 σ H (fun b H3 => if b = true then A H3 else B H3) := iteT (A := A H) (B := B H) h
theorem gn_go {i : Nat} {v : V} {σ : L2.St} {H : Hp} {Q : L2.St → Hp → Prop} (h : Q (σ.set i (some v)) H) : gName i v σ H Q := h
theorem same_trans {A B C : Hp} (a : Same A B) (b : Same B C) : Same A C := fun p o h => b p o (a p o h)
theorem same_refl (A : Hp) : Same A A := fun _ _ h => h
theorem layO {H : Hp} {p : Addr} (h : H p = none) (o : HO) : ∃ H1, Same H H1 ∧ H1 p = some o ∧ upd H p o = H1 := ⟨_, same_new h o, upd_same, rfl⟩
abbrev GLB (s : Stmt) (x : Str) : Prop := (defScope s).names.lookup x = some .globalImplicit
theorem none_of_same {H H' : Hp} {a : Addr} (s : Same H H') (h : H' a = none) : H a = none := by
  match e : H a with
  | none => rfl
  | some o => rw [s _ _ e] at h; cases h
theorem same_put {H H' : Hp} {a : Addr} {o : HO} (s : Same H H') (h : H a = none) : Same H (upd H' a o) := fun b u e => by rw [upd_ne (ne_of_none e h)]; exact s b u e
theorem same_add {H H' : Hp} {a : Addr} {o : HO} (s : Same H H') (h : H' a = none) : Same H (upd H' a o) := same_put s (none_of_same s h)
theorem atI_get {α : Type} (f : α → V) (xs : List α) {r : Int} (h0 : 0 ≤ r) (h1 : r < (xs.length : Int)) : ∃ x, xs[r.toNat]? = some x ∧ x ∈ xs ∧ atI (xs.map f) r = some (f x) := by
  have hr : r.toNat < xs.length := by omega
  have e : r = ((r.toNat : Nat) : Int) := by omega
  have q : atI (xs.map f) ((r.toNat : Nat) : Int) = some (f xs[r.toNat]) := atI_nat (by rw [List.getElem?_map, List.getElem?_eq_getElem hr]; rfl)
  rw [← e] at q
  exact ⟨xs[r.toNat], List.getElem?_eq_getElem hr, List.getElem_mem hr, q⟩
theorem atI_v {xs : List V} {r : Int} (h0 : 0 ≤ r) (h1 : r < (xs.length : Int)) : ∃ x, xs[r.toNat]? = some x ∧ atI xs r = some x := by
  have hr : r.toNat < xs.length := by omega
  have e : r = ((r.toNat : Nat) : Int) := by omega
  have q : atI xs ((r.toNat : Nat) : Int) = some xs[r.toNat] := atI_nat (List.getElem?_eq_getElem hr)
  rw [← e] at q
  exact ⟨xs[r.toNat], List.getElem?_eq_getElem hr, q⟩
theorem cut1 {u1 u2 : TS} {D : L2.Ends} {σ : L2.St} {H : Hp} (h : ∀ R : L2.St → Hp → Prop, (∀ σ H, u2 D σ H → R σ H) → u1 { D with nx := R } σ H) : tSeq u1 u2 D σ H := h _ fun _ _ z => z
theorem cut2 {u1 u2 u3 : TS} {D : L2.Ends} {σ : L2.St} {H : Hp} (h : ∀ R : L2.St → Hp → Prop, (∀ σ H, u3 D σ H → R σ H) → tSeq u1 (tSeq u2 fun _ => R) D σ H) : tSeq u1 (tSeq u2 u3) D σ H := h (u3 D) fun _ _ z => z
theorem goL {X : Cx} {ss : List Stmt} {G : TS → Prop} (h : ∃ t, L3.SL X ss t ∧ G t) : ∃ t, PSs X ss t ∧ G t := let ⟨t, a, b⟩ := h; ⟨t, a.h, b⟩
theorem normS {F : L2.St → Hp → Prop} {σ : L2.St} {H : Hp} (σ' : L2.St) (e : σ = σ') (h : F σ' H) : F σ H := by subst e; exact h
theorem normH {F : L2.St → Hp → Prop} {σ : L2.St} {H : Hp} (H' : Hp) (e : H = H') (h : F σ H') : F σ H := by subst e; exact h
theorem mod_lo {k n : Int} (h : 0 < n) : 0 ≤ k % n := Int.emod_nonneg _ (by omega)
theorem mod_hi {k n : Int} (h : 0 < n) : k % n < n := Int.emod_lt_of_pos _ h
theorem int_eq {a b : Int} (c : decide (V.int a = V.int b) = true) : a = b := by have := of_decide_eq_true c; injection this
theorem int_ne {a b : Int} (c : ¬ decide (V.int a = V.int b) = true) : a ≠ b := fun z => c (decide_eq_true (by rw [z]))
theorem atI_all {P : V → Prop} {xs : List V} {r : Int} (h0 : 0 ≤ r) (h1 : r < (xs.length : Int)) (h : ∀ x ∈ xs, P x) : ∃ x, atI xs r = some x ∧ P x := let ⟨x, h2, h3⟩ := atI_v h0 h1; ⟨x, h3, h x (List.mem_of_getElem? h2)⟩
inductive Np where
  | put (x : Str) (s : E) (n : Int) | say (s : E) (n : Int) | test (c : E) (n o : Int) | pick (x : Str) (n : Int) | fin
def NpAt (H : Hp) : V → Np → Prop
  | v, .put x s n => ∃ u, Tp H v [.str "put", .str x, u, .int n] ∧ EAt H u s
  | v, .say s n => ∃ u, Tp H v [.str "say", u, .int n] ∧ EAt H u s
  | v, .test c n o => ∃ u, Tp H v [.str "test", u, .int n, .int o] ∧ EAt H u c
  | v, .pick x n => Tp H v [.str "pick", .str x, .int n]
  | v, .fin => Tp H v [.str "end"]
theorem NpAt.keep {H H' : Hp} (k : TK H H') : ∀ {e : Np} {v : V}, NpAt H v e → NpAt H' v e
  | .put _ _ _, _, ⟨u, h, a⟩ => ⟨u, h.keep k, a.keep k⟩
  | .say _ _, _, ⟨u, h, a⟩ => ⟨u, h.keep k, a.keep k⟩
  | .test _ _ _, _, ⟨u, h, a⟩ => ⟨u, h.keep k, a.keep k⟩
  | .pick _ _, _, h => Tp.keep k h
  | .fin, _, h => Tp.keep k h
def Reel (H : Hp) (r : Addr) : Prop := ∃ a b : Int, H r = some (.lst [.int a, .int b]) ∧ True
structure Rl (r : Addr) (H H' : Hp) : Prop where
  rl : Reel H' r
  k : ∀ b o, b ≠ r → H b = some o → H' b = some o
section
variable {r p : Addr} {H H1 H2 : Hp} {o : HO}
theorem Reel.same (h : Reel H r) (s : Same H H1) : Reel H1 r := let ⟨a, b, h1, h2⟩ := h; ⟨a, b, s _ _ h1, h2⟩
theorem Reel.ne (h : Reel H r) (hp : H p = none) : p ≠ r := fun e => by
  obtain ⟨a, b, h1, _⟩ := h
  rw [e, h1] at hp
  cases hp
theorem Rl.refl (h : Reel H r) : Rl r H H := ⟨h, fun _ _ _ z => z⟩
theorem Rl.trans (a : Rl r H H1) (b : Rl r H1 H2) : Rl r H H2 := ⟨b.rl, fun c o n z => b.k c o n (a.k c o n z)⟩
theorem Rl.of (h : Reel H r) (s : Same H H1) : Rl r H H1 := ⟨h.same s, fun b o _ z => s b o z⟩
theorem Rl.new (h : Reel H r) (hp : H p = none) : Rl r H (upd H p o) := Rl.of h (same_new hp o)
theorem Rl.tk (h : Reel H r) (l : Rl r H H1) : TK H H1 := fun b xs z => l.k b _ (fun e => by
  obtain ⟨a, c, h1, _⟩ := h
  rw [e, h1] at z
  cases z) z
theorem Rl.put (l : Rl r H H1) (n : p ≠ r) (hp : H p = none) : Rl r H (upd H1 p o) := ⟨let ⟨a, b, h1, h2⟩ := l.rl; ⟨a, b, by rw [upd_ne n.symm]; exact h1, h2⟩, fun b ob nb z => by rw [upd_ne (ne_of_none z hp)]; exact l.k b ob nb z⟩
theorem Rl.no (l : Rl r H H1) (n : p ≠ r) (h : H1 p = none) : H p = none := by
  match e : H p with
  | none => rfl
  | some o => rw [l.k _ _ n e] at h; cases h
end
theorem iteF' {c : Bool} {A B : Prop} (h : c = false) (b : B) : if c = true then A else B := by rw [h]; exact b
theorem at0 {a : V} {r : List V} : atI (a :: r) 0 = some a := atI_nat (xs := a :: r) (j := 0) rfl
def spNext : Sp := fun vs H Q _ => ∃ (r : Addr) (m : Int), vs = [.ref r, .int m] ∧ Reel H r ∧ 0 < m ∧ m < 2 ^ 110 ∧ ∀ (k : Int) (H' : Hp), 0 ≤ k → k < m → Rl r H H' → Q (.int k) H'
theorem scNext : FnScope ["pot", "many", "cell", "stir"] ["pot", "many"] (defScope sNext) := ⟨rfl, rfl, rfl, by decide +kernel, rfl, by decide +kernel, by decide +kernel⟩
theorem ok_next {f : Addr} {fd : FuncData} (F : Fun K "_law_next" "_law_next" sNext f fd) : FnOk P w K mg base CX0 1 f fd ["pot", "many"] spNext := by
 refine F.ok scNext (fun vs H Q E h => ?_) (fun cdv A outer s H vs Q E hr h => ?_)
 · obtain ⟨r, m, rfl, _⟩ := h
   rfl
 obtain ⟨r, m, rfl, ⟨a, b, hr0, _⟩, m0, m1, q⟩ := h
 refine goL ⟨_, (L3.cons (L3.asg (L3.op L3.o_add (L3.ix L3.ixL (L3.v 0) L3.int) L3.int) (L3.gset (L3.v 0) L3.int))
   (L3.cons (L3.set 2 scNext.nd (L3.ix L3.ixL (L3.v 0) L3.int))
   (L3.cons (L3.ifs (L3.cmp L3.o_ge (L3.v 2) (L3.op L3.o_pow L3.int L3.int)) (L3.cons (L3.asg (L3.op L3.o_div (L3.v 2) (L3.v 1)) (L3.gset (L3.v 0) L3.int))
   (L3.one (L3.ret (L3.op L3.o_mod (L3.v 2) (L3.v 1))))) L3.nil)
   (L3.cons (L3.set 3 scNext.nd (L3.op L3.o_mod (L3.op L3.o_add (L3.op L3.o_add (L3.op L3.o_mul (L3.v 2) L3.int) (L3.op L3.o_mul (L3.ix L3.ixL (L3.v 0) L3.int) L3.int)) L3.int) L3.int))
   (L3.cons (L3.set 3 scNext.nd (L3.op L3.o_mod (L3.op L3.o_mul (L3.v 3) (L3.v 3)) L3.int))
   (L3.one (L3.ret (L3.op L3.o_mod (L3.op L3.o_div (L3.op L3.o_mod (L3.op L3.o_add (L3.op L3.o_mul (L3.v 3) L3.int) (L3.op L3.o_mul (L3.ix L3.ixL (L3.v 0) L3.int) L3.int)) L3.int) L3.int) (L3.v 1))))))))), ?_⟩
 have fin : ∀ (k a' b' : Int) (H1 : Hp), (∀ c o, c ≠ r → H c = some o → H1 c = some o) → H1 r = some (.lst [.int a', .int b']) → 0 ≤ k → k < m → Q (.int k) H1 := fun k a' b' H1 h1 h2 k0 k1 => q k _ k0 k1 ⟨⟨a', b', h2, True.intro⟩, h1⟩
 refine cut1 fun Rk kR => ?_
 refine ⟨_, rfl, r, _, _, _, rfl, rfl, SqL.of hr0, rfl, _, _, rfl, rfl, _, rfl, r, _, 1, 1, rfl, rfl, hr0, rfl, ?_⟩
 obtain ⟨b1, eb⟩ : ∃ b1, b1 = b + 1 := ⟨_, rfl⟩
 refine kR _ _ ?_
 refine normH (upd H r (.lst [.int a, .int b1])) (by rw [eb]; rfl) ?_
 have hr1 : (upd H r (.lst [.int a, .int b1])) r = some (.lst [.int a, .int b1]) := upd_same
 have k1 : ∀ c o, c ≠ r → H c = some o → (upd H r (.lst [.int a, .int b1])) c = some o := fun c o n z => by rw [upd_ne n]; exact z
 generalize upd H r (.lst [.int a, .int b1]) = H1 at hr1 k1 ⊢
 refine cut1 fun Rk kR => ?_
 refine ⟨_, rfl, r, _, _, _, rfl, rfl, SqL.of hr1, rfl, ?_⟩
 refine gn_go ?_
 refine kR _ _ ?_
 refine normS [some (.ref r), some (.int m), some (.int a), none] rfl ?_
 refine cut1 fun Rk kR => ?_
 refine ⟨_, rfl, _, _, rfl, rfl, ⟨by decide, by decide, by decide⟩, _, _, rfl, rfl, _, rfl, ite2 (fun _ => ?_) (fun _ => ?_)⟩
 · refine ⟨_, rfl, _, rfl, _, _, rfl, rfl, ⟨m0, Int.lt_trans m1 (by decide +kernel)⟩, _, rfl, r, _, 0, 0, rfl, rfl, hr1, rfl, ?_⟩
   refine ⟨_, rfl, _, rfl, _, _, rfl, rfl, m0, ?_⟩
   exact fin _ _ _ _ (fun c o n z => by rw [upd_ne n]; exact k1 c o n z) upd_same (mod_lo m0) (mod_hi m0)
 refine kR _ _ ?_
 refine cut1 fun Rk kR => ?_
 refine ⟨_, rfl, _, _, rfl, rfl, .inr ⟨by decide, by decide⟩, _, rfl, r, _, _, _, rfl, rfl, SqL.of hr1, rfl, _, _, rfl, rfl, .inr ⟨by decide, by decide⟩, _, _, rfl, rfl, _, _, rfl, rfl, _, _, rfl, rfl, (by show (0 : Int) < 2147483647; decide), ?_⟩
 obtain ⟨s0, es, s1, s2⟩ : ∃ s0, s0 = (a * 69621 + b1 * 7919 + 13) % 2147483647 ∧ 0 ≤ s0 ∧ s0 < 2147483647 := ⟨_, rfl, mod_lo (by decide), mod_hi (by decide)⟩
 refine gn_go ?_
 refine kR _ _ ?_
 refine normS [some (.ref r), some (.int m), some (.int a), some (.int s0)] (by rw [es]; rfl) ?_
 refine cut1 fun Rk kR => ?_
 refine ⟨_, rfl, _, rfl, _, _, rfl, rfl, .inl ⟨by omega, by omega⟩, _, _, rfl, rfl, (by show (0 : Int) < 2147483629; decide), ?_⟩
 refine gn_go ?_
 refine kR _ _ ?_
 refine ⟨_, rfl, _, _, rfl, rfl, .inr ⟨by decide, by decide⟩, _, rfl, r, _, _, _, rfl, rfl, SqL.of hr1, rfl, _, _, rfl, rfl, .inr ⟨by decide, by decide⟩, _, _, rfl, rfl, _, _, rfl, rfl, (by show (0 : Int) < 2147483587; decide), _, _, rfl, rfl, ⟨by decide, by decide +kernel⟩, _, rfl, _, _, rfl, rfl, m0, ?_⟩
 exact fin _ _ _ _ k1 hr1 (mod_lo m0) (mod_hi m0)
theorem has_next (s : Src K mg "_law_next" sNext)  : Has P w K mg base "_law_next" ["pot", "many"] 1 spNext :=
  let ⟨f, fd, F, m⟩ := s
  ⟨f, fd, ok_next F , F.kp, bnd2 F fun _ _ _ _ _ _ _ _ => rfl, m⟩
def spPots (K : PySem.W.Frag) : Sp := fun vs H Q _ => ∃ (a : Addr) (sc : List Int), vs = [.ref a] ∧ SqL K H a (sc.map V.int) ∧ sc.length ≤ 63 ∧ ∀ (L : Addr) (ps : List Addr) (H' : Hp), Same H H' → H L = none → H' L = some (.lst (ps.map V.ref)) → 1 ≤ ps.length → ps.length ≤ 63 → ps.Nodup → (∀ p ∈ ps, H p = none ∧ p ≠ L ∧ Reel H' p) → Q (.ref L) H'
theorem nodup_snoc {α : Type} {l : List α} {x : α} (h : l.Nodup) (n : x ∉ l) : (l ++ [x]).Nodup := by
  rw [List.nodup_append]
  exact ⟨h, by simp, fun a ha b hb e => by rw [List.mem_singleton.mp hb] at e; exact n (e ▸ ha)⟩
theorem scPots : FnScope ["script"] ["script"] (defScope sPots) := ⟨rfl, rfl, rfl, by decide +kernel, rfl, by decide +kernel, by decide +kernel⟩
theorem gPots_len : GLB sPots "len" := by decide +kernel
theorem map_get {α : Type} {f : α → V} {l : List α} {i : Nat} {v : V} (h : (l.map f)[i]? = some v) : ∃ x, l[i]? = some x ∧ v = f x := by
  rw [List.getElem?_map] at h
  obtain ⟨x, h1, h2⟩ := Option.map_eq_some_iff.mp h
  exact ⟨x, h1, h2.symm⟩
theorem ok_pots {f : Addr} {fd : FuncData} (F : Fun K "_law_pots" "_law_pots" sPots f fd) (m_len : mg "len" = none) : FnOk P w K mg base CX0 1 f fd ["script"] (spPots K) := by
 refine F.ok scPots (fun vs H Q E h => ?_) (fun cdv A outer s H vs Q E hr h => ?_)
 · obtain ⟨a, sc, rfl, _⟩ := h
   rfl
 obtain ⟨a, sc, rfl, hs, h63, q⟩ := h
 refine goL ⟨_, (L3.cons (L3.ifs (L3.cmp L3.o_eq (L3.callB L3.c_len gPots_len m_len PySem.boot_len (L3.k (L3.v 0) L3.n)) L3.int) (L3.one (L3.ret (L3.lst (L3.k (L3.lst (L3.k L3.int (L3.k L3.int L3.n))) L3.n)))) L3.nil)
   (L3.one (L3.ret (L3.lc [none] ["cell"] (show CompScope _ (defScope sPots) from ⟨rfl, by decide +kernel, by decide +kernel, by decide +kernel⟩) (by rfl) (L3.iL (L3.slL2 (L3.v 0) L3.int)) (fun _ _ _ _ _ => ⟨(L3.gn 0 (show (["cell"] : List Str).Nodup from by decide +kernel)), L3.if0, (L3.lst (L3.k (L3.v 0) (L3.k L3.int L3.n)))⟩))))), ?_⟩
 refine cut1 fun Rk kR => ?_
 refine ⟨_, rfl, a, _, rfl, .inl hs, rfl, _, rfl, ite2 (fun _ => ?_) (fun cc => ?_)⟩
 · refine ⟨(by show 2 ≤ sizeLine; decide), fun p hp => ?_⟩
   obtain ⟨H1, sp, gp, zz⟩ := layO hp (.lst [.int 0, .int 0])
   rw [zz]; clear zz
   refine ⟨(by show 1 ≤ sizeLine; decide), fun L hL => ?_⟩
   refine q L [p] _ (same_add sp hL) (none_of_same sp hL) upd_same (by show 1 ≤ 1; decide) (by show 1 ≤ 63; decide) (by simp) fun p' hp' => ?_
   rw [List.mem_singleton.mp hp']
   exact ⟨hp, ne_of_none gp hL, 0, 0, (same_new hL _) _ _ gp, True.intro⟩
 have pos : 0 < sc.length := by
   refine Nat.pos_of_ne_zero fun z => cc ?_
   rw [List.length_map, z]
   rfl
 refine kR _ _ ?_
 refine ⟨_, rfl, _, rfl, a, _, rfl, hs, fun l hl => ?_⟩
 have ec : cutV (sc.map V.int) none (some 63) = sc.map V.int := by
   unfold cutV
   have e0 : HT.sIx (sc.map V.int).length 0 none = 0 := rfl
   have e1 : HT.sIx (sc.map V.int).length (sc.map V.int).length (some ((63 : Nat) : Int)) = min 63 (sc.map V.int).length := HT.sIx_nat _ _ _
   rw [e0, show (63 : Int) = ((63 : Nat) : Int) from rfl, e1, List.drop_zero, Nat.sub_zero, List.length_map, Nat.min_eq_right h63]
   exact List.take_of_length_le (by rw [List.length_map]; exact Nat.le_refl _)
 rw [ec]
 obtain ⟨H1, sl, gl, zz⟩ := layO hl (.lst (sc.map V.int))
 rw [zz]; clear zz
 refine ⟨l, rfl, ⟨_, SqL.of gl⟩, fun D hD => ?_⟩
 have nD := none_of_same sl hD
 refine comp_list (xs := sc.map V.int) (fun (i : Nat) Hx => Same H1 Hx ∧ ∃ ps : List Addr, Hx D = some (.lst (ps.map V.ref)) ∧ ps.length = i ∧ ps.Nodup ∧ ∀ p ∈ ps, H1 p = none ∧ p ≠ D ∧ Reel Hx p) ⟨same_new hD _, [], upd_same, rfl, .nil, fun _ z => nomatch z⟩ (fun i Hx _ z => SqL.of (z.1 _ _ gl)) (fun i x0 Hx hx z => ?_) (fun Hx z => ?_)
 · obtain ⟨sx, ps, gD, pl, nd, al⟩ := z
   have hil := (List.getElem?_eq_some_iff.mp hx).1
   obtain ⟨c, _, rfl⟩ := map_get hx
   refine gn_go ?_
   refine turn0 (A := fun H5 => mApp _ D _ H5 _) ?_
   refine ⟨_, rfl, (by show 2 ≤ sizeLine; decide), fun p hp => ?_⟩
   have sp := same_new hp (.lst [.int c, .int 0])
   have gp : (upd Hx p (.lst [.int c, .int 0])) p = some (.lst [.int c, .int 0]) := upd_same
   generalize upd Hx p (.lst [.int c, .int 0]) = Hy at sp gp ⊢
   have pD : p ≠ D := fun z => by rw [z, gD] at hp; cases hp
   have gDy := sp _ _ gD
   refine ⟨_, gDy, small1000 (by rw [List.length_map] at hil ⊢; omega), comp_end (Pv := fun (i : Nat) Hx => Same H1 Hx ∧ ∃ ps : List Addr, Hx D = some (.lst (ps.map V.ref)) ∧ ps.length = i ∧ ps.Nodup ∧ ∀ p ∈ ps, H1 p = none ∧ p ≠ D ∧ Reel Hx p) (by repeat' constructor) hil ⟨same_put (same_trans sx sp) hD, ps ++ [p], by rw [upd_same, List.map_append]; rfl, by rw [List.length_append, pl]; rfl, nodup_snoc nd (fun z => ?_), fun p' hp' => ?_⟩⟩
   · obtain ⟨_, _, a1, b1, h1, _⟩ := al p z
     rw [h1] at hp
     cases hp
   · rcases List.mem_append.mp hp' with z | z
     · obtain ⟨u1, u2, a1, b1, h1, _⟩ := al p' z
       exact ⟨u1, u2, a1, b1, by rw [upd_ne u2]; exact sp _ _ h1, True.intro⟩
     · rw [List.mem_singleton.mp z]
       exact ⟨none_of_same sx hp, pD, c, 0, by rw [upd_ne pD]; exact gp, True.intro⟩
 obtain ⟨sx, ps, gD, pl, nd, al⟩ := z
 rw [List.length_map] at pl
 exact q D ps Hx (same_trans sl sx) nD gD (by omega) (by omega) nd fun p hp => ⟨none_of_same sl (al p hp).1, (al p hp).2⟩
theorem has_pots (s : Src K mg "_law_pots" sPots) (m_len : mg "len" = none) : Has P w K mg base "_law_pots" ["script"] 1 (spPots K) :=
  let ⟨f, fd, F, m⟩ := s
  ⟨f, fd, ok_pots F m_len, F.kp, bnd1 F fun _ _ _ _ _ _ _ => rfl, m⟩
abbrev sSomeB : Stmt := top 42
theorem sub_len {α : Type} [DecidableEq α] : ∀ {xs ys : List α}, xs.Nodup → (∀ x ∈ xs, x ∈ ys) → xs.length ≤ ys.length
  | [], _, _, _ => Nat.zero_le _
  | x :: r, ys, nd, h => by
    rw [List.nodup_cons] at nd
    have hx : x ∈ ys := h x (List.mem_cons.mpr (.inl rfl))
    have ih := sub_len (xs := r) (ys := ys.erase x) nd.2 fun y hy => (List.mem_erase_of_ne (a := y) (b := x) (fun e : y = x => nd.1 (e ▸ hy))).mpr (h y (List.mem_cons.mpr (.inr hy)))
    have hl := List.length_erase_of_mem hx
    have hpos : 0 < ys.length := List.length_pos_of_mem hx
    rw [List.length_cons]
    omega
theorem cut_to (xs : List V) {k : Nat} (h : k ≤ xs.length) : cutV xs none (some (k : Int)) = xs.take k := by
  unfold cutV
  have e0 : HT.sIx xs.length 0 none = 0 := rfl
  have e1 : HT.sIx xs.length xs.length (some (k : Int)) = k := by rw [HT.sIx_nat]; omega
  rw [e0, e1, List.drop_zero, Nat.sub_zero]
theorem Paired.snoc {α β : Type} {R : α → β → Prop} : ∀ {a : List α} {b : List β} {x : α} {y : β}, Paired R a b → R x y → Paired R (a ++ [x]) (b ++ [y])
  | _, _, _, _, .nil, h => .cons h .nil
  | _, _, _, _, .cons r t, h => .cons r (Paired.snoc t h)
structure Nm4 (ns : List Str) : Prop where
  nd : ns.Nodup
  l4 : ns.length = 4
  l8 : ∀ x ∈ ns, x.length ≤ 8
def prodB : List (Str × Int) → Int
  | [] => 1
  | b :: l => b.2 * prodB l
theorem prodB_snoc : ∀ (l : List (Str × Int)) (b : Str × Int), prodB (l ++ [b]) = prodB l * b.2
  | [], b => by show b.2 * 1 = 1 * b.2; rw [Int.mul_one, Int.one_mul]
  | a :: l, b => by show a.2 * prodB (l ++ [b]) = a.2 * prodB l * b.2; rw [prodB_snoc l b, Int.mul_assoc]
structure BsOk (most : Int) (bs : List (Str × Int)) : Prop where
  nd : (bs.map (·.1)).Nodup
  l4 : bs.length ≤ 4
  l8 : ∀ b ∈ bs, b.1.length ≤ 8
  sz : ∀ b ∈ bs, 1 ≤ b.2 ∧ b.2 ≤ 16
  pr : prodB bs ≤ most
theorem prod_pos : ∀ {bs : List (Str × Int)}, (∀ b ∈ bs, 1 ≤ b.2) → 1 ≤ prodB bs
  | [], _ => Int.le_refl 1
  | b :: l, h => by
    have h1 := h b List.mem_cons_self
    have h2 := prod_pos (bs := l) fun x hx => h x (List.mem_cons_of_mem _ hx)
    have := Int.mul_le_mul h1 h2 (by decide) (by omega)
    show 1 ≤ b.2 * prodB l
    omega
def spSomeB : Sp := fun vs H Q _ => ∃ (r : Addr) (most wide : Int), vs = [.ref r, .int most, .int wide] ∧ Reel H r ∧ 1 ≤ most ∧ most ≤ 65536 ∧ 1 ≤ wide ∧ wide ≤ 16 ∧ ∀ (B : Addr) (vb : List V) (bs : List (Str × Int)) (H' : Hp), Rl r H H' → B ≠ r → H B = none → H' B = some (.lst vb) → Paired (BoxAt H') vb bs → BsOk most bs → Q (.ref B) H'
theorem scSomeB : FnScope ["pot", "most", "wide", "names", "found", "left", "name", "size"] ["pot", "most", "wide"] (defScope sSomeB) := ⟨rfl, rfl, rfl, by decide +kernel, rfl, by decide +kernel, by decide +kernel⟩
theorem gSomeB_law_next : GLB sSomeB "_law_next" := by decide +kernel
theorem gSomeB_min : GLB sSomeB "min" := by decide +kernel
theorem ok_someB {f : Addr} {fd : FuncData} (F : Fun K "_law_some_boxes" "_law_some_boxes" sSomeB f fd) (m_min : mg "min" = none) (NX : Has P w K mg base "_law_next" ["pot", "many"] 1 spNext) : FnOk P w K mg base CX0 2 f fd ["pot", "most", "wide"] spSomeB := by
 refine F.ok scSomeB (fun vs H Q E h => ?_) (fun cdv A outer s H vs Q E hr h => ?_)
 · obtain ⟨r, most, wide, rfl, _⟩ := h
   rfl
 obtain ⟨r, most, wide, rfl, rl, mo1, mo9, w1, w9, q⟩ := h
 refine goL ⟨_, (L3.cons (L3.set 3 scSomeB.nd (L3.ix L3.ixL (L3.lst (L3.k (L3.lst (L3.k L3.str (L3.k L3.str (L3.k L3.str (L3.k L3.str L3.n))))) (L3.k (L3.lst (L3.k L3.str (L3.k L3.str (L3.k L3.str (L3.k L3.str L3.n))))) (L3.k (L3.lst (L3.k L3.str (L3.k L3.str (L3.k L3.str (L3.k L3.str L3.n))))) L3.n)))) (L3.own NX hr gSomeB_law_next (L3.k (L3.v 0) (L3.k L3.int L3.n)))))
   (L3.cons (L3.set 4 scSomeB.nd (L3.lst L3.n))
   (L3.cons (L3.set 5 scSomeB.nd (L3.v 1))
   (L3.cons (L3.for_ (L3.iL (L3.slL2 (L3.v 3) (L3.own NX hr gSomeB_law_next (L3.k (L3.v 0) (L3.k L3.int L3.n))))) (L3.gn 6 scSomeB.nd) (L3.cons (L3.set 7 scSomeB.nd (L3.op L3.o_add L3.int (L3.own NX hr gSomeB_law_next (L3.k (L3.v 0) (L3.k (L3.callB L3.c_min gSomeB_min m_min (by decide +kernel) (L3.k (L3.v 5) (L3.k (L3.v 2) L3.n))) L3.n)))))
   (L3.cons (L3.set 5 scSomeB.nd (L3.op L3.o_div (L3.v 5) (L3.v 7)))
   (L3.one (L3.ex (L3.append (L3.v 4) (L3.k (L3.tup (L3.k (L3.v 6) (L3.k (L3.v 7) L3.n))) L3.n)))))))
   (L3.one (L3.ret (L3.v 4))))))), ?_⟩
 refine cut1 fun Rk kR => ?_
 refine ⟨(by show 4 ≤ sizeLine; decide), fun m0 hm0 => ?_⟩
 obtain ⟨Ha0, sm0, gm0, zz⟩ := layO hm0 (.lst [.str "a", .str "b", .str "c", .str "d"])
 rw [zz]; clear zz
 refine ⟨(by show 4 ≤ sizeLine; decide), fun m1 hm1 => ?_⟩
 obtain ⟨Ha1, sm1, gm1, zz⟩ := layO hm1 (.lst [.str "x", .str "xx", .str "y", .str "abcdefgh"])
 rw [zz]; clear zz
 refine ⟨(by show 4 ≤ sizeLine; decide), fun m2 hm2 => ?_⟩
 obtain ⟨Ha2, sm2, gm2, zz⟩ := layO hm2 (.lst [.str "q", .str "put", .str "end", .str "test"])
 rw [zz]; clear zz
 refine ⟨(by show 3 ≤ sizeLine; decide), fun lC hlC => ?_⟩
 obtain ⟨Ha3, slC, glC, zz⟩ := layO hlC (.lst [V.ref m0, V.ref m1, V.ref m2])
 rw [zz]; clear zz
 have sA : Same H Ha3 := (same_trans (same_trans (same_trans sm0 sm1) sm2) slC)
 have rA := rl.same sA
 refine ⟨_, rfl, r, 3, rfl, rA, by decide, by decide, fun k H1 k0 k1 l1 => ?_⟩
 obtain ⟨_, hat, nl, ns, rfl, gn, nr, nm⟩ := atI_all (P := fun v => ∃ (nl : Addr) (ns : List Str), v = .ref nl ∧ H1 nl = some (.lst (ns.map V.str)) ∧ nl ≠ r ∧ Nm4 ns) (xs := [.ref m0, .ref m1, .ref m2]) (r := k) k0 k1 (fun x hx => by
   rcases List.mem_cons.mp hx with e | hx
   · exact ⟨m0, (["a", "b", "c", "d"] : List Str), e, l1.k _ _ (rl.ne hm0) (slC _ _ (sm2 _ _ (sm1 _ _ gm0))), (rl.ne hm0), ⟨by decide +kernel, rfl, by decide +kernel⟩⟩
   rcases List.mem_cons.mp hx with e | hx
   · exact ⟨m1, (["x", "xx", "y", "abcdefgh"] : List Str), e, l1.k _ _ (rl.ne (none_of_same sm0 hm1)) (slC _ _ (sm2 _ _ gm1)), (rl.ne (none_of_same sm0 hm1)), ⟨by decide +kernel, rfl, by decide +kernel⟩⟩
   · exact ⟨m2, (["q", "put", "end", "test"] : List Str), List.mem_singleton.mp hx, l1.k _ _ (rl.ne (none_of_same sm0 (none_of_same sm1 hm2))) (slC _ _ gm2), (rl.ne (none_of_same sm0 (none_of_same sm1 hm2))), ⟨by decide +kernel, rfl, by decide +kernel⟩⟩)
 refine ⟨lC, _, _, _, rfl, rfl, SqL.of (l1.k _ _ (rl.ne (none_of_same sm0 (none_of_same sm1 (none_of_same sm2 hlC)))) glC), hat, ?_⟩
 refine gn_go ?_
 refine kR _ _ ?_
 refine normS [some (.ref r), some (.int most), some (.int wide), some (.ref nl), none, none, none, none] rfl ?_
 have l01 : Rl r H H1 := (Rl.of rl sA).trans l1
 clear hat l1 rA sA gm0 gm1 gm2 glC
 clear slC sm2 sm1 sm0
 refine cut2 fun Rk kR => ?_
 refine ⟨(by show 0 ≤ sizeLine; decide), fun B hB => ?_⟩
 have Br : B ≠ r := l01.rl.ne hB
 have BH := l01.no Br hB
 have Bn : nl ≠ B := ne_of_none gn hB
 have lB : Rl r H1 (upd H1 B (.lst [])) := Rl.new l01.rl hB
 have gB : (upd H1 B (.lst [])) B = some (.lst []) := upd_same
 generalize upd H1 B (.lst []) = H2 at lB gB ⊢
 refine gn_go ?_
 refine ⟨_, rfl, ?_⟩
 refine gn_go ?_
 refine kR _ _ ?_
 refine normS [some (.ref r), some (.int most), some (.int wide), some (.ref nl), some (.ref B), some (.int most), none, none] rfl ?_
 refine cut1 fun Rk kR => ?_
 refine ⟨_, rfl, _, rfl, r, 5, rfl, lB.rl, by decide, by decide, fun k H3 k0 k1 l3 => ?_⟩
 have gn3 := l3.k _ _ nr (lB.k _ _ nr gn)
 refine ⟨_, rfl, nl, _, rfl, SqL.of gn3, fun sl hsl => ?_⟩
 obtain ⟨kn, ekn⟩ : ∃ kn : Nat, k = (kn : Int) := ⟨k.toNat, by omega⟩
 rw [ekn, cut_to _ (by rw [List.length_map, nm.l4]; omega), ← List.map_take]
 have slr : sl ≠ r := l3.rl.ne hsl
 have slB : sl ≠ B := fun z => by rw [z, l3.k _ _ Br gB] at hsl; cases hsl
 have ls : Rl r H3 (upd H3 sl (.lst ((ns.take kn).map V.str))) := Rl.new l3.rl hsl
 have gsl : (upd H3 sl (.lst ((ns.take kn).map V.str))) sl = some (.lst ((ns.take kn).map V.str)) := upd_same
 generalize upd H3 sl (.lst ((ns.take kn).map V.str)) = H4 at ls gsl ⊢
 have l14 := lB.trans (l3.trans ls)
 have gB4 := (l3.trans ls).k _ _ Br gB
 have tnd : (ns.take kn).Nodup := nm.nd.sublist (List.take_sublist _ _)
 have tl : (ns.take kn).length ≤ 4 := by rw [List.length_take, nm.l4]; omega
 have t8 : ∀ x ∈ ns.take kn, x.length ≤ 8 := fun x hx => nm.l8 x (List.mem_of_mem_take hx)
 generalize ns.take kn = ms at gsl tnd tl t8
 refine ⟨sl, rfl, ⟨_, SqL.of gsl⟩, ?_⟩
 refine for_list (xs := ms.map V.str) (fun (i : Nat) (σ : L2.St) (Hx : Hp) => Rl r H1 Hx ∧ Hx sl = some (.lst (ms.map V.str)) ∧ ∃ (lf : Int) (o6 o7 : Option V) (vb : List V) (bs : List (Str × Int)), σ = [some (.ref r), some (.int most), some (.int wide), some (.ref nl), some (.ref B), some (.int lf), o6, o7] ∧ 1 ≤ lf ∧ lf ≤ 65536 ∧ prodB bs * lf ≤ most ∧ Hx B = some (.lst vb) ∧ Paired (BoxAt Hx) vb bs ∧ bs.map (·.1) = ms.take i ∧ ∀ b ∈ bs, 1 ≤ b.2 ∧ b.2 ≤ 16) ⟨l14, gsl, most, none, none, [], [], rfl, mo1, mo9, by show 1 * most ≤ most; omega, gB4, .nil, rfl, fun b hb => nomatch hb⟩ (fun i σ Hx _ z => SqL.of z.2.1) (fun i x0 σ Hx hx z => ?_) (fun σ Hx z => ?_)
 · obtain ⟨lx, gs, lf, o6, o7, vb, bs, rfl, f1, f9, pr, hb, pb, nmx, sz1⟩ := z
   obtain ⟨x, hxi, rfl⟩ := map_get hx
   have il : i < ms.length := (List.getElem?_eq_some_iff.mp hxi).1
   refine gn_go ?_
   refine normS [some (.ref r), some (.int most), some (.int wide), some (.ref nl), some (.ref B), some (.int lf), some (.str x), o7] rfl ?_
   refine cut1 fun Rj kj => ?_
   obtain ⟨mn, emn, n1, n2, n3⟩ : ∃ mn, mn = (if wide < lf then wide else lf) ∧ 1 ≤ mn ∧ mn ≤ 16 ∧ mn ≤ lf := by
     refine ⟨_, rfl, ?_, ?_, ?_⟩ <;> split <;> omega
   refine ⟨_, rfl, _, rfl, _, rfl, _, _, rfl, r, mn, by rw [emn]; rfl, lx.rl, by omega, Int.lt_of_le_of_lt n2 (by decide), fun k H5 k0 k1 l5 => ⟨_, _, rfl, rfl, ?_⟩⟩
   obtain ⟨sz, esz⟩ : ∃ sz, sz = 1 + k := ⟨_, rfl⟩
   refine gn_go ?_
   refine kj _ _ ?_
   refine normS [some (.ref r), some (.int most), some (.int wide), some (.ref nl), some (.ref B), some (.int lf), some (.str x), some (.int sz)] (by rw [esz]; rfl) ?_
   have hb5 := l5.k _ _ Br hb
   have lx5 := lx.trans l5
   refine cut1 fun Rj kj => ?_
   refine ⟨_, rfl, _, rfl, _, _, rfl, rfl, ⟨by omega, Int.lt_of_le_of_lt (show sz ≤ 65536 by omega) (by decide +kernel)⟩, ?_⟩
   have q1 : 1 ≤ lf / sz := Int.le_ediv_of_mul_le (by omega) (by omega)
   have q2 : lf / sz ≤ 65536 := Int.le_trans (Int.ediv_le_self _ (by omega)) f9
   refine gn_go ?_
   refine kj _ _ ?_
   refine ⟨_, rfl, .inl ⟨rfl, _, SqL.of hb5⟩, _, rfl, _, rfl, (by show 2 ≤ sizeLine; decide), fun p hp => ?_⟩
   have bl := Paired.length pb
   have bl2 : bs.length = min i ms.length := by rw [← List.length_map (f := (·.1)), nmx, List.length_take]
   have pB : p ≠ B := (ne_of_none hb5 hp).symm
   have hb6 : (upd H5 p (.tup [.str x, .int sz])) B = some (.lst vb) := by rw [upd_ne pB.symm]; exact hb5
   have lp : Rl r H5 (upd H5 p (.tup [.str x, .int sz])) := Rl.new l5.rl hp
   have psl : (upd H5 p (.tup [.str x, .int sz])) sl = some (.lst (ms.map V.str)) := lp.k _ _ slr (l5.k _ _ slr gs)
   refine ⟨B, _, _, rfl, rfl, hb6, small1000 (by omega), ⟨Rl.put (lx5.trans lp) Br hB, by rw [upd_ne slB]; exact psl, lf / sz, _, _, vb ++ [.ref p], bs ++ [(x, sz)], rfl, q1, q2, ?_, upd_same, ?_, ?_, fun b hb => ?_⟩⟩
   · rw [prodB_snoc, Int.mul_assoc]
     refine Int.le_trans (Int.mul_le_mul_of_nonneg_left (Int.mul_ediv_self_le (show sz ≠ 0 by omega)) ?_) pr
     have := prod_pos (bs := bs) fun b hb => (sz1 b hb).1
     omega
   · refine Paired.snoc (Paired.mapP pb fun _ _ z => Tp.keep (((Rl.tk lx.rl l5).trans (tk_new hp _)).trans (TW.TK.lst hb6)) z) ⟨p, rfl, ?_⟩
     rw [upd_ne pB, upd_same]
   · rw [List.map_append, nmx, List.take_add_one, hxi]
     rfl
   · rcases List.mem_append.mp hb with z | z
     · exact sz1 b z
     · rw [List.mem_singleton.mp z]
       exact ⟨by show 1 ≤ sz; omega, by show sz ≤ 16; omega⟩
 obtain ⟨lx, gs, lf, o6, o7, vb, bs, rfl, f1, f9, pr, hb, pb, nmx, sz1⟩ := z
 rw [List.length_map, List.take_length] at nmx
 refine kR _ _ ?_
 refine ⟨_, rfl, ?_⟩
 have bl2 : bs.length = ms.length := by rw [← List.length_map (f := (·.1)), nmx]
 refine q B vb bs Hx (l01.trans lx) Br BH hb pb ⟨by rw [nmx]; exact tnd, by omega, fun b hb => t8 _ (by rw [← nmx]; exact List.mem_map.mpr ⟨b, hb, rfl⟩), sz1, Int.le_trans ?_ pr⟩
 have := prod_pos (bs := bs) fun b hb => (sz1 b hb).1
 have := Int.mul_le_mul_of_nonneg_left f1 (c := prodB bs) (by omega)
 omega
theorem has_someB (s : Src K mg "_law_some_boxes" sSomeB) (m_min : mg "min" = none) (NX : Has P w K mg base "_law_next" ["pot", "many"] 1 spNext) : Has P w K mg base "_law_some_boxes" ["pot", "most", "wide"] 2 spSomeB :=
  let ⟨f, fd, F, m⟩ := s
  ⟨f, fd, ok_someB F m_min NX, F.kp, bnd3 F fun _ _ _ _ _ _ _ _ _ => rfl, m⟩
abbrev sSum : Stmt := top 43
abbrev sCond : Stmt := top 44
structure Dr (H : Hp) (r nl : Addr) (ns : List Str) : Prop where
  rl : Reel H r
  nr : nl ≠ r
  hn : H nl = some (.lst (ns.map V.str))
  l4 : ns.length ≤ 4
theorem Dr.go {H H1 : Hp} {r nl : Addr} {ns : List Str} (d : Dr H r nl ns) (l : Rl r H H1) : Dr H1 r nl ns := ⟨l.rl, d.nr, l.k _ _ d.nr d.hn, d.l4⟩
abbrev bxN (ns : List Str) : Str → Str → Prop := fun t x => t = "box" ∧ x ∈ ns
def spSum (n : Nat) : Sp := fun vs H Q _ => ∃ (r nl : Addr) (d : Int) (ns : List Str), vs = [.ref r, .ref nl, .int d] ∧ Dr H r nl ns ∧ 0 ≤ d ∧ d < n ∧ ∀ (v : V) (e : E) (H' : Hp), Rl r H H' → EAt H' v e → e.isS → e.okIn (bxN ns) → e.dep ≤ d.toNat → Q v H'
theorem pick2 {k : Int} {a b : K2} (h0 : 0 ≤ k) (h1 : k < 2) : ∃ kk : K2, atI ([.str a.str, .str b.str] : List V) k = some (.str kk.str) ∧ (kk = a ∨ kk = b) := by
  rcases (show k = 0 ∨ k = 1 by omega) with rfl | rfl
  · exact ⟨a, rfl, .inl rfl⟩
  · exact ⟨b, rfl, .inr rfl⟩
theorem none_sum {f : Addr} {fd : FuncData} : FnOk P w K mg base CX0 2 f fd ["pot", "names", "deep"] (spSum 0) := by
  have no : ∀ vs H Q E, ¬ spSum 0 vs H Q E := fun vs H Q E h => by
    obtain ⟨r, nl, d, ns, _, _, d0, dn, _⟩ := h
    omega
  exact ⟨fun vs H Q E h => absurd h (no vs H Q E), fun A outer s H args us vs Q E _ _ _ _ h => absurd h (no vs H Q E)⟩
theorem scSum : FnScope ["pot", "names", "deep", "way", "word"] ["pot", "names", "deep"] (defScope sSum) := ⟨rfl, rfl, rfl, by decide +kernel, rfl, by decide +kernel, by decide +kernel⟩
theorem gSum_law_any_sum : GLB sSum "_law_any_sum" := by decide +kernel
theorem gSum_law_next : GLB sSum "_law_next" := by decide +kernel
theorem gSum_len : GLB sSum "len" := by decide +kernel
theorem ok_sum {n : Nat} {f : Addr} {fd : FuncData} (F : Fun K "_law_any_sum" "_law_any_sum" sSum f fd) (m_len : mg "len" = none) (TK0 : Has P w K mg base "_law_next" ["pot", "many"] 1 spNext) (G : Has P w K mg base "_law_any_sum" ["pot", "names", "deep"] (n + 2) (spSum n)) : FnOk P w K mg base CX0 (n + 1 + 2) f fd ["pot", "names", "deep"] (spSum (n + 1)) := by
 refine F.ok scSum (fun vs H Q E h => ?_) (fun cdv A outer s H vs Q E hr h => ?_)
 · obtain ⟨r, nl, d, ns, rfl, _⟩ := h
   rfl
 obtain ⟨r, nl, d, ns, rfl, D, d0, dn, q⟩ := h
 have TK := TK0.mono (show 1 ≤ n + 2 by omega)
 refine goL ⟨_, (L3.cons (L3.set 3 scSum.nd (L3.own TK hr gSum_law_next (L3.k (L3.v 0) (L3.k L3.int L3.n))))
   (L3.cons (L3.ifs (L3.tw (L3.and2 (L3.cmp L3.o_eq (L3.v 3) L3.int) (L3.and1 (L3.cmp L3.o_gt (L3.v 2) L3.int)))) (L3.cons (L3.set 4 scSum.nd (L3.ix L3.ixL (L3.lst (L3.k L3.str (L3.k L3.str L3.n))) (L3.own TK hr gSum_law_next (L3.k (L3.v 0) (L3.k L3.int L3.n)))))
   (L3.one (L3.ret (L3.tup (L3.k (L3.v 4) (L3.k (L3.own G hr gSum_law_any_sum (L3.k (L3.v 0) (L3.k (L3.v 1) (L3.k (L3.op L3.o_sub (L3.v 2) L3.int) L3.n)))) (L3.k (L3.own G hr gSum_law_any_sum (L3.k (L3.v 0) (L3.k (L3.v 1) (L3.k (L3.op L3.o_sub (L3.v 2) L3.int) L3.n)))) L3.n))))))) L3.nil)
   (L3.cons (L3.ifs (L3.tw (L3.and2 (L3.cmp L3.o_gt (L3.v 3) L3.int) (L3.and1 (L3.cmp (L3.o_neD (m := 2) (up_ne hr _ (by decide))) (L3.v 1) (L3.lst L3.n))))) (L3.one (L3.ret (L3.tup (L3.k L3.str (L3.k (L3.ix L3.ixL (L3.v 1) (L3.own TK hr gSum_law_next (L3.k (L3.v 0) (L3.k (L3.callB L3.c_len gSum_len m_len PySem.boot_len (L3.k (L3.v 1) L3.n)) L3.n)))) L3.n))))) L3.nil)
   (L3.one (L3.ret (L3.tup (L3.k L3.str (L3.k (L3.own TK hr gSum_law_next (L3.k (L3.v 0) (L3.k (L3.ix L3.ixL (L3.lst (L3.k L3.int (L3.k L3.int L3.n))) (L3.own TK hr gSum_law_next (L3.k (L3.v 0) (L3.k L3.int L3.n)))) L3.n))) L3.n)))))))), ?_⟩
 refine cut1 fun Rk kR => ?_
 refine ⟨_, rfl, r, 4, rfl, D.rl, by decide, by decide, fun k H1 k0 k1 l1 => ?_⟩
 have D1 := D.go l1
 refine gn_go ?_
 refine kR _ _ ?_
 refine normS [some (.ref r), some (.ref nl), some (.int d), some (.int k), none] rfl ?_
 refine cut1 fun Rk kR => ?_
 suffices hs : Rk [some (.ref r), some (.ref nl), some (.int d), some (.int k), none] H1 by
   refine ⟨_, rfl, rfl, _, rfl, ite2 (fun _ => ?_) (fun _ => iteF hs)⟩
   refine ⟨_, rfl, _, _, rfl, rfl, _, rfl, ite2 (fun cd => ?_) (fun _ => hs)⟩
   have dpos : 0 < d := of_decide_eq_true cd
   clear hs kR
   refine cut1 fun Rk kR => ?_
   refine ⟨(by show 2 ≤ sizeLine; decide), fun L hL => ?_⟩
   have Lr : L ≠ r := D1.rl.ne hL
   have ll : Rl r H1 (upd H1 L (.lst [.str "plus", .str "less"])) := Rl.new D1.rl hL
   have gL : (upd H1 L (.lst [.str "plus", .str "less"])) L = some (.lst [.str "plus", .str "less"]) := upd_same
   generalize upd H1 L (.lst [.str "plus", .str "less"]) = H4 at ll gL ⊢
   have D4 := D1.go ll
   refine ⟨_, rfl, r, 2, rfl, D4.rl, by decide, by decide, fun j H5 j0 j1 l5 => ?_⟩
   have D5 := D4.go l5
   obtain ⟨kk, hat, hkk⟩ := pick2 (a := .plus) (b := .less) j0 j1
   refine ⟨L, _, _, _, rfl, rfl, SqL.of (l5.k _ _ Lr gL), hat, ?_⟩
   refine gn_go ?_
   refine kR _ _ ?_
   refine ⟨_, rfl, _, rfl, _, rfl, _, rfl, _, _, rfl, rfl, r, nl, d - 1, ns, rfl, D5, by omega, by omega, fun v e H3 l3 ev is ok dp => ?_⟩
   have D3 := D5.go l3
   refine ⟨_, rfl, _, rfl, _, rfl, _, _, rfl, rfl, r, nl, d - 1, ns, rfl, D3, by omega, by omega, fun v2 e2 H6 l6 ev2 is2 ok2 dp2 => ⟨(by show 3 ≤ sizeLine; decide), fun p hp => ?_⟩⟩
   have lp : Rl r H6 (upd H6 p (.tup [.str kk.str, v, v2])) := Rl.new l6.rl hp
   refine q (.ref p) (.two kk e e2) _ (l1.trans ((ll.trans l5).trans (l3.trans (l6.trans lp)))) ⟨v, v2, ⟨p, rfl, upd_same⟩, ev.keep (Rl.tk D3.rl (l6.trans lp)), ev2.keep (Rl.tk l6.rl lp)⟩ ?_ ⟨ok, ok2⟩ ?_
   · rcases hkk with rfl | rfl <;> exact ⟨is, is2⟩
   · show max e.dep e2.dep + 1 ≤ d.toNat
     omega
 refine kR _ _ ?_
 refine cut1 fun Rk kR => ?_
 suffices hs : ∀ H2, Rl r H1 H2 → Rk [some (.ref r), some (.ref nl), some (.int d), some (.int k), none] H2 by
   refine ⟨_, rfl, _, _, rfl, rfl, _, rfl, ite2 (fun _ => ?_) (fun _ => iteF (hs _ (Rl.refl D1.rl)))⟩
   refine ⟨_, rfl, (by show 0 ≤ sizeLine; decide), fun z hz => ?_⟩
   have lz : Rl r H1 (upd H1 z (.lst [])) := Rl.new D1.rl hz
   have gz : (upd H1 z (.lst [])) z = some (.lst []) := upd_same
   generalize upd H1 z (.lst []) = H2 at lz gz ⊢
   have D2 := D1.go lz
   refine ⟨_, RB.nil (SqL.of D2.hn) (SqL.of gz), _, rfl, ite2 (fun c => ?_) (fun _ => hs _ lz)⟩
   have hpos : 0 < ns.length := by
     cases ns with
     | nil => exact absurd c (by decide)
     | cons a l => exact Nat.succ_pos _
   have l4 := D.l4
   refine ⟨_, rfl, _, rfl, _, rfl, nl, _, rfl, .inl (SqL.of D2.hn), r, _, rfl, D2.rl, by rw [List.length_map]; omega, by rw [List.length_map]; exact Int.lt_of_le_of_lt (show _ ≤ (4 : Int) by omega) (by decide), fun j H3 j0 j1 l3 => ?_⟩
   rw [List.length_map] at j1
   obtain ⟨x, _, hxm, hat⟩ := atI_get V.str ns j0 j1
   have D3 := D2.go l3
   refine ⟨nl, _, _, _, rfl, rfl, SqL.of D3.hn, hat, (by show 2 ≤ sizeLine; decide), fun p hp => ?_⟩
   exact q (.ref p) (.box "box" x) _ (l1.trans (lz.trans (l3.trans (Rl.new D3.rl hp)))) ⟨p, rfl, upd_same⟩ True.intro ⟨rfl, hxm⟩ (Nat.zero_le _)
 intro H2 l2
 have D2 := D1.go l2
 refine kR _ _ ?_
 refine ⟨_, rfl, (by show 2 ≤ sizeLine; decide), fun L hL => ?_⟩
 have Lr : L ≠ r := D2.rl.ne hL
 have ll : Rl r H2 (upd H2 L (.lst [.int 3, .int 20])) := Rl.new D2.rl hL
 have gL : (upd H2 L (.lst [.int 3, .int 20])) L = some (.lst [.int 3, .int 20]) := upd_same
 generalize upd H2 L (.lst [.int 3, .int 20]) = H3 at ll gL ⊢
 have D3 := D2.go ll
 refine ⟨_, rfl, r, 2, rfl, D3.rl, by decide, by decide, fun j H4 j0 j1 l4 => ?_⟩
 have D4 := D3.go l4
 obtain ⟨_, hat, mm, rfl, mm0, mm1⟩ := atI_all (P := fun v => ∃ mm : Int, v = .int mm ∧ 0 < mm ∧ mm ≤ 10 ^ 30) (xs := [.int 3, .int 20]) (r := j) j0 j1 (fun x hx => by
   rcases List.mem_cons.mp hx with e | hx
   · exact ⟨_, e, by decide, by decide⟩
   · exact ⟨_, List.mem_singleton.mp hx, by decide, by decide⟩)
 refine ⟨L, _, _, _, rfl, rfl, SqL.of (l4.k _ _ Lr gL), hat, r, mm, rfl, D4.rl, mm0, Int.lt_of_le_of_lt mm1 (by decide), fun i H5 i0 i1 l5 => ⟨(by show 2 ≤ sizeLine; decide), fun p hp => ?_⟩⟩
 refine q (.ref p) (.num i) _ ((l1.trans l2).trans ((ll.trans l4).trans (l5.trans (Rl.new l5.rl hp)))) ⟨p, rfl, upd_same⟩ True.intro ?_ (Nat.zero_le _)
 show i.natAbs < 2 ^ 100
 have e30 : (10 : Int) ^ 30 = 1000000000000000000000000000000 := by decide
 rw [e30] at mm1
 omega
theorem has_sum (s : Src K mg "_law_any_sum" sSum) (m_len : mg "len" = none) (TK0 : Has P w K mg base "_law_next" ["pot", "many"] 1 spNext) : ∀ n : Nat, Has P w K mg base "_law_any_sum" ["pot", "names", "deep"] (n + 2) (spSum n) := by
  obtain ⟨f, fd, F, m⟩ := s
  have b : Binds K fd ["pot", "names", "deep"] [] := bnd3 F fun _ _ _ _ _ _ _ _ _ => rfl
  intro n
  have all : FnOk P w K mg base CX0 (n + 2) f fd ["pot", "names", "deep"] (spSum n) := by
    induction n with
    | zero => exact none_sum
    | succ n ih => exact ok_sum F m_len TK0 ⟨f, fd, ih, F.kp, b, m⟩
  exact ⟨f, fd, all, F.kp, b, m⟩
def spCond (n : Nat) : Sp := fun vs H Q _ => ∃ (r nl : Addr) (d : Int) (ns : List Str), vs = [.ref r, .ref nl, .int d] ∧ Dr H r nl ns ∧ 0 ≤ d ∧ d < n ∧ d < 4 ∧ ∀ (v : V) (e : E) (H' : Hp), Rl r H H' → EAt H' v e → e.isC → e.okIn (bxN ns) → e.dep ≤ d.toNat + 1 → Q v H'
theorem none_cond {f : Addr} {fd : FuncData} : FnOk P w K mg base CX0 6 f fd ["pot", "names", "deep"] (spCond 0) := by
  have no : ∀ vs H Q E, ¬ spCond 0 vs H Q E := fun vs H Q E h => by
    obtain ⟨r, nl, d, ns, _, _, d0, dn, _⟩ := h
    omega
  exact ⟨fun vs H Q E h => absurd h (no vs H Q E), fun A outer s H args us vs Q E _ _ _ _ h => absurd h (no vs H Q E)⟩
theorem scCond : FnScope ["pot", "names", "deep", "way"] ["pot", "names", "deep"] (defScope sCond) := ⟨rfl, rfl, rfl, by decide +kernel, rfl, by decide +kernel, by decide +kernel⟩
theorem gCond_law_any_condition : GLB sCond "_law_any_condition" := by decide +kernel
theorem gCond_law_any_sum : GLB sCond "_law_any_sum" := by decide +kernel
theorem gCond_law_next : GLB sCond "_law_next" := by decide +kernel
theorem ok_cond {n : Nat} {f : Addr} {fd : FuncData} (F : Fun K "_law_any_condition" "_law_any_condition" sCond f fd) (TK0 : Has P w K mg base "_law_next" ["pot", "many"] 1 spNext) (SM0 : Has P w K mg base "_law_any_sum" ["pot", "names", "deep"] 6 (spSum 4)) (G : Has P w K mg base "_law_any_condition" ["pot", "names", "deep"] (n + 6) (spCond n)) : FnOk P w K mg base CX0 (n + 1 + 6) f fd ["pot", "names", "deep"] (spCond (n + 1)) := by
 refine F.ok scCond (fun vs H Q E h => ?_) (fun cdv A outer s H vs Q E hr h => ?_)
 · obtain ⟨r, nl, d, ns, rfl, _⟩ := h
   rfl
 obtain ⟨r, nl, d, ns, rfl, D, d0, dn, d4, q⟩ := h
 have TK := TK0.mono (show 1 ≤ n + 6 by omega)
 have SM := SM0.mono (show 6 ≤ n + 6 by omega)
 refine goL ⟨_, (L3.cons (L3.set 3 scCond.nd (L3.own TK hr gCond_law_next (L3.k (L3.v 0) (L3.k L3.int L3.n))))
   (L3.cons (L3.ifs (L3.cmp L3.o_eq (L3.v 3) L3.int) (L3.one (L3.ret (L3.tup (L3.k L3.str L3.n)))) L3.nil)
   (L3.cons (L3.ifs (L3.tw (L3.and2 (L3.cmp L3.o_eq (L3.v 3) L3.int) (L3.and1 (L3.cmp L3.o_gt (L3.v 2) L3.int)))) (L3.one (L3.ret (L3.tup (L3.k L3.str (L3.k (L3.own G hr gCond_law_any_condition (L3.k (L3.v 0) (L3.k (L3.v 1) (L3.k (L3.op L3.o_sub (L3.v 2) L3.int) L3.n)))) L3.n))))) L3.nil)
   (L3.cons (L3.ifs (L3.tw (L3.and2 (L3.cmp L3.o_eq (L3.v 3) L3.int) (L3.and1 (L3.cmp L3.o_gt (L3.v 2) L3.int)))) (L3.one (L3.ret (L3.tup (L3.k L3.str (L3.k (L3.own G hr gCond_law_any_condition (L3.k (L3.v 0) (L3.k (L3.v 1) (L3.k (L3.op L3.o_sub (L3.v 2) L3.int) L3.n)))) (L3.k (L3.own G hr gCond_law_any_condition (L3.k (L3.v 0) (L3.k (L3.v 1) (L3.k (L3.op L3.o_sub (L3.v 2) L3.int) L3.n)))) L3.n)))))) L3.nil)
   (L3.one (L3.ret (L3.tup (L3.k (L3.ix L3.ixL (L3.lst (L3.k L3.str (L3.k L3.str L3.n))) (L3.own TK hr gCond_law_next (L3.k (L3.v 0) (L3.k L3.int L3.n)))) (L3.k (L3.own SM hr gCond_law_any_sum (L3.k (L3.v 0) (L3.k (L3.v 1) (L3.k (L3.v 2) L3.n)))) (L3.k (L3.own SM hr gCond_law_any_sum (L3.k (L3.v 0) (L3.k (L3.v 1) (L3.k (L3.v 2) L3.n)))) L3.n)))))))))), ?_⟩
 refine cut1 fun Rk kR => ?_
 refine ⟨_, rfl, r, 6, rfl, D.rl, by decide, by decide, fun k H1 k0 k1 l1 => ?_⟩
 have D1 := D.go l1
 refine gn_go ?_
 refine kR _ _ ?_
 refine normS [some (.ref r), some (.ref nl), some (.int d), some (.int k)] rfl ?_
 refine cut1 fun Rk kR => ?_
 refine ⟨_, rfl, rfl, _, rfl, ite2 (fun _ => ?_) (fun _ => ?_)⟩
 · refine ⟨(by show 1 ≤ sizeLine; decide), fun p hp => ?_⟩
   exact q (.ref p) .yes _ (l1.trans (Rl.new l1.rl hp)) ⟨p, rfl, upd_same⟩ True.intro True.intro (Nat.zero_le _)
 refine kR _ _ ?_
 refine cut1 fun Rk kR => ?_
 suffices hs : Rk [some (.ref r), some (.ref nl), some (.int d), some (.int k)] H1 by
   refine ⟨_, rfl, rfl, _, rfl, ite2 (fun _ => ?_) (fun _ => iteF hs)⟩
   refine ⟨_, rfl, _, _, rfl, rfl, _, rfl, ite2 (fun cd => ?_) (fun _ => hs)⟩
   have dpos : 0 < d := of_decide_eq_true cd
   refine ⟨_, rfl, _, rfl, _, rfl, _, _, rfl, rfl, r, nl, d - 1, ns, rfl, D1, by omega, by omega, by omega, fun v e H2 l2 ev is ok dp => ?_⟩
   have D2 := D1.go l2
   refine ⟨(by show 2 ≤ sizeLine; decide), fun p hp => ?_⟩
   have lp : Rl r H2 (upd H2 p (.tup [.str "not", v])) := Rl.new D2.rl hp
   exact q (.ref p) (.nt e) _ (l1.trans (l2.trans lp)) ⟨v, ⟨p, rfl, upd_same⟩, ev.keep (Rl.tk D2.rl lp)⟩ is ok (by show e.dep + 1 ≤ d.toNat + 1; omega)
 refine kR _ _ ?_
 refine cut1 fun Rk kR => ?_
 suffices hs : Rk [some (.ref r), some (.ref nl), some (.int d), some (.int k)] H1 by
   refine ⟨_, rfl, rfl, _, rfl, ite2 (fun _ => ?_) (fun _ => iteF hs)⟩
   refine ⟨_, rfl, _, _, rfl, rfl, _, rfl, ite2 (fun cd => ?_) (fun _ => hs)⟩
   have dpos : 0 < d := of_decide_eq_true cd
   refine ⟨_, rfl, _, rfl, _, rfl, _, _, rfl, rfl, r, nl, d - 1, ns, rfl, D1, by omega, by omega, by omega, fun v e H2 l2 ev is ok dp => ?_⟩
   have D2 := D1.go l2
   refine ⟨_, rfl, _, rfl, _, rfl, _, _, rfl, rfl, r, nl, d - 1, ns, rfl, D2, by omega, by omega, by omega, fun v2 e2 H3 l3 ev2 is2 ok2 dp2 => ?_⟩
   have D3 := D2.go l3
   refine ⟨(by show 3 ≤ sizeLine; decide), fun p hp => ?_⟩
   have lp : Rl r H3 (upd H3 p (.tup [.str "both", v, v2])) := Rl.new D3.rl hp
   exact q (.ref p) (.two .both e e2) _ (l1.trans (l2.trans (l3.trans lp))) ⟨v, v2, ⟨p, rfl, upd_same⟩, ev.keep (Rl.tk D2.rl (l3.trans lp)), ev2.keep (Rl.tk D3.rl lp)⟩ ⟨is, is2⟩ ⟨ok, ok2⟩ (by show max e.dep e2.dep + 1 ≤ d.toNat + 1; omega)
 refine kR _ _ ?_
 refine ⟨(by show 2 ≤ sizeLine; decide), fun L hL => ?_⟩
 have Lr : L ≠ r := D1.rl.ne hL
 have ll : Rl r H1 (upd H1 L (.lst [.str "same", .str "under"])) := Rl.new D1.rl hL
 have gL : (upd H1 L (.lst [.str "same", .str "under"])) L = some (.lst [.str "same", .str "under"]) := upd_same
 generalize upd H1 L (.lst [.str "same", .str "under"]) = H4 at ll gL ⊢
 have D4 := D1.go ll
 refine ⟨_, rfl, r, 2, rfl, D4.rl, by decide, by decide, fun j H5 j0 j1 l5 => ?_⟩
 have D5 := D4.go l5
 obtain ⟨kk, hat, hkk⟩ := pick2 (a := .same) (b := .under) j0 j1
 refine ⟨L, _, _, _, rfl, rfl, SqL.of (l5.k _ _ Lr gL), hat, _, rfl, _, rfl, _, rfl, r, nl, d, ns, rfl, D5, d0, d4, fun v e H6 l6 ev is ok dp => ?_⟩
 have D6 := D5.go l6
 refine ⟨_, rfl, _, rfl, _, rfl, r, nl, d, ns, rfl, D6, d0, d4, fun v2 e2 H7 l7 ev2 is2 ok2 dp2 => ⟨(by show 3 ≤ sizeLine; decide), fun p hp => ?_⟩⟩
 have lp : Rl r H7 (upd H7 p (.tup [.str kk.str, v, v2])) := Rl.new l7.rl hp
 refine q (.ref p) (.two kk e e2) _ (l1.trans ((ll.trans l5).trans (l6.trans (l7.trans lp)))) ⟨v, v2, ⟨p, rfl, upd_same⟩, ev.keep (Rl.tk D6.rl (l7.trans lp)), ev2.keep (Rl.tk l7.rl lp)⟩ ?_ ⟨ok, ok2⟩ ?_
 · rcases hkk with rfl | rfl <;> exact ⟨is, is2⟩
 · show max e.dep e2.dep + 1 ≤ d.toNat + 1
   omega
theorem has_cond (s : Src K mg "_law_any_condition" sCond) (TK0 : Has P w K mg base "_law_next" ["pot", "many"] 1 spNext) (SM0 : Has P w K mg base "_law_any_sum" ["pot", "names", "deep"] 6 (spSum 4)) : ∀ n : Nat, Has P w K mg base "_law_any_condition" ["pot", "names", "deep"] (n + 6) (spCond n) := by
  obtain ⟨f, fd, F, m⟩ := s
  have b : Binds K fd ["pot", "names", "deep"] [] := bnd3 F fun _ _ _ _ _ _ _ _ _ => rfl
  intro n
  have all : FnOk P w K mg base CX0 (n + 6) f fd ["pot", "names", "deep"] (spCond n) := by
    induction n with
    | zero => exact none_cond
    | succ n ih => exact ok_cond F TK0 SM0 ⟨f, fd, ih, F.kp, b, m⟩
  exact ⟨f, fd, all, F.kp, b, m⟩
abbrev sNode : Stmt := top 45
abbrev sSomeP : Stmt := top 46
def Np.leads : Np → List Int
  | .put _ _ n => [n] | .say _ n => [n] | .test _ n o => [n, o] | .pick _ n => [n] | .fin => []
def Np.tolds : Np → List E
  | .put x s _ => [.box "box" x, s] | .say s _ => [s] | .test c _ _ => [c] | .pick x _ => [.box "box" x] | .fin => []
def Np.isN : Np → Prop
  | .put _ s _ => s.isS | .say s _ => s.isS | .test c _ _ => c.isC | .pick _ _ => False | .fin => True
structure NpOk (ns : List Str) (m : Int) (e : Np) : Prop where
  is : e.isN
  ld : ∀ l ∈ e.leads, 0 ≤ l ∧ l < m
  td : ∀ x ∈ e.tolds, x.okIn (bxN ns) ∧ x.dep ≤ 3
theorem all1 {α : Type} {P : α → Prop} {a : α} (h : P a) : ∀ x ∈ [a], P x := fun x hx => by rw [List.mem_singleton.mp hx]; exact h
theorem all2 {α : Type} {P : α → Prop} {a b : α} (h : P a) (h2 : P b) : ∀ x ∈ [a, b], P x := fun x hx => by
  rcases List.mem_cons.mp hx with e | hx
  · rw [e]; exact h
  · rw [List.mem_singleton.mp hx]; exact h2
def spNode : Sp := fun vs H Q _ => ∃ (r nl : Addr) (m : Int) (ns : List Str), vs = [.ref r, .ref nl, .int m] ∧ Dr H r nl ns ∧ 0 < m ∧ m ≤ 900 ∧ ∀ (v : V) (e : Np) (H' : Hp), Rl r H H' → NpAt H' v e → NpOk ns m e → Q v H'
theorem scNode : FnScope ["pot", "names", "many", "way", "there", "name", "told"] ["pot", "names", "many"] (defScope sNode) := ⟨rfl, rfl, rfl, by decide +kernel, rfl, by decide +kernel, by decide +kernel⟩
theorem gNode_law_any_condition : GLB sNode "_law_any_condition" := by decide +kernel
theorem gNode_law_any_sum : GLB sNode "_law_any_sum" := by decide +kernel
theorem gNode_law_next : GLB sNode "_law_next" := by decide +kernel
theorem gNode_int : GLB sNode "int" := by decide +kernel
theorem gNode_len : GLB sNode "len" := by decide +kernel
theorem ok_node {f : Addr} {fd : FuncData} (F : Fun K "_law_one_node" "_law_one_node" sNode f fd) (m_len : mg "len" = none) (m_int : mg "int" = none) (TK0 : Has P w K mg base "_law_next" ["pot", "many"] 1 spNext) (SM0 : Has P w K mg base "_law_any_sum" ["pot", "names", "deep"] 6 (spSum 4)) (CO : Has P w K mg base "_law_any_condition" ["pot", "names", "deep"] 9 (spCond 3)) : FnOk P w K mg base CX0 10 f fd ["pot", "names", "many"] spNode := by
 refine F.ok scNode (fun vs H Q E h => ?_) (fun cdv A outer s H vs Q E hr h => ?_)
 · obtain ⟨r, nl, m, ns, rfl, _⟩ := h
   rfl
 obtain ⟨r, nl, m, ns, rfl, D, m0, m9, q⟩ := h
 have TK := TK0.mono (show 1 ≤ 9 by decide)
 have SM := SM0.mono (show 6 ≤ 9 by decide)
 refine goL ⟨_, (L3.cons (L3.set 3 scNode.nd (L3.own TK hr gNode_law_next (L3.k (L3.v 0) (L3.k L3.int L3.n))))
   (L3.cons (L3.set 4 scNode.nd (L3.own TK hr gNode_law_next (L3.k (L3.v 0) (L3.k (L3.v 2) L3.n))))
   (L3.cons (L3.ifs (L3.tw (L3.and2 (L3.cmp L3.o_lt (L3.v 3) L3.int) (L3.and1 (L3.cmp (L3.o_neD (m := 2) (up_ne hr _ (by decide))) (L3.v 1) (L3.lst L3.n))))) (L3.cons (L3.set 5 scNode.nd (L3.ix L3.ixL (L3.v 1) (L3.own TK hr gNode_law_next (L3.k (L3.v 0) (L3.k (L3.callB L3.c_len gNode_len m_len PySem.boot_len (L3.k (L3.v 1) L3.n)) L3.n)))))
   (L3.cons (L3.set 6 scNode.nd (L3.own SM hr gNode_law_any_sum (L3.k (L3.v 0) (L3.k (L3.v 1) (L3.k L3.int L3.n)))))
   (L3.cons (L3.ifs (L3.cmp L3.o_eq (L3.own TK hr gNode_law_next (L3.k (L3.v 0) (L3.k L3.int L3.n))) L3.int) (L3.one (L3.set 6 scNode.nd (L3.tup (L3.k L3.str (L3.k (L3.v 5) L3.n))))) L3.nil)
   (L3.one (L3.ret (L3.tup (L3.k L3.str (L3.k (L3.v 5) (L3.k (L3.v 6) (L3.k (L3.v 4) L3.n)))))))))) L3.nil)
   (L3.cons (L3.ifs (L3.cmp L3.o_lt (L3.v 3) L3.int) (L3.one (L3.ret (L3.tup (L3.k L3.str (L3.k (L3.own SM hr gNode_law_any_sum (L3.k (L3.v 0) (L3.k (L3.v 1) (L3.k L3.int L3.n)))) (L3.k (L3.v 4) L3.n)))))) L3.nil)
   (L3.cons (L3.ifs (L3.cmp L3.o_eq (L3.v 3) L3.int) (L3.one (L3.ret (L3.tup (L3.k L3.str L3.n)))) L3.nil)
   (L3.one (L3.ret (L3.tup (L3.k L3.str (L3.k (L3.own CO hr gNode_law_any_condition (L3.k (L3.v 0) (L3.k (L3.v 1) (L3.k L3.int L3.n)))) (L3.k (L3.v 4) (L3.k (L3.ix L3.ixL (L3.lst (L3.k (L3.v 4) (L3.k (L3.own TK hr gNode_law_next (L3.k (L3.v 0) (L3.k (L3.v 2) L3.n))) L3.n))) (L3.callT L3.c_int gNode_int m_int (by decide +kernel) (L3.k (L3.cmpE L3.o_gt (L3.own TK hr gNode_law_next (L3.k (L3.v 0) (L3.k L3.int L3.n))) L3.int) L3.n))) L3.n)))))))))))), ?_⟩
 refine cut2 fun Rk kR => ?_
 refine ⟨_, rfl, r, 10, rfl, D.rl, by decide, by decide, fun k H1 k0 k1 l1 => ?_⟩
 have D1 := D.go l1
 refine gn_go ?_
 refine ⟨_, rfl, _, rfl, r, m, rfl, D1.rl, m0, Int.lt_of_le_of_lt m9 (by decide), fun to H2 t0 t1 l2 => ?_⟩
 have D2 := D1.go l2
 have l02 := l1.trans l2
 clear D1 l1 l2
 refine gn_go ?_
 refine kR _ _ ?_
 refine normS [some (.ref r), some (.ref nl), some (.int m), some (.int k), some (.int to), none, none] rfl ?_
 refine cut1 fun Rk kR => ?_
 suffices hs : ∀ H3, Rl r H2 H3 → Rk [some (.ref r), some (.ref nl), some (.int m), some (.int k), some (.int to), none, none] H3 by
   refine ⟨_, rfl, _, _, rfl, rfl, _, rfl, ite2 (fun _ => ?_) (fun _ => iteF (hs _ (Rl.refl D2.rl)))⟩
   refine ⟨_, rfl, (by show 0 ≤ sizeLine; decide), fun z hz => ?_⟩
   have lz : Rl r H2 (upd H2 z (.lst [])) := Rl.new D2.rl hz
   have gz : (upd H2 z (.lst [])) z = some (.lst []) := upd_same
   generalize upd H2 z (.lst []) = H3 at lz gz ⊢
   have D3 := D2.go lz
   refine ⟨_, RB.nil (SqL.of D3.hn) (SqL.of gz), _, rfl, ite2 (fun c => ?_) (fun _ => hs _ lz)⟩
   have hpos : 0 < ns.length := by
     cases ns with
     | nil => exact absurd c (by decide)
     | cons a l => exact Nat.succ_pos _
   have l4 := D.l4
   clear hs kR
   refine cut1 fun Rk kR => ?_
   refine ⟨_, rfl, _, rfl, _, rfl, nl, _, rfl, .inl (SqL.of D3.hn), r, _, rfl, D3.rl, by rw [List.length_map]; omega, by rw [List.length_map]; exact Int.lt_of_le_of_lt (show _ ≤ (4 : Int) by omega) (by decide), fun j H4 j0 j1 l4 => ?_⟩
   rw [List.length_map] at j1
   obtain ⟨x, _, hxm, hat⟩ := atI_get V.str ns j0 j1
   have D4 := D3.go l4
   refine ⟨nl, _, _, _, rfl, rfl, SqL.of D4.hn, hat, ?_⟩
   refine gn_go ?_
   refine kR _ _ ?_
   refine normS [some (.ref r), some (.ref nl), some (.int m), some (.int k), some (.int to), some (.str x), none] rfl ?_
   refine cut1 fun Rk kR => ?_
   refine ⟨_, rfl, _, rfl, r, nl, 2, ns, rfl, D4, by decide, by decide, fun v e H5 l5 ev is ok dp => ?_⟩
   have D5 := D4.go l5
   refine gn_go ?_
   refine kR _ _ ?_
   refine normS [some (.ref r), some (.ref nl), some (.int m), some (.int k), some (.int to), some (.str x), some v] rfl ?_
   refine cut1 fun Rk kR => ?_
   have dp : e.dep ≤ 2 := dp
   suffices hv : ∀ (v : V) (e : TW.E) (H6 : Hp), Rl r H5 H6 → EAt H6 v e → e.isS → e.okIn (bxN ns) → e.dep ≤ 2 → Rk [some (.ref r), some (.ref nl), some (.int m), some (.int k), some (.int to), some (.str x), some v] H6 by
     refine ⟨_, rfl, r, 4, rfl, D5.rl, by decide, by decide, fun j H6 j0 j1 l6 => ⟨rfl, _, rfl, ite2 (fun _ => ?_) (fun _ => hv v e _ l6 (ev.keep (Rl.tk D5.rl l6)) is ok dp)⟩⟩
     refine ⟨_, rfl, (by show 2 ≤ sizeLine; decide), fun p hp => ?_⟩
     refine gn_go ?_
     exact hv (.ref p) (.box "box" x) _ (l6.trans (Rl.new l6.rl hp)) ⟨p, rfl, upd_same⟩ True.intro ⟨rfl, hxm⟩ (Nat.zero_le _)
   clear ev is ok
   intro v e H6 l6 ev is ok dp
   refine kR _ _ ?_
   refine ⟨_, rfl, _, rfl, _, rfl, (by show 4 ≤ sizeLine; decide), fun p hp => ?_⟩
   have lp : Rl r H6 (upd H6 p (.tup [.str "put", .str x, v, .int to])) := Rl.new l6.rl hp
   exact q (.ref p) (.put x e to) _ (l02.trans (lz.trans (l4.trans (l5.trans (l6.trans lp))))) ⟨v, ⟨p, rfl, upd_same⟩, ev.keep (Rl.tk l6.rl lp)⟩ ⟨is, all1 ⟨t0, t1⟩, all2 ⟨⟨rfl, hxm⟩, Nat.zero_le _⟩ ⟨ok, by omega⟩⟩
 intro H3 l23
 replace l02 := l02.trans l23
 replace D2 := D2.go l23
 clear l23
 refine kR _ _ ?_
 refine cut1 fun Rk kR => ?_
 refine ⟨_, rfl, _, _, rfl, rfl, _, rfl, ite2 (fun _ => ?_) (fun _ => ?_)⟩
 · refine ⟨_, rfl, _, rfl, r, nl, 2, ns, rfl, D2, by decide, by decide, fun v e H5 l5 ev is ok dp => ?_⟩
   refine ⟨_, rfl, (by show 3 ≤ sizeLine; decide), fun p hp => ?_⟩
   have lp : Rl r H5 (upd H5 p (.tup [.str "say", v, .int to])) := Rl.new l5.rl hp
   have dp : e.dep ≤ 2 := dp
   exact q (.ref p) (.say e to) _ (l02.trans (l5.trans lp)) ⟨v, ⟨p, rfl, upd_same⟩, ev.keep (Rl.tk l5.rl lp)⟩ ⟨is, all1 ⟨t0, t1⟩, all1 ⟨ok, by omega⟩⟩
 refine kR _ _ ?_
 refine cut1 fun Rk kR => ?_
 refine ⟨_, rfl, rfl, _, rfl, ite2 (fun _ => ?_) (fun _ => ?_)⟩
 · refine ⟨(by show 1 ≤ sizeLine; decide), fun p hp => ?_⟩
   exact q (.ref p) .fin _ (l02.trans (Rl.new D2.rl hp)) ⟨p, rfl, upd_same⟩ ⟨True.intro, (fun _ z => nomatch z), (fun _ z => nomatch z)⟩
 refine kR _ _ ?_
 refine ⟨_, rfl, _, rfl, r, nl, 2, ns, rfl, D2, by decide, by decide, by decide, fun v e H5 l5 ev is ok dp => ?_⟩
 have D5 := D2.go l5
 have dp : e.dep ≤ 3 := dp
 refine ⟨_, rfl, _, rfl, _, rfl, _, rfl, r, m, rfl, D5.rl, m0, Int.lt_of_le_of_lt m9 (by decide), fun o H6 o0 o1 l6 => ?_⟩
 refine ⟨(by show 2 ≤ sizeLine; decide), fun L hL => ?_⟩
 have Lr : L ≠ r := l6.rl.ne hL
 have ll : Rl r H6 (upd H6 L (.lst [.int to, .int o])) := Rl.new l6.rl hL
 have gL : (upd H6 L (.lst [.int to, .int o])) L = some (.lst [.int to, .int o]) := upd_same
 generalize upd H6 L (.lst [.int to, .int o]) = H7 at ll gL ⊢
 refine ⟨_, rfl, r, 3, rfl, ll.rl, by decide, by decide, fun j H8 j0 j1 l8 => ⟨_, _, rfl, rfl, .inr ⟨_, rfl, ?_⟩⟩⟩
 obtain ⟨oo, hat, oo0, oo1⟩ : ∃ oo : Int, atI [V.int to, V.int o] (if decide (0 < j) = true then (1 : Int) else 0) = some (.int oo) ∧ 0 ≤ oo ∧ oo < m := by
   split
   · exact ⟨o, rfl, o0, o1⟩
   · exact ⟨to, rfl, t0, t1⟩
 refine ⟨L, _, _, _, rfl, rfl, SqL.of (l8.k _ _ Lr gL), hat, (by show 4 ≤ sizeLine; decide), fun p hp => ?_⟩
 have lp : Rl r H8 (upd H8 p (.tup [.str "test", v, .int to, .int oo])) := Rl.new l8.rl hp
 have l58 := l6.trans (ll.trans (l8.trans lp))
 exact q (.ref p) (.test e to oo) _ (l02.trans (l5.trans l58)) ⟨v, ⟨p, rfl, upd_same⟩, ev.keep (Rl.tk D5.rl l58)⟩ ⟨is, all2 ⟨t0, t1⟩ ⟨oo0, oo1⟩, all1 ⟨ok, by omega⟩⟩
theorem has_node (s : Src K mg "_law_one_node" sNode) (m_len : mg "len" = none) (m_int : mg "int" = none) (TK0 : Has P w K mg base "_law_next" ["pot", "many"] 1 spNext) (SM0 : Has P w K mg base "_law_any_sum" ["pot", "names", "deep"] 6 (spSum 4)) (CO : Has P w K mg base "_law_any_condition" ["pot", "names", "deep"] 9 (spCond 3)) : Has P w K mg base "_law_one_node" ["pot", "names", "many"] 10 spNode :=
  let ⟨f, fd, F, m⟩ := s
  ⟨f, fd, ok_node F m_len m_int TK0 SM0 CO, F.kp, bnd3 F fun _ _ _ _ _ _ _ _ _ => rfl, m⟩
theorem ins_nd {ins : List Str} {x : Str} (h : ins.Nodup) (n : x ∉ ins) (i : Nat) : (ins.take i ++ x :: ins.drop i).Nodup := by
  rw [List.nodup_append, List.nodup_cons]
  refine ⟨h.sublist (List.take_sublist _ _), ⟨fun z => n (List.mem_of_mem_drop z), h.sublist (List.drop_sublist _ _)⟩, fun a ha b hb e => ?_⟩
  rcases List.mem_cons.mp hb with z | z
  · exact n (by rw [← z, ← e]; exact List.mem_of_mem_take ha)
  · have hd := h
    rw [← List.take_append_drop i ins, List.nodup_append] at hd
    exact hd.2.2 a ha b z e
theorem ins_mem {ins : List Str} {x y : Str} {i : Nat} : y ∈ ins.take i ++ x :: ins.drop i → y = x ∨ y ∈ ins := fun h => by
  rcases List.mem_append.mp h with z | z
  · exact .inr (List.mem_of_mem_take z)
  · rcases List.mem_cons.mp z with z | z
    · exact .inl z
    · exact .inr (List.mem_of_mem_drop z)
structure PrD (r : Addr) (H : Hp) (B I N : Addr) (vb vn : List V) (bs : List (Str × Int)) (ins : List Str) (nds : List Np) : Prop where
  hB : H B = some (.lst vb)
  hI : H I = some (.lst (ins.map V.str))
  hN : H N = some (.lst vn)
  pb : Paired (BoxAt H) vb bs
  pn : Paired (NpAt H) vn nds
  nB : B ≠ r
  nI : I ≠ r
  nN : N ≠ r
theorem PrD.go {r : Addr} {H H1 : Hp} {B I N : Addr} {vb vn : List V} {bs : List (Str × Int)} {ins : List Str} {nds : List Np} (h : PrD r H B I N vb vn bs ins nds) (rl : Reel H r) (l : Rl r H H1) : PrD r H1 B I N vb vn bs ins nds :=
  ⟨l.k _ _ h.nB h.hB, l.k _ _ h.nI h.hI, l.k _ _ h.nN h.hN, Paired.mapP h.pb fun _ _ z => Tp.keep (Rl.tk rl l) z, Paired.mapP h.pn fun _ _ z => NpAt.keep (Rl.tk rl l) z, h.nB, h.nI, h.nN⟩
structure PgOk (most longest : Int) (bs : List (Str × Int)) (ins : List Str) (nds : List Np) : Prop where
  bx : BsOk most bs
  ind : ins.Nodup
  sub : ∀ x ∈ ins, x ∈ bs.map (·.1)
  one : 1 ≤ nds.length
  few : (nds.length : Int) ≤ longest
  nd : ∀ e ∈ nds, NpOk (bs.map (·.1)) (nds.length : Int) e
def spSomeP : Sp := fun vs H Q _ => ∃ (r : Addr) (most wide longest : Int), vs = [.ref r, .int most, .int wide, .int longest] ∧ Reel H r ∧ 1 ≤ most ∧ most ≤ 65536 ∧ 1 ≤ wide ∧ wide ≤ 16 ∧ 1 ≤ longest ∧ longest ≤ 40 ∧ ∀ (p B I N : Addr) (vb vn : List V) (bs : List (Str × Int)) (ins : List Str) (nds : List Np) (H' : Hp), Rl r H H' → H' p = some (.tup [.ref B, .ref I, .ref N]) → PrD r H' B I N vb vn bs ins nds → PgOk most longest bs ins nds → Q (.ref p) H'
theorem scSomeP : FnScope ["pot", "most", "wide", "longest", "boxes", "names", "inputs", "name", "many"] ["pot", "most", "wide", "longest"] (defScope sSomeP) := ⟨rfl, rfl, rfl, by decide +kernel, rfl, by decide +kernel, by decide +kernel⟩
theorem gSomeP_law_next : GLB sSomeP "_law_next" := by decide +kernel
theorem gSomeP_law_some_boxes : GLB sSomeP "_law_some_boxes" := by decide +kernel
theorem gSomeP_len : GLB sSomeP "len" := by decide +kernel
theorem gSomeP_range : GLB sSomeP "range" := by decide +kernel
theorem ok_someP {f : Addr} {fd : FuncData} (F : Fun K "_law_some_program" "_law_some_program" sSomeP f fd) (m_len : mg "len" = none) (m_range : mg "range" = none) (TK0 : Has P w K mg base "_law_next" ["pot", "many"] 1 spNext) (SB0 : Has P w K mg base "_law_some_boxes" ["pot", "most", "wide"] 2 spSomeB) (NO : Has P w K mg base "_law_one_node" ["pot", "names", "many"] 10 spNode) : FnOk P w K mg base CX0 11 f fd ["pot", "most", "wide", "longest"] spSomeP := by
 refine F.ok scSomeP (fun vs H Q E h => ?_) (fun cdv A outer s H vs Q E hr h => ?_)
 · obtain ⟨r, most, wide, longest, rfl, _⟩ := h
   rfl
 obtain ⟨r, most, wide, longest, rfl, rl, mo1, mo9, w1, w9, g1, g9, q⟩ := h
 have TK := TK0.mono (show 1 ≤ 10 by decide)
 have SB := SB0.mono (show 2 ≤ 10 by decide)
 refine goL ⟨_, (L3.cons (L3.set 4 scSomeP.nd (L3.own SB hr gSomeP_law_some_boxes (L3.k (L3.v 0) (L3.k (L3.v 1) (L3.k (L3.v 2) L3.n)))))
   (L3.cons (L3.set 5 scSomeP.nd (L3.lc [none, none] ["name", "size"] (show CompScope _ (defScope sSomeP) from ⟨rfl, by decide +kernel, by decide +kernel, by decide +kernel⟩) (by rfl) (L3.iL (L3.v 4)) (fun _ _ _ _ _ => ⟨(L3.gtup 2 (L3.gsk (L3.gn 0 (show (["name", "size"] : List Str).Nodup from by decide +kernel)) (L3.gsk (L3.gn 1 (show (["name", "size"] : List Str).Nodup from by decide +kernel)) L3.gsn))), L3.if0, (L3.v 0)⟩)))
   (L3.cons (L3.set 6 scSomeP.nd (L3.lst L3.n))
   (L3.cons (L3.for_ (L3.iL (L3.v 5)) (L3.gn 7 scSomeP.nd) (L3.one (L3.ifs (L3.cmp L3.o_eq (L3.own TK hr gSomeP_law_next (L3.k (L3.v 0) (L3.k L3.int L3.n))) L3.int) (L3.one (L3.ex (L3.insert (L3.v 6) (L3.k (L3.own TK hr gSomeP_law_next (L3.k (L3.v 0) (L3.k (L3.op L3.o_add (L3.callB L3.c_len gSomeP_len m_len PySem.boot_len (L3.k (L3.v 6) L3.n)) L3.int) L3.n))) (L3.k (L3.v 7) L3.n))))) L3.nil)))
   (L3.cons (L3.set 8 scSomeP.nd (L3.op L3.o_add L3.int (L3.own TK hr gSomeP_law_next (L3.k (L3.v 0) (L3.k (L3.v 3) L3.n)))))
   (L3.one (L3.ret (L3.tup (L3.k (L3.v 4) (L3.k (L3.v 6) (L3.k (L3.lc [none, some 0, some 5, some 8] ["k", "pot", "names", "many"] (show CompScope _ (defScope sSomeP) from ⟨rfl, by decide +kernel, by decide +kernel, by decide +kernel⟩) (by rfl) (L3.iR gSomeP_range m_range (L3.k (L3.v 8) L3.n)) (fun _ _ _ _ _ => ⟨(L3.gn 0 (show (["k", "pot", "names", "many"] : List Str).Nodup from by decide +kernel)), L3.if0, (L3.own NO hr (by rfl) (L3.k (L3.v 1) (L3.k (L3.v 2) (L3.k (L3.v 3) L3.n))))⟩)) L3.n))))))))))), ?_⟩
 refine cut1 fun Rk kR => ?_
 refine ⟨_, rfl, _, rfl, _, rfl, r, most, wide, rfl, rl, mo1, mo9, w1, w9, fun B vb bs H1 l1 nB hB0 hB pb ob => ?_⟩
 refine gn_go ?_
 refine kR _ _ ?_
 refine normS [some (.ref r), some (.int most), some (.int wide), some (.int longest), some (.ref B), none, none, none, none] rfl ?_
 have vbl := Paired.length pb
 have b4 := ob.l4
 refine cut1 fun Rk kR => ?_
 refine ⟨_, rfl, B, rfl, ⟨_, SqL.of hB⟩, fun nl hnl => ?_⟩
 have nlr : nl ≠ r := l1.rl.ne hnl
 refine comp_list (xs := vb) (fun (i : Nat) Hx => Same H1 Hx ∧ Hx nl = some (.lst (((bs.map (·.1)).take i).map V.str))) ⟨same_new hnl _, upd_same⟩ (fun i Hx _ z => SqL.of (z.1 _ _ hB)) (fun i x0 Hx hx z => ?_) (fun H2 z => ?_)
 · obtain ⟨sx, gD⟩ := z
   have hil := (List.getElem?_eq_some_iff.mp hx).1
   obtain ⟨b, hbi, pp, rfl, hpp⟩ := Paired.get pb hx
   refine ⟨pp, _, rfl, SqT.of (sx _ _ hpp), rfl, _, _, rfl, _, _, rfl, rfl, ?_⟩
   refine turn0 (A := fun H5 => mApp _ nl _ H5 _) ?_
   refine ⟨_, rfl, _, gD, small1000 (by rw [List.length_map, List.length_take]; omega), comp_end (Pv := fun (i : Nat) Hx => Same H1 Hx ∧ Hx nl = some (.lst (((bs.map (·.1)).take i).map V.str))) (by repeat' constructor) hil ⟨same_put sx hnl, ?_⟩⟩
   rw [upd_same, List.take_add_one, List.getElem?_map, hbi, List.map_append]
   rfl
 obtain ⟨s2, gn⟩ := z
 rw [vbl, List.take_of_length_le (by rw [List.length_map]; exact Nat.le_refl _)] at gn
 have l2 : Rl r H1 H2 := Rl.of l1.rl s2
 have D2 : Dr H2 r nl (bs.map (·.1)) := ⟨l2.rl, nlr, gn, by rw [List.length_map]; exact b4⟩
 refine gn_go ?_
 refine kR _ _ ?_
 refine normS [some (.ref r), some (.int most), some (.int wide), some (.int longest), some (.ref B), some (.ref nl), none, none, none] rfl ?_
 refine cut1 fun Rk kR => ?_
 refine ⟨(by show 0 ≤ sizeLine; decide), fun I hI => ?_⟩
 have Ir : I ≠ r := l2.rl.ne hI
 have lI : Rl r H2 (upd H2 I (.lst [])) := Rl.new l2.rl hI
 have gI : (upd H2 I (.lst [])) I = some (.lst []) := upd_same
 generalize upd H2 I (.lst []) = H3 at lI gI ⊢
 refine gn_go ?_
 refine kR _ _ ?_
 refine normS [some (.ref r), some (.int most), some (.int wide), some (.int longest), some (.ref B), some (.ref nl), some (.ref I), none, none] rfl ?_
 refine cut1 fun Rk kR => ?_
 refine ⟨_, rfl, nl, rfl, ⟨_, SqL.of (D2.go lI).hn⟩, ?_⟩
 refine for_list (xs := (bs.map (·.1)).map V.str) (fun (i : Nat) (σ : L2.St) (Hy : Hp) => (∃ o7, σ = [some (.ref r), some (.int most), some (.int wide), some (.int longest), some (.ref B), some (.ref nl), some (.ref I), o7, none]) ∧ Rl r H2 Hy ∧ ∃ ins, Hy I = some (.lst (ins.map V.str)) ∧ ins.Nodup ∧ ins.length ≤ i ∧ ∀ y ∈ ins, y ∈ (bs.map (·.1)).take i) ⟨⟨_, rfl⟩, lI, [], gI, List.nodup_nil, Nat.le_refl _, fun y hy => nomatch hy⟩ (fun i σ Hy _ z => SqL.of (D2.go z.2.1).hn) (fun i x0 σ Hy hx z => ?_) (fun σ Hy z => ?_)
 · obtain ⟨⟨o7, rfl⟩, ly, ins, gi, ni, il, sub⟩ := z
   obtain ⟨x, hxi, rfl⟩ := map_get hx
   have inl : i < (bs.map (·.1)).length := (List.getElem?_eq_some_iff.mp hxi).1
   have nl4 := D2.l4
   have up : ∀ y, y ∈ (bs.map (·.1)).take i → y ∈ (bs.map (·.1)).take (i + 1) := fun y hy => by rw [List.take_add_one]; exact List.mem_append.mpr (.inl hy)
   refine gn_go ?_
   refine normS [some (.ref r), some (.int most), some (.int wide), some (.int longest), some (.ref B), some (.ref nl), some (.ref I), some (.str x), none] rfl ?_
   refine ⟨_, rfl, r, 2, rfl, ly.rl, by decide, by decide, fun j H4 j0 j1 l4 => ⟨rfl, _, rfl, ?_⟩⟩
   have gi4 := l4.k _ _ Ir gi
   refine ite2 (fun _ => ?_) (fun _ => ?_)
   · refine ⟨_, rfl, .inl ⟨rfl, _, SqL.of gi4⟩, _, rfl, _, rfl, I, _, rfl, .inl (SqL.of gi4), _, _, rfl, rfl, r, _, rfl, l4.rl, by rw [List.length_map]; omega, by rw [List.length_map]; exact Int.lt_of_le_of_lt (show _ ≤ (5 : Int) by omega) (by decide), fun k H5 k0 k1 l5 => ?_⟩
     rw [List.length_map] at k1
     have gi5 := l5.k _ _ Ir gi4
     have nx : x ∉ ins := fun z => by
       obtain ⟨j, hj, e⟩ := List.getElem_of_mem (sub x z)
       rw [List.length_take] at hj
       rw [List.getElem_take] at e
       have e1 : (bs.map (·.1))[j]? = some x := by rw [List.getElem?_eq_getElem (by omega), e]
       have := (List.getElem?_inj (by omega) ob.nd).mp (e1.trans hxi.symm)
       omega
     have l45 := l4.trans l5
     refine ⟨_, rfl, I, _, _, k, rfl, rfl, gi5, k0, by rw [List.length_map]; omega, by rw [List.length_map]; omega, ⟨_, rfl⟩, (ly.trans l45).put Ir hI, ins.take k.toNat ++ x :: ins.drop k.toNat, ?_, ins_nd ni nx _, ?_, fun y hy => ?_⟩
     · rw [upd_same, List.map_append, List.map_take, List.map_cons, List.map_drop]
     · rw [List.length_append, List.length_cons, List.length_take, List.length_drop]
       omega
     · rcases ins_mem hy with z | z
       · rw [z, List.take_add_one, hxi]; exact List.mem_append.mpr (.inr List.mem_cons_self)
       · exact up y (sub y z)
   · exact ⟨⟨_, rfl⟩, ly.trans l4, ins, gi4, ni, by omega, fun y hy => up y (sub y hy)⟩
 obtain ⟨⟨o7, rfl⟩, ly, ins, gi, ni, il, sub⟩ := z
 rw [List.length_map, List.take_length] at sub
 refine kR _ _ ?_
 refine cut1 fun Rk kR => ?_
 refine ⟨_, rfl, _, rfl, r, longest, rfl, ly.rl, by omega, Int.lt_of_le_of_lt g9 (by decide), fun k H4 k0 k1 l4 => ⟨_, _, rfl, rfl, ?_⟩⟩
 obtain ⟨m, em⟩ : ∃ m, m = 1 + k := ⟨_, rfl⟩
 refine gn_go ?_
 refine kR _ _ ?_
 refine normS [some (.ref r), some (.int most), some (.int wide), some (.int longest), some (.ref B), some (.ref nl), some (.ref I), o7, some (.int m)] (by rw [em]; rfl) ?_
 have l24 := ly.trans l4
 have D4 := D2.go l24
 refine ⟨_, rfl, _, rfl, _, rfl, m, rfl, by omega, by omega, fun N hN => ?_⟩
 have Nr : N ≠ r := l4.rl.ne hN
 refine comp_range (lo := 0) (n := m.toNat) (fun (i : Nat) Hx => Rl r H4 Hx ∧ ∃ vn nds, Hx N = some (.lst vn) ∧ vn.length = i ∧ Paired (NpAt Hx) vn nds ∧ ∀ e ∈ nds, NpOk (bs.map (·.1)) m e) ⟨Rl.new l4.rl hN, [], [], upd_same, rfl, .nil, fun _ z => nomatch z⟩ (fun i Hx hi z => ?_) (fun Hx z => ?_)
 · obtain ⟨lx, vn, nds, gN, vl, pn, on⟩ := z
   refine gn_go ?_
   refine turn0 (A := fun H5 => mApp _ N _ H5 _) ?_
   refine ⟨_, rfl, _, rfl, _, rfl, r, nl, m, _, rfl, D4.go lx, by omega, by omega, fun v e H5 l5 nv ok => ?_⟩
   have gN5 := l5.k _ _ Nr gN
   refine ⟨_, gN5, small1000 (by omega), comp_end (Pv := fun (i : Nat) Hx => Rl r H4 Hx ∧ ∃ vn nds, Hx N = some (.lst vn) ∧ vn.length = i ∧ Paired (NpAt Hx) vn nds ∧ ∀ e ∈ nds, NpOk (bs.map (·.1)) m e) (by repeat' constructor) hi ⟨Rl.put (lx.trans l5) Nr hN, vn ++ [v], nds ++ [e], upd_same, by rw [List.length_append, vl]; rfl, ?_, fun e' he' => ?_⟩⟩
   · exact Paired.snoc (Paired.mapP pn fun _ _ z => NpAt.keep ((Rl.tk lx.rl l5).trans (TW.TK.lst gN5)) z) (NpAt.keep (TW.TK.lst gN5) nv)
   · rcases List.mem_append.mp he' with z | z
     · exact on e' z
     · rw [List.mem_singleton.mp z]; exact ok
 obtain ⟨lx, vn, nds, gN, vl, pn, on⟩ := z
 have ndl := Paired.length pn
 refine ⟨(by show 3 ≤ sizeLine; decide), fun p hp => ?_⟩
 have lp : Rl r Hx (upd Hx p (.tup [.ref B, .ref I, .ref N])) := Rl.new lx.rl hp
 have l1x : Rl r H1 Hx := l2.trans (l24.trans lx)
 have l2x := l24.trans lx
 have em2 : m = (nds.length : Int) := by omega
 refine q p B I N vb vn bs ins nds _ (l1.trans (l1x.trans lp)) upd_same (PrD.go ⟨l1x.k _ _ nB hB, (l4.trans lx).k _ _ Ir gi, gN, Paired.mapP pb fun _ _ z => Tp.keep (Rl.tk l1.rl l1x) z, pn, nB, Ir, Nr⟩ lx.rl lp) ⟨ob, ni, sub, by omega, by omega, fun e he => by rw [← em2]; exact on e he⟩
theorem has_someP (s : Src K mg "_law_some_program" sSomeP) (m_len : mg "len" = none) (m_range : mg "range" = none) (TK0 : Has P w K mg base "_law_next" ["pot", "many"] 1 spNext) (SB0 : Has P w K mg base "_law_some_boxes" ["pot", "most", "wide"] 2 spSomeB) (NO : Has P w K mg base "_law_one_node" ["pot", "names", "many"] 10 spNode) : Has P w K mg base "_law_some_program" ["pot", "most", "wide", "longest"] 11 spSomeP :=
  let ⟨f, fd, F, m⟩ := s
  ⟨f, fd, ok_someP F m_len m_range TK0 SB0 NO, F.kp, bnd4 F fun _ _ _ _ _ _ _ _ _ _ => rfl, m⟩
abbrev sCopy : Stmt := top 47
abbrev sLed : Stmt := top 48
def spCopy : Sp := fun vs H Q _ => ∃ (p B I N : Addr) (vb vi vn : List V), vs = [.ref p] ∧ H p = some (.tup [.ref B, .ref I, .ref N]) ∧ H B = some (.lst vb) ∧ H I = some (.lst vi) ∧ H N = some (.lst vn) ∧ ∀ (p' B' I' N' : Addr) (H' : Hp), Same H H' → H' p' = some (.tup [.ref B', .ref I', .ref N']) → H' B' = some (.lst vb) → H' I' = some (.lst vi) → H' N' = some (.lst vn) → H B' = none → H I' = none → H N' = none → Q (.ref p') H'
theorem scCopy : FnScope ["program"] ["program"] (defScope sCopy) := ⟨rfl, rfl, rfl, by decide +kernel, rfl, by decide +kernel, by decide +kernel⟩
theorem gCopy_list : GLB sCopy "list" := by decide +kernel
theorem ok_copy {f : Addr} {fd : FuncData} (F : Fun K "_law_copy" "_law_copy" sCopy f fd) (m_list : mg "list" = none) : FnOk P w K mg base CX0 1 f fd ["program"] spCopy := by
 refine F.ok scCopy (fun vs H Q E h => ?_) (fun cdv A outer s H vs Q E hr h => ?_)
 · obtain ⟨p, B, I, N, vb, vi, vn, rfl, _⟩ := h
   rfl
 obtain ⟨p, B, I, N, vb, vi, vn, rfl, hp, hB, hI, hN, q⟩ := h
 refine goL ⟨_, (L3.one (L3.ret (L3.tup (L3.k (L3.callT L3.c_list gCopy_list m_list (by decide +kernel) (L3.k (L3.ix L3.ixT (L3.v 0) L3.int) L3.n)) (L3.k (L3.callT L3.c_list gCopy_list m_list (by decide +kernel) (L3.k (L3.ix L3.ixT (L3.v 0) L3.int) L3.n)) (L3.k (L3.callT L3.c_list gCopy_list m_list (by decide +kernel) (L3.k (L3.ix L3.ixT (L3.v 0) L3.int) L3.n)) L3.n)))))), ?_⟩
 refine ⟨_, rfl, p, _, _, _, rfl, rfl, SqT.of hp, rfl, B, _, rfl, .inl (SqL.of hB), fun B' hB' => ?_⟩
 obtain ⟨H1, sb, gb, zz⟩ := layO hB' (.lst vb)
 rw [zz]; clear zz
 refine ⟨_, rfl, p, _, _, _, rfl, rfl, SqT.of (sb _ _ hp), rfl, I, _, rfl, .inl (SqL.of (sb _ _ hI)), fun I' hI' => ?_⟩
 obtain ⟨H2, si, gi, zz⟩ := layO hI' (.lst vi)
 rw [zz]; clear zz
 have sbi := same_trans sb si
 refine ⟨_, rfl, p, _, _, _, rfl, rfl, SqT.of (sbi _ _ hp), rfl, N, _, rfl, .inl (SqL.of (sbi _ _ hN)), fun N' hN' => ?_⟩
 obtain ⟨H3, sn, gn, zz⟩ := layO hN' (.lst vn)
 rw [zz]; clear zz
 refine ⟨(by show 3 ≤ sizeLine; decide), fun p' hp' => ?_⟩
 have s4 := same_new hp' (.tup [.ref B', .ref I', .ref N'])
 exact q p' B' I' N' _ (same_trans sbi (same_trans sn s4)) upd_same (s4 _ _ (sn _ _ (si _ _ gb))) (s4 _ _ (sn _ _ gi)) (s4 _ _ gn) hB' (none_of_same sb hI') (none_of_same sbi hN')
theorem has_copy (s : Src K mg "_law_copy" sCopy) (m_list : mg "list" = none) : Has P w K mg base "_law_copy" ["program"] 1 spCopy :=
  let ⟨f, fd, F, m⟩ := s
  ⟨f, fd, ok_copy F m_list, F.kp, bnd1 F fun _ _ _ _ _ _ _ => rfl, m⟩
def Np.led : Np → List Int → Np
  | .put x s n, l => .put x s ((l[0]?).getD n)
  | .say s n, l => .say s ((l[0]?).getD n)
  | .test c n o, l => .test c ((l[0]?).getD n) ((l[1]?).getD o)
  | .pick x n, l => .pick x ((l[0]?).getD n)
  | .fin, _ => .fin
def spLed : Sp := fun vs H Q _ => ∃ (v : V) (l : Addr) (e : Np) (cs : List Int) (ls : List Int), vs = [v, .ref l] ∧ NpAt H v e ∧ e.isN ∧ H l = some (.lst (cs.map V.int)) ∧ ls.length = e.leads.length ∧ (∀ (i : Nat) (a b : Int), e.leads[i]? = some a → ls[i]? = some b → 0 ≤ a ∧ cs[a.toNat]? = some b) ∧ ∀ (v' : V) (H' : Hp), Same H H' → NpAt H' v' (e.led ls) → Q v' H'
theorem at_cs {cs : List Int} {a b : Int} (h0 : 0 ≤ a) (h : cs[a.toNat]? = some b) : atI (cs.map V.int) a = some (.int b) := by
  have e : a = ((a.toNat : Nat) : Int) := by omega
  have := atI_nat (xs := cs.map V.int) (j := a.toNat) (v := .int b) (by rw [List.getElem?_map, h]; rfl)
  rw [← e] at this
  exact this
theorem cut_2 (a b : V) (r : List V) : cutV (a :: b :: r) none (some 2) = [a, b] := by
  rw [show (2 : Int) = ((2 : Nat) : Int) from rfl, cut_to _ (by simp)]
  rfl
theorem cutM (xs : List V) (y : V) : cutV (xs ++ [y]) none (some (-1)) = xs := by
  unfold cutV
  have e0 : HT.sIx (xs ++ [y]).length 0 none = 0 := rfl
  have e1 : HT.sIx (xs ++ [y]).length (xs ++ [y]).length (some (-1)) = xs.length := by
    rw [List.length_append]
    unfold HT.sIx
    simp
    omega
  rw [e0, e1, List.drop_zero, Nat.sub_zero, List.take_left]
theorem scLed : FnScope ["node", "change"] ["node", "change"] (defScope sLed) := ⟨rfl, rfl, rfl, by decide +kernel, rfl, by decide +kernel, by decide +kernel⟩
theorem ok_led {f : Addr} {fd : FuncData} (F : Fun K "_law_led" "_law_led" sLed f fd)  : FnOk P w K mg base CX0 1 f fd ["node", "change"] spLed := by
 refine F.ok scLed (fun vs H Q E h => ?_) (fun cdv A outer s H vs Q E hr h => ?_)
 · obtain ⟨v, l, e, cs, ls, rfl, _⟩ := h
   rfl
 obtain ⟨v, l, e, cs, ls, rfl, na, is, hl, ll, hcs, q⟩ := h
 refine goL ⟨_, (L3.cons (L3.ifs (L3.cmp L3.o_eq (L3.ix L3.ixT (L3.v 0) L3.int) L3.str) (L3.one (L3.ret (L3.op L3.o_catT (L3.slT2 (L3.v 0) L3.int) (L3.tup (L3.k (L3.ix L3.ixL (L3.v 1) (L3.ix L3.ixT (L3.v 0) L3.int)) (L3.k (L3.ix L3.ixL (L3.v 1) (L3.ix L3.ixT (L3.v 0) L3.int)) L3.n)))))) L3.nil)
   (L3.cons (L3.ifs (L3.cmp L3.o_eq (L3.ix L3.ixT (L3.v 0) L3.int) L3.str) (L3.one (L3.ret (L3.v 0))) L3.nil)
   (L3.one (L3.ret (L3.op L3.o_catT (L3.slT2 (L3.v 0) (L3.neg L3.int)) (L3.tup (L3.k (L3.ix L3.ixL (L3.v 1) (L3.ix L3.ixT (L3.v 0) (L3.neg L3.int))) L3.n))))))), ?_⟩
 refine cut1 fun Rk kR => ?_
 match e, na, is, ll, hcs, q with
 | .put x e n, ⟨u, ⟨p, ev, hp⟩, a⟩, is, ll, hcs, q =>
   subst ev
   match ls, ll, hcs, q with
   | [m], _, hcs, q =>
     have hl0 := hcs 0 n m rfl rfl
     have hat := at_cs hl0.1 hl0.2
     refine ⟨_, rfl, p, _, _, _, rfl, rfl, SqT.of hp, rfl, rfl, _, rfl, iteF' (by decide) (kR _ _ ?_)⟩
     clear kR
     refine cut1 fun Rk kR => ?_
     refine ⟨_, rfl, p, _, _, _, rfl, rfl, SqT.of hp, rfl, rfl, _, rfl, iteF' (by decide) (kR _ _ ?_)⟩
     refine ⟨_, rfl, _, rfl, _, rfl, p, _, rfl, SqT.of hp, ?_, fun a1 ha1 => ?_⟩
     · rintro ⟨_, z⟩
       exact absurd (show HT.sIx 4 4 (some (-1)) = 4 from z) (by decide)
     rw [show ([.str "put", .str x, u, .int n] : List V) = [.str "put", .str x, u] ++ [.int n] from rfl, cutM]
     obtain ⟨H1, s1, g1, zz⟩ := layO ha1 (.tup [.str "put", .str x, u])
     rw [zz]; clear zz
     refine ⟨_, rfl, _, rfl, _, rfl, p, _, _, _, rfl, rfl, SqT.of (s1 _ _ hp), rfl, l, _, _, _, rfl, rfl, SqL.of (s1 _ _ hl), hat, (by show 1 ≤ sizeLine; decide), fun a2 ha2 => ?_⟩
     obtain ⟨H2, s2, g2, zz⟩ := layO ha2 (.tup [.int m])
     rw [zz]; clear zz
     refine ⟨a1, a2, _, _, rfl, rfl, SqT.of (s2 _ _ g1), SqT.of g2, (fun z => nomatch z), (by show 4 ≤ sizeLine; decide), (fun z => nomatch z), fun _ p' hp' => ?_⟩
     have s3 := same_new hp' (.tup ([.str "put", .str x, u] ++ [.int m]))
     exact q (.ref p') _ (same_trans s1 (same_trans s2 s3)) ⟨u, ⟨p', rfl, upd_same⟩, a.keep (Same.tk (same_trans s1 (same_trans s2 s3)))⟩
 | .say e n, ⟨u, ⟨p, ev, hp⟩, a⟩, is, ll, hcs, q =>
   subst ev
   match ls, ll, hcs, q with
   | [m], _, hcs, q =>
     have hl0 := hcs 0 n m rfl rfl
     have hat := at_cs hl0.1 hl0.2
     refine ⟨_, rfl, p, _, _, _, rfl, rfl, SqT.of hp, rfl, rfl, _, rfl, iteF' (by decide) (kR _ _ ?_)⟩
     clear kR
     refine cut1 fun Rk kR => ?_
     refine ⟨_, rfl, p, _, _, _, rfl, rfl, SqT.of hp, rfl, rfl, _, rfl, iteF' (by decide) (kR _ _ ?_)⟩
     refine ⟨_, rfl, _, rfl, _, rfl, p, _, rfl, SqT.of hp, ?_, fun a1 ha1 => ?_⟩
     · rintro ⟨_, z⟩
       exact absurd (show HT.sIx 3 3 (some (-1)) = 3 from z) (by decide)
     rw [show ([.str "say", u, .int n] : List V) = [.str "say", u] ++ [.int n] from rfl, cutM]
     obtain ⟨H1, s1, g1, zz⟩ := layO ha1 (.tup [.str "say", u])
     rw [zz]; clear zz
     refine ⟨_, rfl, _, rfl, _, rfl, p, _, _, _, rfl, rfl, SqT.of (s1 _ _ hp), rfl, l, _, _, _, rfl, rfl, SqL.of (s1 _ _ hl), hat, (by show 1 ≤ sizeLine; decide), fun a2 ha2 => ?_⟩
     obtain ⟨H2, s2, g2, zz⟩ := layO ha2 (.tup [.int m])
     rw [zz]; clear zz
     refine ⟨a1, a2, _, _, rfl, rfl, SqT.of (s2 _ _ g1), SqT.of g2, (fun z => nomatch z), (by show 3 ≤ sizeLine; decide), (fun z => nomatch z), fun _ p' hp' => ?_⟩
     have s3 := same_new hp' (.tup ([.str "say", u] ++ [.int m]))
     exact q (.ref p') _ (same_trans s1 (same_trans s2 s3)) ⟨u, ⟨p', rfl, upd_same⟩, a.keep (Same.tk (same_trans s1 (same_trans s2 s3)))⟩
 | .test e n o, ⟨u, ⟨p, ev, hp⟩, a⟩, is, ll, hcs, q =>
   subst ev
   match ls, ll, hcs, q with
   | [m, m2], _, hcs, q =>
     have hl0 := hcs 0 n m rfl rfl
     have hl1 := hcs 1 o m2 rfl rfl
     have hat := at_cs hl0.1 hl0.2
     have hat1 := at_cs hl1.1 hl1.2
     refine ⟨_, rfl, p, _, _, _, rfl, rfl, SqT.of hp, rfl, rfl, _, rfl, iteT ?_⟩
     refine ⟨_, rfl, _, rfl, p, _, rfl, SqT.of hp, ?_, fun a1 ha1 => ?_⟩
     · rintro ⟨_, z⟩
       exact absurd (show HT.sIx 4 4 (some 2) = 4 from z) (by decide)
     rw [cut_2]
     obtain ⟨H1, s1, g1, zz⟩ := layO ha1 (.tup [.str "test", u])
     rw [zz]; clear zz
     refine ⟨_, rfl, _, rfl, p, _, _, _, rfl, rfl, SqT.of (s1 _ _ hp), rfl, l, _, _, _, rfl, rfl, SqL.of (s1 _ _ hl), hat, _, rfl, _, rfl, p, _, _, _, rfl, rfl, SqT.of (s1 _ _ hp), rfl, l, _, _, _, rfl, rfl, SqL.of (s1 _ _ hl), hat1, (by show 2 ≤ sizeLine; decide), fun a2 ha2 => ?_⟩
     obtain ⟨H2, s2, g2, zz⟩ := layO ha2 (.tup [.int m, .int m2])
     rw [zz]; clear zz
     refine ⟨a1, a2, _, _, rfl, rfl, SqT.of (s2 _ _ g1), SqT.of g2, (fun z => nomatch z), (by show 4 ≤ sizeLine; decide), (fun z => nomatch z), fun _ p' hp' => ?_⟩
     have s3 := same_new hp' (.tup ([.str "test", u] ++ [.int m, .int m2]))
     exact q (.ref p') _ (same_trans s1 (same_trans s2 s3)) ⟨u, ⟨p', rfl, upd_same⟩, a.keep (Same.tk (same_trans s1 (same_trans s2 s3)))⟩
 | .fin, ⟨p, ev, hp⟩, is, ll, hcs, q =>
   subst ev
   refine ⟨_, rfl, p, _, _, _, rfl, rfl, SqT.of hp, rfl, rfl, _, rfl, iteF' (by decide) (kR _ _ ?_)⟩
   clear kR
   refine cut1 fun Rk kR => ?_
   refine ⟨_, rfl, p, _, _, _, rfl, rfl, SqT.of hp, rfl, rfl, _, rfl, iteT ?_⟩
   exact ⟨_, rfl, q _ _ (same_refl _) ⟨p, rfl, hp⟩⟩
theorem has_led (s : Src K mg "_law_led" sLed)  : Has P w K mg base "_law_led" ["node", "change"] 1 spLed :=
  let ⟨f, fd, F, m⟩ := s
  ⟨f, fd, ok_led F , F.kp, bnd2 F fun _ _ _ _ _ _ _ _ => rfl, m⟩
abbrev sLeads : Stmt := top 15
def spLeads : Sp := fun vs H Q _ => ∃ (v : V) (nd : Np), vs = [v] ∧ NpAt H v nd ∧ ∀ l H', Same H H' → H' l = some (.lst (nd.leads.map V.int)) → Q (.ref l) H'
theorem scLeads : FnScope ["node"] ["node"] (defScope sLeads) := ⟨rfl, rfl, rfl, by decide +kernel, rfl, by decide +kernel, by decide +kernel⟩
theorem ok_leads {f : Addr} {fd : FuncData} (F : Fun K "leads_of" "leads_of" sLeads f fd)  : FnOk P w K mg base CX0 1 f fd ["node"] spLeads := by
 refine F.ok scLeads (fun vs H Q E h => ?_) (fun cdv A outer s H vs Q E hr h => ?_)
 · obtain ⟨v, nd, rfl, _⟩ := h
   rfl
 obtain ⟨v, nd, rfl, hn, q⟩ := h
 refine goL ⟨_, (L3.cons (L3.ifs (L3.cmp L3.o_eq (L3.ix L3.ixT (L3.v 0) L3.int) L3.str) (L3.one (L3.ret (L3.lst L3.n))) L3.nil)
   (L3.cons (L3.ifs (L3.cmp L3.o_eq (L3.ix L3.ixT (L3.v 0) L3.int) L3.str) (L3.one (L3.ret (L3.lst (L3.k (L3.ix L3.ixT (L3.v 0) L3.int) L3.n)))) L3.nil)
   (L3.cons (L3.ifs (L3.cmp L3.o_in (L3.ix L3.ixT (L3.v 0) L3.int) (L3.tup (L3.k L3.str (L3.k L3.str L3.n))) (by rfl)) (L3.one (L3.ret (L3.lst (L3.k (L3.ix L3.ixT (L3.v 0) L3.int) L3.n)))) L3.nil)
   (L3.one (L3.ret (L3.lst (L3.k (L3.ix L3.ixT (L3.v 0) L3.int) (L3.k (L3.ix L3.ixT (L3.v 0) L3.int) L3.n)))))))), ?_⟩
 cases nd with
 | fin =>
   obtain ⟨x, rfl, hx⟩ := hn
   refine ⟨_, rfl, x, _, _, _, rfl, rfl, SqT.of hx, rfl, rfl, _, rfl, ?_⟩
   refine ite2 (fun _ => ?_) (fun c => absurd (decide_eq_true rfl) c)
   exact ⟨(by show 0 ≤ sizeLine; decide), fun l hl => q l _ (same_new hl _) upd_same⟩
 | put nm e n =>
   obtain ⟨u, ⟨x, rfl, hx⟩, eu⟩ := hn
   refine ⟨_, rfl, x, _, _, _, rfl, rfl, SqT.of hx, rfl, rfl, _, rfl, ?_⟩
   refine ite2 (fun c => absurd (of_decide_eq_true c) (by decide)) (fun _ => ?_)
   refine ⟨_, rfl, x, _, _, _, rfl, rfl, SqT.of hx, rfl, rfl, _, rfl, ?_⟩
   refine ite2 (fun _ => ?_) (fun c => absurd (decide_eq_true rfl) c)
   exact ⟨_, rfl, x, _, _, _, rfl, rfl, SqT.of hx, rfl, (by show 1 ≤ sizeLine; decide), fun l hl => q l _ (same_new hl _) upd_same⟩
 | say e n =>
   obtain ⟨u, ⟨x, rfl, hx⟩, eu⟩ := hn
   refine ⟨_, rfl, x, _, _, _, rfl, rfl, SqT.of hx, rfl, rfl, _, rfl, ?_⟩
   refine ite2 (fun c => absurd (of_decide_eq_true c) (by decide)) (fun _ => ?_)
   refine ⟨_, rfl, x, _, _, _, rfl, rfl, SqT.of hx, rfl, rfl, _, rfl, ?_⟩
   refine ite2 (fun c => absurd (of_decide_eq_true c) (by decide)) (fun _ => ?_)
   refine ⟨_, rfl, x, _, _, _, rfl, rfl, SqT.of hx, rfl, (by show 2 ≤ sizeLine; decide), fun t0 ht0 => ⟨t0, _, rfl, .inr (SqT.of upd_same), rfl, rfl, _, rfl, ?_⟩⟩
   have s0 := same_new ht0 (.tup [.str "say", .str "pick"])
   generalize upd H t0 (.tup [.str "say", .str "pick"]) = H0 at s0 ⊢
   have hx := s0 _ _ hx
   refine ite2 (fun _ => ?_) (fun c => absurd (show inV (.str "say") _ = true by decide) c)
   exact ⟨_, rfl, x, _, _, _, rfl, rfl, SqT.of hx, rfl, (by show 1 ≤ sizeLine; decide), fun l hl => q l _ (same_trans s0 (same_new hl _)) upd_same⟩
 | pick nm n =>
   obtain ⟨x, rfl, hx⟩ := hn
   refine ⟨_, rfl, x, _, _, _, rfl, rfl, SqT.of hx, rfl, rfl, _, rfl, ?_⟩
   refine ite2 (fun c => absurd (of_decide_eq_true c) (by decide)) (fun _ => ?_)
   refine ⟨_, rfl, x, _, _, _, rfl, rfl, SqT.of hx, rfl, rfl, _, rfl, ?_⟩
   refine ite2 (fun c => absurd (of_decide_eq_true c) (by decide)) (fun _ => ?_)
   refine ⟨_, rfl, x, _, _, _, rfl, rfl, SqT.of hx, rfl, (by show 2 ≤ sizeLine; decide), fun t0 ht0 => ⟨t0, _, rfl, .inr (SqT.of upd_same), rfl, rfl, _, rfl, ?_⟩⟩
   have s0 := same_new ht0 (.tup [.str "say", .str "pick"])
   generalize upd H t0 (.tup [.str "say", .str "pick"]) = H0 at s0 ⊢
   have hx := s0 _ _ hx
   refine ite2 (fun _ => ?_) (fun c => absurd (show inV (.str "pick") _ = true by decide) c)
   exact ⟨_, rfl, x, _, _, _, rfl, rfl, SqT.of hx, rfl, (by show 1 ≤ sizeLine; decide), fun l hl => q l _ (same_trans s0 (same_new hl _)) upd_same⟩
 | test c n o =>
   obtain ⟨u, ⟨x, rfl, hx⟩, eu⟩ := hn
   refine ⟨_, rfl, x, _, _, _, rfl, rfl, SqT.of hx, rfl, rfl, _, rfl, ?_⟩
   refine ite2 (fun c => absurd (of_decide_eq_true c) (by decide)) (fun _ => ?_)
   refine ⟨_, rfl, x, _, _, _, rfl, rfl, SqT.of hx, rfl, rfl, _, rfl, ?_⟩
   refine ite2 (fun c => absurd (of_decide_eq_true c) (by decide)) (fun _ => ?_)
   refine ⟨_, rfl, x, _, _, _, rfl, rfl, SqT.of hx, rfl, (by show 2 ≤ sizeLine; decide), fun t0 ht0 => ⟨t0, _, rfl, .inr (SqT.of upd_same), rfl, rfl, _, rfl, ?_⟩⟩
   have s0 := same_new ht0 (.tup [.str "say", .str "pick"])
   generalize upd H t0 (.tup [.str "say", .str "pick"]) = H0 at s0 ⊢
   have hx := s0 _ _ hx
   refine ite2 (fun c => absurd c (by decide)) (fun _ => ?_)
   exact ⟨_, rfl, x, _, _, _, rfl, rfl, SqT.of hx, rfl, _, rfl, x, _, _, _, rfl, rfl, SqT.of hx, rfl, (by show 2 ≤ sizeLine; decide), fun l hl => q l _ (same_trans s0 (same_new hl _)) upd_same⟩
theorem has_leads (s : Src K mg "leads_of" sLeads)  : Has P w K mg base "leads_of" ["node"] 1 spLeads :=
  let ⟨f, fd, F, m⟩ := s
  ⟨f, fd, ok_leads F , F.kp, bnd1 F fun _ _ _ _ _ _ _ => rfl, m⟩
def TpK (K : PySem.W.Frag) (H : Hp) (v : V) (xs : List V) : Prop := ∃ p, v = .ref p ∧ (H p = some (.tup xs) ∨ ∀ H', SqT K H' p xs)
theorem TpK.keep {K : PySem.W.Frag} {H H' : Hp} {v : V} {xs : List V} (k : TK H H') (h : TpK K H v xs) : TpK K H' v xs := let ⟨p, e, z⟩ := h; ⟨p, e, z.elim (fun z => .inl (k _ _ z)) .inr⟩
theorem Tp.k {K : PySem.W.Frag} {H : Hp} {v : V} {xs : List V} (h : Tp H v xs) : TpK K H v xs := let ⟨p, e, z⟩ := h; ⟨p, e, .inl z⟩
def EK (K : PySem.W.Frag) (H : Hp) : V → E → Prop
  | v, .num n => TpK K H v [.str "number", .int n]
  | v, .box t x => Tp H v [.str t, .str x]
  | v, .yes => TpK K H v [.str "yes"]
  | v, .nt a => ∃ x, TpK K H v [.str "not", x] ∧ EK K H x a
  | v, .two k a b => ∃ x y, TpK K H v [.str k.str, x, y] ∧ EK K H x a ∧ EK K H y b
theorem EK.keep {K : PySem.W.Frag} {H H' : Hp} (k : TK H H') : ∀ {e : E} {v : V}, EK K H v e → EK K H' v e
  | .num _, _, h => TpK.keep k h
  | .box _ _, _, h => Tp.keep k h
  | .yes, _, h => TpK.keep k h
  | .nt _, _, ⟨x, h, a⟩ => ⟨x, h.keep k, EK.keep k a⟩
  | .two _ _ _, _, ⟨x, y, h, a, b⟩ => ⟨x, y, h.keep k, EK.keep k a, EK.keep k b⟩
inductive Bt : E → List E → Prop
  | one (e : E) : Bt e [e]
  | two {a b : E} {xs ys : List E} : Bt a xs → Bt b ys → Bt (.two .both a b) (xs ++ ys)
abbrev sameE (x : Str) : E := .two .same (.box "mine" x) (.box "yours" x)
theorem Paired.take {α β : Type} {F : α → β → Prop} : ∀ {a : List α} {b : List β} (n : Nat), Paired F a b → Paired F (a.take n) (b.take n)
  | _, _, 0, _ => by rw [List.take_zero, List.take_zero]; exact .nil
  | _, _, _ + 1, .nil => .nil
  | _, _, n + 1, .cons r t => .cons r (Paired.take n t)
theorem Paired.drop {α β : Type} {F : α → β → Prop} : ∀ {a : List α} {b : List β} (n : Nat), Paired F a b → Paired F (a.drop n) (b.drop n)
  | _, _, 0, h => by rw [List.drop_zero, List.drop_zero]; exact h
  | _, _, _ + 1, .nil => .nil
  | _, _, n + 1, .cons _ t => Paired.drop n t
abbrev sRNN : Stmt := top 23
abbrev sLedA : Stmt := top 24
abbrev sWithN : Stmt := top 25
abbrev sJoined : Stmt := top 18
abbrev sAllOf : Stmt := top 19
abbrev sBoxS : Stmt := top 26
abbrev sAllS : Stmt := top 27
abbrev sLevE : Stmt := top 28
theorem cut_hi (xs : List V) (k : Nat) (h : k ≤ xs.length) : cutV xs none (some (k : Int)) = xs.take k := by
  unfold cutV
  have e2 : HT.sIx xs.length xs.length (some ((k : Nat) : Int)) = min k xs.length := HT.sIx_nat _ _ _
  rw [e2, HT.sIx_none, List.drop_zero, Nat.sub_zero, Nat.min_eq_left h]
def spLedA : Sp := fun vs H Q _ => ∃ (v : V) (l : Addr) (e : Np) (ls : List Int), vs = [v, .ref l] ∧ NpAt H v e ∧ H l = some (.lst (ls.map V.int)) ∧ ls.length = e.leads.length ∧ ∀ (v' : V) (H' : Hp), Same H H' → NpAt H' v' (e.led ls) → Q v' H'
theorem NpAt.parts {H : Hp} : ∀ {e : Np} {v : V}, NpAt H v e → ∃ (p : Addr) (as : List V), v = .ref p ∧ H p = some (.tup (as ++ e.leads.map V.int)) ∧ as ≠ [] ∧ as.length ≤ 3 ∧ ∀ (ls : List Int) (H' : Hp) (p' : Addr), TK H H' → ls.length = e.leads.length → H' p' = some (.tup (as ++ ls.map V.int)) → NpAt H' (.ref p') (e.led ls)
  | .put x s n, _, ⟨u, ⟨p, rfl, h⟩, a⟩ => ⟨p, [.str "put", .str x, u], rfl, h, (fun z => nomatch z), (by show 3 ≤ 3; decide), fun ls H' p' k hl h' => by
    match ls, hl with
    | [m], _ => exact ⟨u, ⟨p', rfl, h'⟩, a.keep k⟩⟩
  | .say s n, _, ⟨u, ⟨p, rfl, h⟩, a⟩ => ⟨p, [.str "say", u], rfl, h, (fun z => nomatch z), (by show 2 ≤ 3; decide), fun ls H' p' k hl h' => by
    match ls, hl with
    | [m], _ => exact ⟨u, ⟨p', rfl, h'⟩, a.keep k⟩⟩
  | .test c n o, _, ⟨u, ⟨p, rfl, h⟩, a⟩ => ⟨p, [.str "test", u], rfl, h, (fun z => nomatch z), (by show 2 ≤ 3; decide), fun ls H' p' k hl h' => by
    match ls, hl with
    | [m, m2], _ => exact ⟨u, ⟨p', rfl, h'⟩, a.keep k⟩⟩
  | .pick x n, _, ⟨p, rfl, h⟩ => ⟨p, [.str "pick", .str x], rfl, h, (fun z => nomatch z), (by show 2 ≤ 3; decide), fun ls H' p' k hl h' => by
    match ls, hl with
    | [m], _ => exact ⟨p', rfl, h'⟩⟩
  | .fin, _, ⟨p, rfl, h⟩ => ⟨p, [.str "end"], rfl, h, (fun z => nomatch z), by decide, fun ls H' p' k hl h' => by
    match ls, hl with
    | [], _ => exact ⟨p', rfl, h'⟩⟩
theorem Np.leads2 : ∀ e : Np, e.leads.length ≤ 2
  | .put _ _ _ => (by decide : 1 ≤ 2) | .say _ _ => (by decide : 1 ≤ 2) | .test _ _ _ => (by decide : 2 ≤ 2) | .pick _ _ => (by decide : 1 ≤ 2) | .fin => (by decide : 0 ≤ 2)
theorem scLedA : FnScope ["node", "leads"] ["node", "leads"] (defScope sLedA) := ⟨rfl, rfl, rfl, by decide +kernel, rfl, by decide +kernel, by decide +kernel⟩
theorem gLedA_len : GLB sLedA "len" := by decide +kernel
theorem gLedA_tuple : GLB sLedA "tuple" := by decide +kernel
theorem ok_ledA {f : Addr} {fd : FuncData} (F : Fun K "led_anew" "led_anew" sLedA f fd) (m_len : mg "len" = none) (m_tuple : mg "tuple" = none) : FnOk P w K mg base CX0 1 f fd ["node", "leads"] spLedA := by
 refine F.ok scLedA (fun vs H Q E h => ?_) (fun cdv A outer s H vs Q E hr h => ?_)
 · obtain ⟨v, l, e, ls, rfl, _⟩ := h
   rfl
 obtain ⟨v, l, e, ls, rfl, na, hl, ll, q⟩ := h
 obtain ⟨p, as, rfl, hp, asn, as3, mk⟩ := na.parts
 have e2 := e.leads2
 have lt : (as ++ e.leads.map V.int).length = as.length + e.leads.length := by rw [List.length_append, List.length_map]
 refine goL ⟨_, (L3.one (L3.ret (L3.op L3.o_catT (L3.slA2 (L3.v 0) (L3.op L3.o_sub (L3.callB L3.c_len gLedA_len m_len PySem.boot_len (L3.k (L3.v 0) L3.n)) (L3.callB L3.c_len gLedA_len m_len PySem.boot_len (L3.k (L3.v 1) L3.n)))) (L3.callT L3.c_tuple gLedA_tuple m_tuple (by decide +kernel) (L3.k (L3.v 1) L3.n))))), ?_⟩
 refine ⟨_, rfl, _, rfl, p, _, rfl, .inr (SqT.of hp), _, rfl, l, _, rfl, .inl (SqL.of hl), _, _, rfl, rfl, _, rfl, ?_⟩
 have ek : (((as ++ e.leads.map V.int).length : Int) - ((ls.map V.int).length : Int)) = ((as.length : Nat) : Int) := by rw [lt, List.length_map, ll]; omega
 rw [ek]
 have ec : cutV (as ++ e.leads.map V.int) none (some ((as.length : Nat) : Int)) = as := by rw [cut_hi _ _ (by omega), List.take_left]
 have i1 : HT.sIx (as ++ e.leads.map V.int).length (as ++ e.leads.map V.int).length (some ((as.length : Nat) : Int)) = min as.length (as ++ e.leads.map V.int).length := HT.sIx_nat _ _ _
 have last : ∀ (a1 : Addr) (H1 : Hp), Same H H1 → H1 a1 = some (.tup as) → ∃ p1 ys, [V.ref l] = [.ref p1] ∧ SqL K H1 p1 ys ∧ ∀ t1, H1 t1 = none → rCatT K (.ref a1) (.ref t1) (upd H1 t1 (.tup ys)) Q := fun a1 H1 s1 g1 => by
   refine ⟨l, _, rfl, SqL.of (s1 _ _ hl), fun t1 ht1 => ?_⟩
   have s2 := same_new ht1 (.tup (ls.map V.int))
   have g2 : (upd H1 t1 (.tup (ls.map V.int))) t1 = some (.tup (ls.map V.int)) := upd_same
   generalize upd H1 t1 (.tup (ls.map V.int)) = H2 at s2 g2 ⊢
   refine ⟨a1, t1, _, _, rfl, rfl, SqT.of (s2 _ _ g1), SqT.of g2, asn, Nat.le_trans (show _ ≤ 1000 by rw [List.length_map]; omega) (by decide), fun z => ?_, fun _ p' hp' => ?_⟩
   · refine q _ _ (same_trans s1 s2) (mk ls H2 a1 (Same.tk (same_trans s1 s2)) ll ?_)
     rw [z, List.append_nil]
     exact s2 _ _ g1
   · exact q _ _ (same_add (same_trans s1 s2) hp') (mk ls _ p' (Same.tk (same_add (same_trans s1 s2) hp')) ll upd_same)
 by_cases hw : e.leads = []
 · refine .inr ⟨p, _, rfl, SqT.of hp, ⟨rfl, ?_⟩, ?_⟩
   · rw [i1, lt, hw]
     show min as.length (as.length + 0) = as.length + 0
     omega
   · have hp2 : H p = some (.tup as) := by rw [hp, hw]; simp
     exact ⟨_, rfl, last p H (same_refl _) hp2⟩
 · refine .inl ⟨p, _, rfl, SqT.of hp, fun z => ?_, fun a1 ha1 => ?_⟩
   · have z2 := z.2
     have : 0 < e.leads.length := by
       cases h : e.leads with
       | nil => exact absurd h hw
       | cons a l => exact Nat.succ_pos _
     rw [i1, lt] at z2
     omega
   · rw [ec]
     exact ⟨_, rfl, last a1 _ (same_new ha1 _) upd_same⟩
theorem has_ledA (s : Src K mg "led_anew" sLedA) (m_len : mg "len" = none) (m_tuple : mg "tuple" = none) : Has P w K mg base "led_anew" ["node", "leads"] 1 spLedA :=
  let ⟨f, fd, F, m⟩ := s
  ⟨f, fd, ok_ledA F m_len m_tuple, F.kp, bnd2 F fun _ _ _ _ _ _ _ _ => rfl, m⟩
def spWithN : Sp := fun vs H Q _ => ∃ (p n B I N : Addr) (vb vi : List V), vs = [.ref p, .ref n] ∧ H p = some (.tup [.ref B, .ref I, .ref N]) ∧ H B = some (.lst vb) ∧ H I = some (.lst vi) ∧ ∀ (p' B' I' : Addr) (H' : Hp), Same H H' → H' p' = some (.tup [.ref B', .ref I', .ref n]) → H' B' = some (.lst vb) → H' I' = some (.lst vi) → H B' = none → H I' = none → B' ≠ I' → Q (.ref p') H'
theorem scWithN : FnScope ["program", "nodes"] ["program", "nodes"] (defScope sWithN) := ⟨rfl, rfl, rfl, by decide +kernel, rfl, by decide +kernel, by decide +kernel⟩
theorem gWithN_list : GLB sWithN "list" := by decide +kernel
theorem ok_withN {f : Addr} {fd : FuncData} (F : Fun K "with_nodes" "with_nodes" sWithN f fd) (m_list : mg "list" = none) : FnOk P w K mg base CX0 1 f fd ["program", "nodes"] spWithN := by
 refine F.ok scWithN (fun vs H Q E h => ?_) (fun cdv A outer s H vs Q E hr h => ?_)
 · obtain ⟨p, n, B, I, N, vb, vi, rfl, _⟩ := h
   rfl
 obtain ⟨p, n, B, I, N, vb, vi, rfl, hp, hB, hI, q⟩ := h
 refine goL ⟨_, (L3.one (L3.ret (L3.tup (L3.k (L3.callT L3.c_list gWithN_list m_list (by decide +kernel) (L3.k (L3.ix L3.ixT (L3.v 0) L3.int) L3.n)) (L3.k (L3.callT L3.c_list gWithN_list m_list (by decide +kernel) (L3.k (L3.ix L3.ixT (L3.v 0) L3.int) L3.n)) (L3.k (L3.v 1) L3.n)))))), ?_⟩
 refine ⟨_, rfl, p, _, _, _, rfl, rfl, SqT.of hp, rfl, B, _, rfl, .inl (SqL.of hB), fun B' hB' => ?_⟩
 obtain ⟨H1, sb, gb, zz⟩ := layO hB' (.lst vb)
 rw [zz]; clear zz
 refine ⟨_, rfl, p, _, _, _, rfl, rfl, SqT.of (sb _ _ hp), rfl, I, _, rfl, .inl (SqL.of (sb _ _ hI)), fun I' hI' => ?_⟩
 obtain ⟨H2, si, gi, zz⟩ := layO hI' (.lst vi)
 rw [zz]; clear zz
 refine ⟨_, rfl, (by show 3 ≤ sizeLine; decide), fun p' hp' => ?_⟩
 have s3 := same_new hp' (.tup [.ref B', .ref I', .ref n])
 exact q p' B' I' _ (same_trans sb (same_trans si s3)) upd_same (s3 _ _ (si _ _ gb)) (s3 _ _ gi) hB' (none_of_same sb hI') (ne_of_none gb hI')
theorem has_withN (s : Src K mg "with_nodes" sWithN) (m_list : mg "list" = none) : Has P w K mg base "with_nodes" ["program", "nodes"] 1 spWithN :=
  let ⟨f, fd, F, m⟩ := s
  ⟨f, fd, ok_withN F m_list, F.kp, bnd2 F fun _ _ _ _ _ _ _ _ => rfl, m⟩
def spJoin (K : PySem.W.Frag) (n : Nat) : Sp := fun vs H Q _ => ∃ (l : Addr) (us : List V) (es : List E), vs = [.str "both", .ref l] ∧ H l = some (.lst us) ∧ Paired (EK K H) us es ∧ 1 ≤ us.length ∧ us.length < n ∧ n ≤ 900 ∧ ∀ (v : V) (e : E) (H' : Hp), Same H H' → EK K H' v e → Bt e es → Q v H'
theorem none_joined {f : Addr} {fd : FuncData} : FnOk P w K mg base CX0 1 f fd ["word", "parts"] ((spJoin K) 0) := by
  have no : ∀ vs H Q E, ¬ (spJoin K) 0 vs H Q E := fun vs H Q E h => by
    obtain ⟨l, us, es, _, _, _, _, h, _⟩ := h
    omega
  exact ⟨fun vs H Q E h => absurd h (no vs H Q E), fun A outer s H args us vs Q E _ _ _ _ h => absurd h (no vs H Q E)⟩
theorem scJoined : FnScope ["word", "parts", "half"] ["word", "parts"] (defScope sJoined) := ⟨rfl, rfl, rfl, by decide +kernel, rfl, by decide +kernel, by decide +kernel⟩
theorem gJoined_joined_by : GLB sJoined "joined_by" := by decide +kernel
theorem gJoined_len : GLB sJoined "len" := by decide +kernel
theorem cut_lo (xs : List V) (k : Nat) (h : k ≤ xs.length) : cutV xs (some (k : Int)) none = xs.drop k := by
  unfold cutV
  have e2 : HT.sIx xs.length 0 (some ((k : Nat) : Int)) = min k xs.length := HT.sIx_nat _ _ _
  rw [e2, HT.sIx_none, Nat.min_eq_left h, List.take_of_length_le (by rw [List.length_drop]; omega)]
theorem ok_joined {n : Nat} {f : Addr} {fd : FuncData} (F : Fun K "joined_by" "joined_by" sJoined f fd) (m_len : mg "len" = none) (G : Has P w K mg base "joined_by" ["word", "parts"] (n + 1) (spJoin K n)) : FnOk P w K mg base CX0 (n + 1 + 1) f fd ["word", "parts"] (spJoin K (n + 1)) := by
 refine F.ok scJoined (fun vs H Q E h => ?_) (fun cdv A outer s H vs Q E hr h => ?_)
 · obtain ⟨l, us, es, rfl, _⟩ := h
   rfl
 obtain ⟨l, us, es, rfl, hl, pe, l1, ln, n9, q⟩ := h
 refine goL ⟨_, (L3.cons (L3.ifs (L3.cmp L3.o_eq (L3.callB L3.c_len gJoined_len m_len PySem.boot_len (L3.k (L3.v 1) L3.n)) L3.int) (L3.one (L3.ret (L3.ix L3.ixL (L3.v 1) L3.int))) L3.nil)
   (L3.cons (L3.set 2 scJoined.nd (L3.op L3.o_div (L3.callB L3.c_len gJoined_len m_len PySem.boot_len (L3.k (L3.v 1) L3.n)) L3.int))
   (L3.one (L3.ret (L3.tup (L3.k (L3.v 0) (L3.k (L3.own G hr gJoined_joined_by (L3.k (L3.v 0) (L3.k (L3.slL2 (L3.v 1) (L3.v 2)) L3.n))) (L3.k (L3.own G hr gJoined_joined_by (L3.k (L3.v 0) (L3.k (L3.slL1 (L3.v 1) (L3.v 2)) L3.n))) L3.n)))))))), ?_⟩
 refine cut1 fun Rk kR => ?_
 refine ⟨_, rfl, l, _, rfl, .inl (SqL.of hl), rfl, _, rfl, ?_⟩
 refine ite2 (fun c => ?_) (fun c => ?_)
 · have c1 : us.length = 1 := by
     have := int_eq c
     omega
   match us, es, pe, hl, c1 with
   | [u], [e], .cons r .nil, hl, _ => exact ⟨_, rfl, l, _, _, _, rfl, rfl, SqL.of hl, at0, q _ e _ (same_refl _) r (.one e)⟩
 have c1 : us.length ≠ 1 := fun z => c (decide_eq_true (by rw [z]; rfl))
 refine kR _ _ ?_
 refine cut1 fun Rk kR => ?_
 refine ⟨_, rfl, l, _, rfl, .inl (SqL.of hl), _, _, rfl, rfl, ⟨by decide, by decide +kernel⟩, ?_⟩
 refine gn_go ?_
 refine kR _ _ ?_
 refine normS [some (.str "both"), some (.ref l), some (.int ((us.length / 2 : Nat) : Int))] (by show [some (V.str "both"), some (V.ref l), some (V.int ((us.length : Int) / 2))] = _; rw [show (us.length : Int) / 2 = ((us.length / 2 : Nat) : Int) by omega]) ?_
 refine ⟨_, rfl, _, rfl, _, rfl, _, rfl, _, rfl, l, _, rfl, SqL.of hl, fun a1 ha1 => ?_⟩
 rw [cut_hi _ _ (by omega)]
 have s1 := same_new ha1 (.lst (us.take (us.length / 2)))
 have g1 : (upd H a1 (.lst (us.take (us.length / 2)))) a1 = some (.lst (us.take (us.length / 2))) := upd_same
 generalize upd H a1 (.lst (us.take (us.length / 2))) = H1 at s1 g1 ⊢
 refine ⟨a1, _, es.take (us.length / 2), rfl, g1, Paired.take _ (Paired.mapP pe fun _ _ z => EK.keep (Same.tk s1) z), by rw [List.length_take]; omega, by rw [List.length_take]; omega, by omega, fun v1 e1 H2 s2 ek1 bt1 => ?_⟩
 refine ⟨_, rfl, _, rfl, _, rfl, _, rfl, l, _, rfl, SqL.of (s2 _ _ (s1 _ _ hl)), fun a2 ha2 => ?_⟩
 rw [cut_lo _ _ (by omega)]
 have s3 := same_new ha2 (.lst (us.drop (us.length / 2)))
 have g3 : (upd H2 a2 (.lst (us.drop (us.length / 2)))) a2 = some (.lst (us.drop (us.length / 2))) := upd_same
 generalize upd H2 a2 (.lst (us.drop (us.length / 2))) = H3 at s3 g3 ⊢
 refine ⟨a2, _, es.drop (us.length / 2), rfl, g3, Paired.drop _ (Paired.mapP pe fun _ _ z => EK.keep (Same.tk (same_trans s1 (same_trans s2 s3))) z), by rw [List.length_drop]; omega, by rw [List.length_drop]; omega, by omega, fun v2 e2 H4 s4 ek2 bt2 => ⟨(by show 3 ≤ sizeLine; decide), fun p hp => ?_⟩⟩
 have sp := same_new hp (.tup [.str "both", v1, v2])
 have bt := Bt.two bt1 bt2
 rw [List.take_append_drop] at bt
 exact q _ (.two .both e1 e2) _ (same_add (same_trans (same_trans s1 s2) (same_trans s3 s4)) hp) ⟨v1, v2, Tp.k ⟨p, rfl, upd_same⟩, EK.keep (Same.tk (same_trans (same_trans s3 s4) sp)) ek1, EK.keep (Same.tk sp) ek2⟩ bt
theorem has_joined (s : Src K mg "joined_by" sJoined) (m_len : mg "len" = none) : ∀ n : Nat, Has P w K mg base "joined_by" ["word", "parts"] (n + 1) ((spJoin K) n) := by
  obtain ⟨f, fd, F, m⟩ := s
  have b : Binds K fd ["word", "parts"] [] := bnd2 F fun _ _ _ _ _ _ _ _ => rfl
  intro n
  have all : FnOk P w K mg base CX0 (n + 1) f fd ["word", "parts"] ((spJoin K) n) := by
    induction n with
    | zero => exact none_joined
    | succ n ih => exact ok_joined F m_len ⟨f, fd, ih, F.kp, b, m⟩
  exact ⟨f, fd, all, F.kp, b, m⟩
def spAllOf (K : PySem.W.Frag) : Sp := fun vs H Q _ => ∃ (l : Addr) (us : List V) (es : List E), vs = [.ref l] ∧ H l = some (.lst us) ∧ Paired (EK K H) us es ∧ 1 ≤ us.length ∧ us.length ≤ 5 ∧ ∀ (v : V) (e : E) (H' : Hp), Same H H' → EK K H' v e → Bt e es → Q v H'
theorem scAllOf : FnScope ["conditions"] ["conditions"] (defScope sAllOf) := ⟨rfl, rfl, rfl, by decide +kernel, rfl, by decide +kernel, by decide +kernel⟩
theorem gAllOf_joined_by : GLB sAllOf "joined_by" := by decide +kernel
theorem ok_allOf {f : Addr} {fd : FuncData} (F : Fun K "all_of" "all_of" sAllOf f fd) (J : Has P w K mg base "joined_by" ["word", "parts"] 7 (spJoin K 6)) : FnOk P w K mg base CX0 8 f fd ["conditions"] (spAllOf K) := by
 refine F.ok scAllOf (fun vs H Q E h => ?_) (fun cdv A outer s H vs Q E hr h => ?_)
 · obtain ⟨l, us, es, rfl, _⟩ := h
   rfl
 obtain ⟨l, us, es, rfl, hl, pe, l1, l5, q⟩ := h
 refine goL ⟨_, (L3.one (L3.ret (L3.own J hr gAllOf_joined_by (L3.k L3.str (L3.k (L3.v 0) L3.n))))), ?_⟩
 exact ⟨_, rfl, l, us, es, rfl, hl, pe, l1, by omega, by decide, q⟩
theorem has_allOf (s : Src K mg "all_of" sAllOf) (J : Has P w K mg base "joined_by" ["word", "parts"] 7 (spJoin K 6)) : Has P w K mg base "all_of" ["conditions"] 8 (spAllOf K) :=
  let ⟨f, fd, F, m⟩ := s
  ⟨f, fd, ok_allOf F J, F.kp, bnd1 F fun _ _ _ _ _ _ _ => rfl, m⟩
def spBoxS (K : PySem.W.Frag) : Sp := fun vs H Q _ => ∃ (l : Addr) (ns : List Str), vs = [.ref l] ∧ H l = some (.lst (ns.map V.str)) ∧ ns.length ≤ 4 ∧ ∀ (v : V) (e : E) (H' : Hp), Same H H' → EK K H' v e → Bt e (.yes :: ns.map sameE) → Q v H'
theorem scBoxS : FnScope ["names"] ["names"] (defScope sBoxS) := ⟨rfl, rfl, rfl, by decide +kernel, rfl, by decide +kernel, by decide +kernel⟩
theorem gBoxS_YES : GLB sBoxS "YES" := by decide +kernel
theorem gBoxS_all_of : GLB sBoxS "all_of" := by decide +kernel
theorem ok_boxS {tY : Addr} {f : Addr} {fd : FuncData} (F : Fun K "boxes_same" "boxes_same" sBoxS f fd) (mY : mg "YES" = some (.ref tY)) (cY : ∀ H : Hp, SqT K H tY [.str "yes"]) (AO : Has P w K mg base "all_of" ["conditions"] 8 (spAllOf K)) : FnOk P w K mg base CX0 9 f fd ["names"] (spBoxS K) := by
 refine F.ok scBoxS (fun vs H Q E h => ?_) (fun cdv A outer s H vs Q E hr h => ?_)
 · obtain ⟨l, ns, rfl, _⟩ := h
   rfl
 obtain ⟨l, ns, rfl, hl, n4, q⟩ := h
 refine goL ⟨_, (L3.one (L3.ret (L3.own AO hr gBoxS_all_of (L3.k (L3.op L3.o_cat (L3.lst (L3.k (L3.glob (w := .ref tY) gBoxS_YES mY rfl) L3.n)) (L3.lc [none] ["name"] (show CompScope _ (defScope sBoxS) from ⟨rfl, by decide +kernel, by decide +kernel, by decide +kernel⟩) (by rfl) (L3.iL (L3.v 0)) (fun _ _ _ _ _ => ⟨(L3.gn 0 (show (["name"] : List Str).Nodup from by decide +kernel)), L3.if0, (L3.tup (L3.k L3.str (L3.k (L3.tup (L3.k L3.str (L3.k (L3.v 0) L3.n))) (L3.k (L3.tup (L3.k L3.str (L3.k (L3.v 0) L3.n))) L3.n))))⟩))) L3.n)))), ?_⟩
 refine ⟨(by show 1 ≤ sizeLine; decide), fun l1 hl1 => ?_⟩
 obtain ⟨H1, s1, g1, zz⟩ := layO hl1 (.lst [.ref tY])
 rw [zz]; clear zz
 have hl' := s1 _ _ hl
 refine ⟨_, rfl, l, rfl, ⟨_, SqL.of hl'⟩, fun D hD => ?_⟩
 refine comp_list (xs := ns.map V.str) (fun i Hx => Same H1 Hx ∧ ∃ us, Hx D = some (.lst us) ∧ us.length = i ∧ Paired (EK K Hx) us ((ns.take i).map sameE)) ⟨same_new hD _, [], upd_same, rfl, .nil⟩ (fun i Hx _ z => SqL.of (z.1 _ _ hl')) (fun i x0 Hx hx z => ?_) (fun Hx z => ?_)
 · obtain ⟨sx, us, gD, ul, pe⟩ := z
   have hil := (List.getElem?_eq_some_iff.mp hx).1
   rw [List.length_map] at hil
   obtain ⟨xn, hxn, rfl⟩ := map_get hx
   refine gn_go ?_
   refine turn0 (A := fun H5 => mApp _ D _ H5 _) ?_
   refine ⟨_, rfl, (by show 2 ≤ sizeLine; decide), fun a1 ha1 => ⟨_, rfl, (by show 2 ≤ sizeLine; decide), fun a2 ha2 => ⟨(by show 3 ≤ sizeLine; decide), fun a3 ha3 => ?_⟩⟩⟩
   have sa3 := same_new ha3 (.tup [.str "same", .ref a1, .ref a2])
   have sa2 := same_trans (same_new ha2 (.tup [.str "yours", .str xn])) sa3
   have sa := same_trans (same_new ha1 (.tup [.str "mine", .str xn])) sa2
   have gDa := sa _ _ gD
   have k1 := sa2 a1 (.tup [.str "mine", .str xn]) upd_same
   have k2 := sa3 a2 (.tup [.str "yours", .str xn]) upd_same
   have k3 : (upd (upd (upd Hx a1 (.tup [.str "mine", .str xn])) a2 (.tup [.str "yours", .str xn])) a3 (.tup [.str "same", .ref a1, .ref a2])) a3 = some (.tup [.str "same", .ref a1, .ref a2]) := upd_same
   generalize upd (upd (upd Hx a1 (.tup [.str "mine", .str xn])) a2 (.tup [.str "yours", .str xn])) a3 (.tup [.str "same", .ref a1, .ref a2]) = Hy at sa gDa k1 k2 k3 ⊢
   have tk9 : TK Hy (upd Hy D (.lst (us ++ [.ref a3]))) := TW.TK.lst gDa
   refine ⟨us, gDa, small1000 (by omega), comp_end (Pv := fun i Hx => Same H1 Hx ∧ ∃ us, Hx D = some (.lst us) ∧ us.length = i ∧ Paired (EK K Hx) us ((ns.take i).map sameE)) (by repeat' constructor) (by rw [List.length_map]; exact hil) ⟨same_put (same_trans sx sa) hD, us ++ [.ref a3], upd_same, by rw [List.length_append, ul]; rfl, ?_⟩⟩
   rw [List.take_add_one, hxn, List.map_append]
   exact Paired.snoc (Paired.mapP pe fun _ _ z => EK.keep ((Same.tk sa).trans tk9) z) ⟨_, _, Tp.k ⟨a3, rfl, tk9 _ _ k3⟩, ⟨a1, rfl, tk9 _ _ k1⟩, ⟨a2, rfl, tk9 _ _ k2⟩⟩
 obtain ⟨sx, us, gD, ul, pe⟩ := z
 rw [List.length_map] at ul
 rw [List.length_map, List.take_length] at pe
 refine ⟨l1, D, _, _, rfl, rfl, sx _ _ g1, gD, small (by rw [List.length_singleton]; omega), fun r hr2 => ?_⟩
 have sr := same_new hr2 (.lst ([.ref tY] ++ us))
 refine ⟨r, _, .yes :: ns.map sameE, rfl, upd_same, .cons ⟨tY, rfl, .inr cY⟩ (Paired.mapP pe fun _ _ z => EK.keep (Same.tk sr) z), by rw [List.length_append, List.length_singleton]; omega, by rw [List.length_append, List.length_singleton]; omega, fun v e H' s' ek bt => ?_⟩
 exact q v e H' (same_trans (same_add (same_trans s1 sx) hr2) s') ek bt
theorem has_boxS {tY : Addr} (s : Src K mg "boxes_same" sBoxS) (mY : mg "YES" = some (.ref tY)) (cY : ∀ H : Hp, SqT K H tY [.str "yes"]) (AO : Has P w K mg base "all_of" ["conditions"] 8 (spAllOf K)) : Has P w K mg base "boxes_same" ["names"] 9 (spBoxS K) :=
  let ⟨f, fd, F, m⟩ := s
  ⟨f, fd, ok_boxS F mY cY AO, F.kp, bnd1 F fun _ _ _ _ _ _ _ => rfl, m⟩
def spAllS (K : PySem.W.Frag) : Sp := fun vs H Q _ => ∃ (p B I N : Addr) (vb : List V) (bs : List (Str × Int)), vs = [.ref p] ∧ H p = some (.tup [.ref B, .ref I, .ref N]) ∧ H B = some (.lst vb) ∧ Paired (BoxAt H) vb bs ∧ bs.length ≤ 4 ∧ ∀ (v : V) (e : E) (H' : Hp), Same H H' → EK K H' v e → Bt e (.yes :: (bs.map (·.1)).map sameE) → Q v H'
theorem scAllS : FnScope ["program"] ["program"] (defScope sAllS) := ⟨rfl, rfl, rfl, by decide +kernel, rfl, by decide +kernel, by decide +kernel⟩
theorem gAllS_boxes_same : GLB sAllS "boxes_same" := by decide +kernel
theorem ok_allS {f : Addr} {fd : FuncData} (F : Fun K "all_same" "all_same" sAllS f fd) (BS : Has P w K mg base "boxes_same" ["names"] 9 (spBoxS K)) : FnOk P w K mg base CX0 10 f fd ["program"] (spAllS K) := by
 refine F.ok scAllS (fun vs H Q E h => ?_) (fun cdv A outer s H vs Q E hr h => ?_)
 · obtain ⟨p, B, I, N, vb, bs, rfl, _⟩ := h
   rfl
 obtain ⟨p, B, I, N, vb, bs, rfl, hp, hB, pb, b4, q⟩ := h
 have vl := Paired.length pb
 refine goL ⟨_, (L3.one (L3.ret (L3.own BS hr gAllS_boxes_same (L3.k (L3.lc [none, none] ["name", "size"] (show CompScope _ (defScope sAllS) from ⟨rfl, by decide +kernel, by decide +kernel, by decide +kernel⟩) (by rfl) (L3.iL (L3.ix L3.ixT (L3.v 0) L3.int)) (fun _ _ _ _ _ => ⟨(L3.gtup 2 (L3.gsk (L3.gn 0 (show (["name", "size"] : List Str).Nodup from by decide +kernel)) (L3.gsk (L3.gn 1 (show (["name", "size"] : List Str).Nodup from by decide +kernel)) L3.gsn))), L3.if0, (L3.v 0)⟩)) L3.n)))), ?_⟩
 refine ⟨_, rfl, p, _, _, _, rfl, rfl, SqT.of hp, rfl, B, rfl, ⟨_, SqL.of hB⟩, fun D hD => ?_⟩
 refine comp_list (xs := vb) (fun i Hx => Same H Hx ∧ Hx D = some (.lst (((bs.take i).map (·.1)).map V.str))) ⟨same_new hD _, upd_same⟩ (fun i Hx _ z => SqL.of (z.1 _ _ hB)) (fun i x0 Hx hx z => ?_) (fun Hx z => ?_)
 · obtain ⟨sx, gD⟩ := z
   have hil := (List.getElem?_eq_some_iff.mp hx).1
   obtain ⟨b, hbi, pp, rfl, hpp⟩ := Paired.get pb hx
   refine ⟨pp, _, rfl, SqT.of (sx _ _ hpp), rfl, _, _, rfl, _, _, rfl, rfl, ?_⟩
   refine turn0 (A := fun H5 => mApp _ D _ H5 _) ?_
   refine ⟨_, rfl, _, gD, small1000 (by rw [List.length_map, List.length_map, List.length_take]; omega), comp_end (Pv := fun i Hx => Same H Hx ∧ Hx D = some (.lst (((bs.take i).map (·.1)).map V.str))) (by repeat' constructor) hil ⟨same_put sx hD, ?_⟩⟩
   rw [upd_same, List.take_add_one, hbi, List.map_append, List.map_append]
   rfl
 obtain ⟨sx, gD⟩ := z
 rw [vl, List.take_length] at gD
 exact ⟨D, _, rfl, gD, by rw [List.length_map]; omega, fun v e H' s' ek bt => q v e H' (same_trans sx s') ek bt⟩
theorem has_allS (s : Src K mg "all_same" sAllS) (BS : Has P w K mg base "boxes_same" ["names"] 9 (spBoxS K)) : Has P w K mg base "all_same" ["program"] 10 (spAllS K) :=
  let ⟨f, fd, F, m⟩ := s
  ⟨f, fd, ok_allS F BS, F.kp, bnd1 F fun _ _ _ _ _ _ _ => rfl, m⟩
def Np.hd : Np → Str
  | .put _ _ _ => "put" | .say _ _ => "say" | .test _ _ _ => "test" | .pick _ _ => "pick" | .fin => "end"
theorem NpAt.head {H : Hp} : ∀ {e : Np} {v : V}, NpAt H v e → ∃ (p : Addr) (as : List V), v = .ref p ∧ H p = some (.tup (.str e.hd :: as))
  | .put _ _ _, _, ⟨_, ⟨p, h, a⟩, _⟩ => ⟨p, _, h, a⟩
  | .say _ _, _, ⟨_, ⟨p, h, a⟩, _⟩ => ⟨p, _, h, a⟩
  | .test _ _ _, _, ⟨_, ⟨p, h, a⟩, _⟩ => ⟨p, _, h, a⟩
  | .pick _ _, _, ⟨p, h, a⟩ => ⟨p, _, h, a⟩
  | .fin, _, ⟨p, h, a⟩ => ⟨p, _, h, a⟩
def LvAt (tO : Addr) (H : Hp) (v u : V) (e : Int × Int × Str) : Prop := Tp H v [.int e.1, .int e.2.1, u, .str (if e.2.2 = "end" then "end" else "both"), .ref tO]
def spLevE (tO : Addr) : Sp := fun vs H Q _ => ∃ (p B I N : Addr) (vn : List V) (e : Np) (j : Nat) (n : Int) (u x : V), vs = [.ref p, .int (j : Int), .int n, u] ∧ H p = some (.tup [.ref B, .ref I, .ref N]) ∧ H N = some (.lst vn) ∧ vn[j]? = some x ∧ NpAt H x e ∧ ∀ (v : V) (H' : Hp), Same H H' → LvAt tO H' v u ((j : Int), n, e.hd) → Q v H'
theorem scLevE : FnScope ["program", "place", "new_place", "condition", "who"] ["program", "place", "new_place", "condition"] (defScope sLevE) := ⟨rfl, rfl, rfl, by decide +kernel, rfl, by decide +kernel, by decide +kernel⟩
theorem gLevE_NOUGHT : GLB sLevE "NOUGHT" := by decide +kernel
theorem ok_levE {tO : Addr} {f : Addr} {fd : FuncData} (F : Fun K "level_entry" "level_entry" sLevE f fd) (mO : mg "NOUGHT" = some (.ref tO)) : FnOk P w K mg base CX0 1 f fd ["program", "place", "new_place", "condition"] (spLevE tO) := by
 refine F.ok scLevE (fun vs H Q E h => ?_) (fun cdv A outer s H vs Q E hr h => ?_)
 · obtain ⟨p, B, I, N, vn, e, j, n, u, x, rfl, _⟩ := h
   rfl
 obtain ⟨p, B, I, N, vn, e, j, n, u, x, rfl, hp, hN, hx, na, q⟩ := h
 obtain ⟨px, as, rfl, hpx⟩ := na.head
 refine goL ⟨_, (L3.cons (L3.set 4 scLevE.nd (L3.ifE (L3.cmp L3.o_eq (L3.ix L3.ixT (L3.ix L3.ixL (L3.ix L3.ixT (L3.v 0) L3.int) (L3.v 1)) L3.int) L3.str) L3.str L3.str))
   (L3.one (L3.ret (L3.tup (L3.k (L3.v 1) (L3.k (L3.v 2) (L3.k (L3.v 3) (L3.k (L3.v 4) (L3.k (L3.glob (w := .ref tO) gLevE_NOUGHT mO rfl) L3.n))))))))), ?_⟩
 refine cut1 fun Rk kR => ?_
 refine ⟨_, rfl, p, _, _, _, rfl, rfl, SqT.of hp, rfl, _, rfl, N, _, _, _, rfl, rfl, SqL.of hN, atI_nat hx, px, _, _, _, rfl, rfl, SqT.of hpx, at0, rfl, _, rfl, ?_⟩
 have fin : Rk [some (.ref p), some (.int (j : Int)), some (.int n), some u, some (.str (if e.hd = "end" then "end" else "both"))] H := by
   refine kR _ _ ?_
   exact ⟨_, rfl, _, rfl, _, rfl, _, rfl, (by show 5 ≤ sizeLine; decide), fun p5 hp5 => q _ _ (same_new hp5 _) ⟨p5, rfl, upd_same⟩⟩
 refine ite2 (fun c => ?_) (fun c => ?_)
 · have c : e.hd = "end" := by
     have := of_decide_eq_true c
     injection this
   rw [if_pos c] at fin
   refine gn_go ?_
   exact fin
 · have c : ¬ e.hd = "end" := fun z => c (decide_eq_true (congrArg V.str z))
   rw [if_neg c] at fin
   refine gn_go ?_
   exact fin
theorem has_levE {tO : Addr} (s : Src K mg "level_entry" sLevE) (mO : mg "NOUGHT" = some (.ref tO)) : Has P w K mg base "level_entry" ["program", "place", "new_place", "condition"] 1 (spLevE tO) :=
  let ⟨f, fd, F, m⟩ := s
  ⟨f, fd, ok_levE F mO, F.kp, bnd4 F fun _ _ _ _ _ _ _ _ _ _ => rfl, m⟩
abbrev sPaO : Stmt := top 38
abbrev sSmP : Stmt := top 37
theorem iteT' {c : Prop} [Decidable c] {a b : Prop} (h : c) (x : a) : if c then a else b := by rw [if_pos h]; exact x
theorem putK_mem {kvs : List (Key × V)} {k : Key} {v : V} {p : Key × V} (h : p ∈ putK kvs k v) : p = (k, v) ∨ p ∈ kvs := by
  unfold putK at h
  split at h
  · obtain ⟨q, hq, rfl⟩ := List.mem_map.mp h
    split
    · rename_i e
      exact .inl (by rw [e])
    · exact .inr hq
  · rcases List.mem_append.mp h with z | z
    · exact .inr z
    · exact .inl (List.mem_singleton.mp z)
theorem putK_nd {kvs : List (Key × V)} {k : Key} {v : V} (h : (kvs.map (·.1)).Nodup) : ((putK kvs k v).map (·.1)).Nodup := by
  cases hv : valV kvs k with
  | none => exact nd_putK v h hv
  | some u =>
    unfold putK
    rw [if_pos (by rw [valV_any, hv]; rfl), List.map_map]
    have e : ((fun kv : Key × V => kv.1) ∘ fun kv => if kv.1 = k then (kv.1, v) else kv) = fun kv => kv.1 := by
      funext kv
      show (if kv.1 = k then (kv.1, v) else kv).1 = kv.1
      split <;> rfl
    rw [e]
    exact h
structure PartsK (ns : List Str) (kvs : List (Key × V)) : Prop where
  nl : ∃ c : Int, valV kvs (.inr "") = some (.int c)
  nd : (kvs.map (·.1)).Nodup
  ks : ∀ p ∈ kvs, ∃ (x : Str) (c : Int), p = (.inr x, .int c) ∧ (x = "" ∨ x ∈ ns)
theorem PartsK.len {ns : List Str} {kvs : List (Key × V)} (h : PartsK ns kvs) : kvs.length ≤ ns.length + 1 := by
  have := sub_len (ys := (Sum.inr "" : Key) :: ns.map Sum.inr) h.nd fun k hk => by
    obtain ⟨p, hp, rfl⟩ := List.mem_map.mp hk
    obtain ⟨x, c, rfl, z⟩ := h.ks p hp
    rcases z with rfl | z
    · exact List.mem_cons.mpr (.inl rfl)
    · exact List.mem_cons.mpr (.inr (List.mem_map.mpr ⟨x, z, rfl⟩))
  rw [List.length_map, List.length_cons, List.length_map] at this
  exact this
theorem PartsK.int {ns : List Str} {kvs : List (Key × V)} (h : ∀ p ∈ kvs, ∃ (x : Str) (c : Int), p = (.inr x, .int c) ∧ (x = "" ∨ x ∈ ns)) (k : Key) : ∃ c : Int, (valV kvs k).getD (.int 0) = .int c := by
  cases hv : valV kvs k with
  | none => exact ⟨0, rfl⟩
  | some u =>
    unfold valV at hv
    obtain ⟨p, hp, rfl⟩ := Option.map_eq_some_iff.mp hv
    obtain ⟨x, c, rfl, _⟩ := h p (List.mem_of_find?_eq_some hp)
    exact ⟨c, rfl⟩
def spPaO (n : Nat) : Sp := fun vs H Q _ => ∃ (v : V) (e : E) (ns : List Str), vs = [v] ∧ EAt H v e ∧ e.isS ∧ e.okIn (bxN ns) ∧ e.dep < n ∧ n ≤ 30 ∧ ns.length ≤ 4 ∧ ∀ (d : Addr) (kvs : List (Key × V)) (H' : Hp), Same H H' → H d = none → H' d = some (.dK kvs) → PartsK ns kvs → Q (.ref d) H'
theorem none_paO {f : Addr} {fd : FuncData} : FnOk P w K mg base CX0 2 f fd ["sum_told"] (spPaO 0) := by
  have no : ∀ vs H Q E, ¬ spPaO 0 vs H Q E := fun vs H Q E h => by
    obtain ⟨v, e, ns, _, _, _, _, h, _⟩ := h
    omega
  exact ⟨fun vs H Q E h => absurd h (no vs H Q E), fun A outer s H args us vs Q E _ _ _ _ h => absurd h (no vs H Q E)⟩
theorem scPaO : FnScope ["sum_told", "first", "second", "sign"] ["sum_told"] (defScope sPaO) := ⟨rfl, rfl, rfl, by decide +kernel, rfl, by decide +kernel, by decide +kernel⟩
theorem gPaO_list : GLB sPaO "list" := by decide +kernel
theorem gPaO_parts_of : GLB sPaO "parts_of" := by decide +kernel
theorem ok_paO {n : Nat} {f : Addr} {fd : FuncData} (F : Fun K "parts_of" "parts_of" sPaO f fd) (m_list : mg "list" = none) (G : Has P w K mg base "parts_of" ["sum_told"] (n + 2) (spPaO n)) : FnOk P w K mg base CX0 (n + 1 + 2) f fd ["sum_told"] (spPaO (n + 1)) := by
 refine F.ok scPaO (fun vs H Q E h => ?_) (fun cdv A outer s H vs Q E hr h => ?_)
 · obtain ⟨v, e, ns, rfl, _⟩ := h
   rfl
 obtain ⟨v, e, ns, rfl, ev, is, ok, dp, n30, l4, q⟩ := h
 refine goL ⟨_, (L3.cons (L3.ifs (L3.cmp L3.o_eq (L3.ix L3.ixT (L3.v 0) L3.int) L3.str) (L3.one (L3.ret (L3.disp (L3.dpk L3.str (L3.ix L3.ixT (L3.v 0) L3.int) L3.dpn)))) L3.nil)
   (L3.cons (L3.ifs (L3.cmp L3.o_eq (L3.ix L3.ixT (L3.v 0) L3.int) L3.str) (L3.one (L3.ret (L3.disp (L3.dpk L3.str L3.int (L3.dpk (L3.ix L3.ixT (L3.v 0) L3.int) L3.int L3.dpn))))) L3.nil)
   (L3.cons (L3.asg (L3.tup (L3.k (L3.own G hr gPaO_parts_of (L3.k (L3.ix L3.ixT (L3.v 0) L3.int) L3.n)) (L3.k (L3.own G hr gPaO_parts_of (L3.k (L3.ix L3.ixT (L3.v 0) L3.int) L3.n)) L3.n))) (L3.gtup 2 (L3.gsk (L3.gn 1 scPaO.nd) (L3.gsk (L3.gn 2 scPaO.nd) L3.gsn))))
   (L3.cons (L3.set 3 scPaO.nd (L3.ifE (L3.cmp L3.o_eq (L3.ix L3.ixT (L3.v 0) L3.int) L3.str) L3.int (L3.neg L3.int)))
   (L3.one (L3.ret (L3.dcK [none, some 3, some 1, some 2] ["name", "sign", "first", "second"] (up_ne hr _ (by decide)) (show CompScope _ (defScope sPaO) from ⟨rfl, by decide +kernel, by decide +kernel, by decide +kernel⟩) (by rfl) (L3.iL (L3.op L3.o_cat (L3.callT L3.c_listD gPaO_list m_list (by decide +kernel) (L3.k (L3.v 1) L3.n)) (L3.callT L3.c_listD gPaO_list m_list (by decide +kernel) (L3.k (L3.v 2) L3.n)))) (fun _ _ _ _ _ => ⟨(L3.gn 0 (show (["name", "sign", "first", "second"] : List Str).Nodup from by decide +kernel)), L3.if0, (L3.v 0), (L3.op L3.o_add (L3.dget2 (up_ne hr _ (by decide)) (L3.v 2) (L3.v 0) L3.int) (L3.op L3.o_mul (L3.v 1) (L3.dget2 (up_ne hr _ (by decide)) (L3.v 3) (L3.v 0) L3.int)))⟩)))))))), ?_⟩
 refine cut1 fun Rk kR => ?_
 match e, ev, is, ok, dp, q with
 | .num c, ev, is, ok, dp, q =>
   obtain ⟨p, rfl, hp⟩ := ev
   refine ⟨_, rfl, p, _, _, _, rfl, rfl, SqT.of hp, rfl, rfl, _, rfl, iteT' (by decide) ?_⟩
   refine fun d hd => ?_
   have sd := same_new hd (.dK [])
   refine ⟨_, rfl, p, _, _, _, rfl, rfl, SqT.of (sd _ _ hp), rfl, upd_same, [(.inr "", .int c)], rfl, by show 1 ≤ 15; decide, ?_⟩
   refine q d _ _ (same_put sd hd) hd upd_same ⟨⟨c, rfl⟩, by show [(Sum.inr "" : Key)].Nodup; decide +kernel, fun r hr => ⟨"", c, List.mem_singleton.mp hr, .inl rfl⟩⟩
 | .box b x, ev, is, ok, dp, q =>
   obtain ⟨p, rfl, hp⟩ := ev
   obtain ⟨rfl, hx⟩ := ok
   refine ⟨_, rfl, p, _, _, _, rfl, rfl, SqT.of hp, rfl, rfl, _, rfl, iteF' (by decide) (kR _ _ ?_)⟩
   clear kR
   refine cut1 fun Rk kR => ?_
   refine ⟨_, rfl, p, _, _, _, rfl, rfl, SqT.of hp, rfl, rfl, _, rfl, iteT' (by decide) ?_⟩
   refine fun d hd => ?_
   have sd := same_new hd (.dK [])
   refine ⟨_, rfl, p, _, _, _, rfl, rfl, SqT.of (sd _ _ hp), rfl, upd_same, [(.inr "", .int 0), (.inr x, .int 1)], rfl, by show 2 ≤ 15; decide, ?_⟩
   have pk : PartsK ns (putK (putK [] (.inr "") (.int 0)) (.inr x) (.int 1)) := by
     have n1 : ((putK ([] : List (Key × V)) (.inr "") (.int 0)).map (·.1)).Nodup := putK_nd List.nodup_nil
     refine ⟨?_, putK_nd n1, fun r hr => ?_⟩
     · rw [valV_put]
       split
       · exact ⟨1, rfl⟩
       · exact ⟨0, rfl⟩
     · rcases putK_mem hr with rfl | z
       · exact ⟨x, 1, rfl, .inr hx⟩
       · rcases putK_mem z with rfl | z
         · exact ⟨"", 0, rfl, .inl rfl⟩
         · exact nomatch z
   exact q d _ _ (same_put sd hd) hd upd_same pk
 | .two .plus a b, ev, is, ok, dp, q =>
   obtain ⟨x, y, ⟨p, rfl, hp⟩, ea, eb⟩ := ev
   have dp : max a.dep b.dep + 1 < n + 1 := dp
   have isa := is.1
   have isb := is.2
   have oka := ok.1
   have okb := ok.2
   have da : a.dep < n := by omega
   have db : b.dep < n := by omega
   refine ⟨_, rfl, p, _, _, _, rfl, rfl, SqT.of hp, rfl, rfl, _, rfl, iteF' (by decide) (kR _ _ ?_)⟩
   clear kR
   refine cut1 fun Rk kR => ?_
   refine ⟨_, rfl, p, _, _, _, rfl, rfl, SqT.of hp, rfl, rfl, _, rfl, iteF' (by decide) (kR _ _ ?_)⟩
   clear kR
   refine cut1 fun Rk kR => ?_
   refine ⟨_, rfl, p, _, _, _, rfl, rfl, SqT.of hp, rfl, x, a, ns, rfl, ea, isa, oka, da, by omega, l4, fun d1 kv1 H1 s1 n1 g1 pk1 => ?_⟩
   have hp1 := s1 _ _ hp
   refine ⟨_, rfl, p, _, _, _, rfl, rfl, SqT.of hp1, rfl, y, b, ns, rfl, eb.keep (Same.tk s1), isb, okb, db, by omega, l4, fun d2 kv2 H2 s2 n2 g2 pk2 => ?_⟩
   refine ⟨(by show 2 ≤ sizeLine; decide), fun t0 ht0 => ?_⟩
   have s3 := same_new ht0 (.tup [.ref d1, .ref d2])
   have g3 : (upd H2 t0 (.tup [.ref d1, .ref d2])) t0 = some (.tup [.ref d1, .ref d2]) := upd_same
   have g13 := s3 _ _ (s2 _ _ g1)
   have g23 := s3 _ _ g2
   generalize upd H2 t0 (.tup [.ref d1, .ref d2]) = H3 at s3 g3 g13 g23 ⊢
   refine ⟨t0, _, rfl, SqT.of g3, rfl, _, _, rfl, _, _, rfl, rfl, ?_⟩
   refine kR _ _ ?_
   clear kR
   refine normS [some (.ref p), some (.ref d1), some (.ref d2), none] rfl ?_
   refine cut1 fun Rk kR => ?_
   have s03 := same_trans s1 (same_trans s2 s3)
   have sgn : Rk [some (.ref p), some (.ref d1), some (.ref d2), some (.int (1))] H3 := by
     refine kR _ _ ?_
     clear kR
     have l1 := pk1.len
     have l2 := pk2.len
     have big : 1000 ≤ sizeLine := by decide
     refine ⟨_, rfl, d1, kv1, rfl, g13, fun m1 hm1 => ?_⟩
     have s4 := same_new hm1 (.lst (kv1.map fun kv => kV kv.1))
     have h4 : (upd H3 m1 (.lst (kv1.map fun kv => kV kv.1))) m1 = some (.lst (kv1.map fun kv => kV kv.1)) := upd_same
     generalize upd H3 m1 (.lst (kv1.map fun kv => kV kv.1)) = H35 at s4 h4 ⊢
     refine ⟨_, rfl, d2, kv2, rfl, s4 _ _ g23, fun m2 hm2 => ?_⟩
     have s5 := same_new hm2 (.lst (kv2.map fun kv => kV kv.1))
     have h5 : (upd H35 m2 (.lst (kv2.map fun kv => kV kv.1))) m2 = some (.lst (kv2.map fun kv => kV kv.1)) := upd_same
     generalize upd H35 m2 (.lst (kv2.map fun kv => kV kv.1)) = H36 at s5 h5 ⊢
     refine ⟨m1, m2, _, _, rfl, rfl, s5 _ _ h4, h5, (by rw [List.length_map, List.length_map]; omega), fun m3 hm3 => ?_⟩
     obtain ⟨k1, ek1⟩ : ∃ k1, k1 = kv1.map (·.1) := ⟨_, rfl⟩
     obtain ⟨k2, ek2⟩ : ∃ k2, k2 = kv2.map (·.1) := ⟨_, rfl⟩
     have eml : (kv1.map fun kv => kV kv.1) ++ (kv2.map fun kv => kV kv.1) = (k1 ++ k2).map kV := by rw [List.map_append, ek1, ek2, List.map_map, List.map_map]; rfl
     rw [eml]
     have s6 := same_new hm3 (.lst ((k1 ++ k2).map kV))
     have h6 : (upd H36 m3 (.lst ((k1 ++ k2).map kV))) m3 = some (.lst ((k1 ++ k2).map kV)) := upd_same
     generalize upd H36 m3 (.lst ((k1 ++ k2).map kV)) = H4 at s6 h6 ⊢
     have s36 := same_trans s4 (same_trans s5 s6)
     have gd1 := s36 _ _ g13
     have gd2 := s36 _ _ g23
     have kl : (k1 ++ k2).length ≤ 10 := by rw [List.length_append, ek1, ek2, List.length_map, List.length_map]; omega
     have kin : ∀ k ∈ k1 ++ k2, ∃ x : Str, k = .inr x ∧ (x = "" ∨ x ∈ ns) := fun k hk => by
       rcases List.mem_append.mp hk with z | z
       · rw [ek1] at z
         obtain ⟨r, hr, rfl⟩ := List.mem_map.mp z
         obtain ⟨x, c, rfl, w⟩ := pk1.ks r hr
         exact ⟨x, rfl, w⟩
       · rw [ek2] at z
         obtain ⟨r, hr, rfl⟩ := List.mem_map.mp z
         obtain ⟨x, c, rfl, w⟩ := pk2.ks r hr
         exact ⟨x, rfl, w⟩
     refine ⟨m3, rfl, ⟨_, SqL.of h6⟩, fun D hD => ?_⟩
     refine comp_list (xs := (k1 ++ k2).map kV) (fun (i : Nat) (Hx : Hp) => Same H4 Hx ∧ ∃ kvs, Hx D = some (.dK kvs) ∧ (kvs.map (·.1)).Nodup ∧ (∀ q ∈ kvs, ∃ (x : Str) (c : Int), q = (.inr x, .int c) ∧ (x = "" ∨ x ∈ ns)) ∧ (∀ (j : Nat) (k : Key), j < i → (k1 ++ k2)[j]? = some k → k ∈ kvs.map (·.1)) ∧ kvs.length ≤ i) ⟨same_new hD _, [], upd_same, List.nodup_nil, (fun r hr => nomatch hr), (fun j k hj => absurd hj (Nat.not_lt_zero _)), Nat.le_refl _⟩ (fun i Hx _ z => SqL.of (z.1 _ _ h6)) (fun i x0 Hx hx z => ?_) (fun Hx z => ?_)
     · obtain ⟨sx, kvs, gD, nd, ks, inn, kvl⟩ := z
       have hil := (List.getElem?_eq_some_iff.mp hx).1
       obtain ⟨k, hk, rfl⟩ := map_get hx
       obtain ⟨x1, rfl, w1⟩ := kin k (List.mem_of_getElem? hk)
       refine gn_go ?_
       refine turn0 (A := fun H5 => mPut _ _ D _ H5 _) ?_
       obtain ⟨c1, ec1⟩ := PartsK.int pk1.ks (.inr x1)
       obtain ⟨c2, ec2⟩ := PartsK.int pk2.ks (.inr x1)
       have e1 : DGet Hx d1 (.str x1) (valV kv1 (.inr x1)) := DGet.k (k := .inr x1) (sx _ _ gd1)
       have e2 : DGet Hx d2 (.str x1) (valV kv2 (.inr x1)) := DGet.k (k := .inr x1) (sx _ _ gd2)
       refine ⟨_, rfl, _, rfl, d1, rfl, .inl ⟨_, .inl (sx _ _ gd1)⟩, _, rfl, _, e1, ?_⟩
       rw [ec1]
       refine ⟨_, rfl, _, rfl, d2, rfl, .inl ⟨_, .inl (sx _ _ gd2)⟩, _, rfl, _, e2, ?_⟩
       rw [ec2]
       refine ⟨_, _, rfl, rfl, .inl ⟨by decide, by decide⟩, _, _, rfl, rfl, _, DPut.k (k := .inr x1) gD (small1000 (by rw [List.length_map] at hil; omega)), comp_end (Pv := fun (i : Nat) (Hx : Hp) => Same H4 Hx ∧ ∃ kvs, Hx D = some (.dK kvs) ∧ (kvs.map (·.1)).Nodup ∧ (∀ q ∈ kvs, ∃ (x : Str) (c : Int), q = (.inr x, .int c) ∧ (x = "" ∨ x ∈ ns)) ∧ (∀ (j : Nat) (k : Key), j < i → (k1 ++ k2)[j]? = some k → k ∈ kvs.map (·.1)) ∧ kvs.length ≤ i) (by repeat' constructor) hil ⟨same_put sx hD, _, upd_same, putK_nd nd, fun r hr => ?_, fun j k hj hjk => ?_, ?_⟩⟩
       · rcases putK_mem hr with rfl | z
         · exact ⟨x1, _, rfl, w1⟩
         · exact ks r z
       · have mem : ∀ k', k' ∈ kvs.map (·.1) → k' ∈ (putK kvs (.inr x1) (.int (c1 + (1) * c2))).map (·.1) := fun k' hk' => by
           by_cases e : k' = .inr x1
           · subst e
             exact valV_in (v := .int (c1 + (1) * c2)) (by rw [valV_put, if_pos rfl])
           · cases hv : valV kvs k' with
             | none => exact absurd hk' (valV_not hv)
             | some u => exact valV_in (v := u) (by rw [valV_put, if_neg e]; exact hv)
         by_cases c : j < i
         · exact mem k (inn j k c hjk)
         · have ej : j = i := by omega
           subst ej
           rw [hk] at hjk
           cases hjk
           exact valV_in (v := .int (c1 + (1) * c2)) (by rw [valV_put, if_pos rfl])
       · exact Nat.le_trans (length_putK _ _ _) (by omega)
     obtain ⟨sx, kvs, gD, nd, ks, inn, kvl⟩ := z
     have e0 : (Sum.inr "" : Key) ∈ kvs.map (·.1) := by
       obtain ⟨c, hc⟩ := pk1.nl
       have hm := valV_in hc
       rw [← ek1] at hm
       obtain ⟨j, hj⟩ := List.mem_iff_getElem?.mp (List.mem_append.mpr (.inl hm) : (Sum.inr "" : Key) ∈ k1 ++ k2)
       have jl := (List.getElem?_eq_some_iff.mp hj).1
       exact inn j _ (by rw [List.length_map]; exact jl) hj
     have nl : ∃ c : Int, valV kvs (.inr "") = some (.int c) := by
       cases hv : valV kvs (.inr "") with
       | none => exact absurd e0 (valV_not hv)
       | some u =>
         obtain ⟨c, hc⟩ := PartsK.int ks (.inr "")
         rw [hv] at hc
         exact ⟨c, congrArg some hc⟩
     exact q D kvs _ (same_trans s03 (same_trans s36 sx)) (none_of_same (same_trans s03 s36) hD) gD ⟨nl, nd, ks⟩
   refine ⟨_, rfl, p, _, _, _, rfl, rfl, SqT.of (s03 _ _ hp), rfl, rfl, _, rfl, ?_⟩
   refine iteT' (by decide) ?_
   refine gn_go ?_
   exact sgn
 | .two .less a b, ev, is, ok, dp, q =>
   obtain ⟨x, y, ⟨p, rfl, hp⟩, ea, eb⟩ := ev
   have dp : max a.dep b.dep + 1 < n + 1 := dp
   have isa := is.1
   have isb := is.2
   have oka := ok.1
   have okb := ok.2
   have da : a.dep < n := by omega
   have db : b.dep < n := by omega
   refine ⟨_, rfl, p, _, _, _, rfl, rfl, SqT.of hp, rfl, rfl, _, rfl, iteF' (by decide) (kR _ _ ?_)⟩
   clear kR
   refine cut1 fun Rk kR => ?_
   refine ⟨_, rfl, p, _, _, _, rfl, rfl, SqT.of hp, rfl, rfl, _, rfl, iteF' (by decide) (kR _ _ ?_)⟩
   clear kR
   refine cut1 fun Rk kR => ?_
   refine ⟨_, rfl, p, _, _, _, rfl, rfl, SqT.of hp, rfl, x, a, ns, rfl, ea, isa, oka, da, by omega, l4, fun d1 kv1 H1 s1 n1 g1 pk1 => ?_⟩
   have hp1 := s1 _ _ hp
   refine ⟨_, rfl, p, _, _, _, rfl, rfl, SqT.of hp1, rfl, y, b, ns, rfl, eb.keep (Same.tk s1), isb, okb, db, by omega, l4, fun d2 kv2 H2 s2 n2 g2 pk2 => ?_⟩
   refine ⟨(by show 2 ≤ sizeLine; decide), fun t0 ht0 => ?_⟩
   have s3 := same_new ht0 (.tup [.ref d1, .ref d2])
   have g3 : (upd H2 t0 (.tup [.ref d1, .ref d2])) t0 = some (.tup [.ref d1, .ref d2]) := upd_same
   have g13 := s3 _ _ (s2 _ _ g1)
   have g23 := s3 _ _ g2
   generalize upd H2 t0 (.tup [.ref d1, .ref d2]) = H3 at s3 g3 g13 g23 ⊢
   refine ⟨t0, _, rfl, SqT.of g3, rfl, _, _, rfl, _, _, rfl, rfl, ?_⟩
   refine kR _ _ ?_
   clear kR
   refine normS [some (.ref p), some (.ref d1), some (.ref d2), none] rfl ?_
   refine cut1 fun Rk kR => ?_
   have s03 := same_trans s1 (same_trans s2 s3)
   have sgn : Rk [some (.ref p), some (.ref d1), some (.ref d2), some (.int (-1))] H3 := by
     refine kR _ _ ?_
     clear kR
     have l1 := pk1.len
     have l2 := pk2.len
     have big : 1000 ≤ sizeLine := by decide
     refine ⟨_, rfl, d1, kv1, rfl, g13, fun m1 hm1 => ?_⟩
     have s4 := same_new hm1 (.lst (kv1.map fun kv => kV kv.1))
     have h4 : (upd H3 m1 (.lst (kv1.map fun kv => kV kv.1))) m1 = some (.lst (kv1.map fun kv => kV kv.1)) := upd_same
     generalize upd H3 m1 (.lst (kv1.map fun kv => kV kv.1)) = H35 at s4 h4 ⊢
     refine ⟨_, rfl, d2, kv2, rfl, s4 _ _ g23, fun m2 hm2 => ?_⟩
     have s5 := same_new hm2 (.lst (kv2.map fun kv => kV kv.1))
     have h5 : (upd H35 m2 (.lst (kv2.map fun kv => kV kv.1))) m2 = some (.lst (kv2.map fun kv => kV kv.1)) := upd_same
     generalize upd H35 m2 (.lst (kv2.map fun kv => kV kv.1)) = H36 at s5 h5 ⊢
     refine ⟨m1, m2, _, _, rfl, rfl, s5 _ _ h4, h5, (by rw [List.length_map, List.length_map]; omega), fun m3 hm3 => ?_⟩
     obtain ⟨k1, ek1⟩ : ∃ k1, k1 = kv1.map (·.1) := ⟨_, rfl⟩
     obtain ⟨k2, ek2⟩ : ∃ k2, k2 = kv2.map (·.1) := ⟨_, rfl⟩
     have eml : (kv1.map fun kv => kV kv.1) ++ (kv2.map fun kv => kV kv.1) = (k1 ++ k2).map kV := by rw [List.map_append, ek1, ek2, List.map_map, List.map_map]; rfl
     rw [eml]
     have s6 := same_new hm3 (.lst ((k1 ++ k2).map kV))
     have h6 : (upd H36 m3 (.lst ((k1 ++ k2).map kV))) m3 = some (.lst ((k1 ++ k2).map kV)) := upd_same
     generalize upd H36 m3 (.lst ((k1 ++ k2).map kV)) = H4 at s6 h6 ⊢
     have s36 := same_trans s4 (same_trans s5 s6)
     have gd1 := s36 _ _ g13
     have gd2 := s36 _ _ g23
     have kl : (k1 ++ k2).length ≤ 10 := by rw [List.length_append, ek1, ek2, List.length_map, List.length_map]; omega
     have kin : ∀ k ∈ k1 ++ k2, ∃ x : Str, k = .inr x ∧ (x = "" ∨ x ∈ ns) := fun k hk => by
       rcases List.mem_append.mp hk with z | z
       · rw [ek1] at z
         obtain ⟨r, hr, rfl⟩ := List.mem_map.mp z
         obtain ⟨x, c, rfl, w⟩ := pk1.ks r hr
         exact ⟨x, rfl, w⟩
       · rw [ek2] at z
         obtain ⟨r, hr, rfl⟩ := List.mem_map.mp z
         obtain ⟨x, c, rfl, w⟩ := pk2.ks r hr
         exact ⟨x, rfl, w⟩
     refine ⟨m3, rfl, ⟨_, SqL.of h6⟩, fun D hD => ?_⟩
     refine comp_list (xs := (k1 ++ k2).map kV) (fun (i : Nat) (Hx : Hp) => Same H4 Hx ∧ ∃ kvs, Hx D = some (.dK kvs) ∧ (kvs.map (·.1)).Nodup ∧ (∀ q ∈ kvs, ∃ (x : Str) (c : Int), q = (.inr x, .int c) ∧ (x = "" ∨ x ∈ ns)) ∧ (∀ (j : Nat) (k : Key), j < i → (k1 ++ k2)[j]? = some k → k ∈ kvs.map (·.1)) ∧ kvs.length ≤ i) ⟨same_new hD _, [], upd_same, List.nodup_nil, (fun r hr => nomatch hr), (fun j k hj => absurd hj (Nat.not_lt_zero _)), Nat.le_refl _⟩ (fun i Hx _ z => SqL.of (z.1 _ _ h6)) (fun i x0 Hx hx z => ?_) (fun Hx z => ?_)
     · obtain ⟨sx, kvs, gD, nd, ks, inn, kvl⟩ := z
       have hil := (List.getElem?_eq_some_iff.mp hx).1
       obtain ⟨k, hk, rfl⟩ := map_get hx
       obtain ⟨x1, rfl, w1⟩ := kin k (List.mem_of_getElem? hk)
       refine gn_go ?_
       refine turn0 (A := fun H5 => mPut _ _ D _ H5 _) ?_
       obtain ⟨c1, ec1⟩ := PartsK.int pk1.ks (.inr x1)
       obtain ⟨c2, ec2⟩ := PartsK.int pk2.ks (.inr x1)
       have e1 : DGet Hx d1 (.str x1) (valV kv1 (.inr x1)) := DGet.k (k := .inr x1) (sx _ _ gd1)
       have e2 : DGet Hx d2 (.str x1) (valV kv2 (.inr x1)) := DGet.k (k := .inr x1) (sx _ _ gd2)
       refine ⟨_, rfl, _, rfl, d1, rfl, .inl ⟨_, .inl (sx _ _ gd1)⟩, _, rfl, _, e1, ?_⟩
       rw [ec1]
       refine ⟨_, rfl, _, rfl, d2, rfl, .inl ⟨_, .inl (sx _ _ gd2)⟩, _, rfl, _, e2, ?_⟩
       rw [ec2]
       refine ⟨_, _, rfl, rfl, .inl ⟨by decide, by decide⟩, _, _, rfl, rfl, _, DPut.k (k := .inr x1) gD (small1000 (by rw [List.length_map] at hil; omega)), comp_end (Pv := fun (i : Nat) (Hx : Hp) => Same H4 Hx ∧ ∃ kvs, Hx D = some (.dK kvs) ∧ (kvs.map (·.1)).Nodup ∧ (∀ q ∈ kvs, ∃ (x : Str) (c : Int), q = (.inr x, .int c) ∧ (x = "" ∨ x ∈ ns)) ∧ (∀ (j : Nat) (k : Key), j < i → (k1 ++ k2)[j]? = some k → k ∈ kvs.map (·.1)) ∧ kvs.length ≤ i) (by repeat' constructor) hil ⟨same_put sx hD, _, upd_same, putK_nd nd, fun r hr => ?_, fun j k hj hjk => ?_, ?_⟩⟩
       · rcases putK_mem hr with rfl | z
         · exact ⟨x1, _, rfl, w1⟩
         · exact ks r z
       · have mem : ∀ k', k' ∈ kvs.map (·.1) → k' ∈ (putK kvs (.inr x1) (.int (c1 + (-1) * c2))).map (·.1) := fun k' hk' => by
           by_cases e : k' = .inr x1
           · subst e
             exact valV_in (v := .int (c1 + (-1) * c2)) (by rw [valV_put, if_pos rfl])
           · cases hv : valV kvs k' with
             | none => exact absurd hk' (valV_not hv)
             | some u => exact valV_in (v := u) (by rw [valV_put, if_neg e]; exact hv)
         by_cases c : j < i
         · exact mem k (inn j k c hjk)
         · have ej : j = i := by omega
           subst ej
           rw [hk] at hjk
           cases hjk
           exact valV_in (v := .int (c1 + (-1) * c2)) (by rw [valV_put, if_pos rfl])
       · exact Nat.le_trans (length_putK _ _ _) (by omega)
     obtain ⟨sx, kvs, gD, nd, ks, inn, kvl⟩ := z
     have e0 : (Sum.inr "" : Key) ∈ kvs.map (·.1) := by
       obtain ⟨c, hc⟩ := pk1.nl
       have hm := valV_in hc
       rw [← ek1] at hm
       obtain ⟨j, hj⟩ := List.mem_iff_getElem?.mp (List.mem_append.mpr (.inl hm) : (Sum.inr "" : Key) ∈ k1 ++ k2)
       have jl := (List.getElem?_eq_some_iff.mp hj).1
       exact inn j _ (by rw [List.length_map]; exact jl) hj
     have nl : ∃ c : Int, valV kvs (.inr "") = some (.int c) := by
       cases hv : valV kvs (.inr "") with
       | none => exact absurd e0 (valV_not hv)
       | some u =>
         obtain ⟨c, hc⟩ := PartsK.int ks (.inr "")
         rw [hv] at hc
         exact ⟨c, congrArg some hc⟩
     exact q D kvs _ (same_trans s03 (same_trans s36 sx)) (none_of_same (same_trans s03 s36) hD) gD ⟨nl, nd, ks⟩
   refine ⟨_, rfl, p, _, _, _, rfl, rfl, SqT.of (s03 _ _ hp), rfl, rfl, _, rfl, ?_⟩
   refine iteF' (by decide) ?_
   refine ⟨_, rfl, ?_⟩
   refine gn_go ?_
   exact sgn
theorem has_paO (s : Src K mg "parts_of" sPaO) (m_list : mg "list" = none) : ∀ n : Nat, Has P w K mg base "parts_of" ["sum_told"] (n + 2) (spPaO n) := by
  obtain ⟨f, fd, F, m⟩ := s
  have b : Binds K fd ["sum_told"] [] := bnd1 F fun _ _ _ _ _ _ _ => rfl
  intro n
  have all : FnOk P w K mg base CX0 (n + 2) f fd ["sum_told"] (spPaO n) := by
    induction n with
    | zero => exact none_paO
    | succ n ih => exact ok_paO F m_list ⟨f, fd, ih, F.kp, b, m⟩
  exact ⟨f, fd, all, F.kp, b, m⟩
def spSmP : Sp := fun vs H Q _ => ∃ (m s : Int), vs = [.int m, .int s] ∧ 0 < s ∧ ∀ c : Int, -s ≤ c → c < s → Q (.int c) H
theorem scSmP : FnScope ["many", "size", "rest"] ["many", "size"] (defScope sSmP) := ⟨rfl, rfl, rfl, by decide +kernel, rfl, by decide +kernel, by decide +kernel⟩
theorem ok_smP {f : Addr} {fd : FuncData} (F : Fun K "small_part" "small_part" sSmP f fd)  : FnOk P w K mg base CX0 1 f fd ["many", "size"] spSmP := by
 refine F.ok scSmP (fun vs H Q E h => ?_) (fun cdv A outer s H vs Q E hr h => ?_)
 · obtain ⟨m, s, rfl, _⟩ := h
   rfl
 obtain ⟨m, s, rfl, s0, q⟩ := h
 refine goL ⟨_, (L3.cons (L3.set 2 scSmP.nd (L3.op L3.o_mod (L3.v 0) (L3.v 1)))
   (L3.one (L3.ret (L3.ifE (L3.cmp L3.o_gt (L3.op L3.o_mul (L3.v 2) L3.int) (L3.v 1)) (L3.op L3.o_sub (L3.v 2) (L3.v 1)) (L3.v 2))))), ?_⟩
 refine cut1 fun Rk kR => ?_
 refine ⟨_, rfl, _, rfl, _, _, rfl, rfl, s0, ?_⟩
 obtain ⟨r, er, r0, r1⟩ : ∃ r, r = m % s ∧ 0 ≤ r ∧ r < s := ⟨_, rfl, mod_lo s0, mod_hi s0⟩
 refine gn_go ?_
 refine kR _ _ ?_
 refine normS [some (.int m), some (.int s), some (.int r)] (by rw [er]; rfl) ?_
 refine ⟨_, rfl, _, _, rfl, rfl, .inr ⟨by decide, by decide⟩, _, rfl, _, _, rfl, rfl, _, rfl, ?_⟩
 refine ite2 (fun _ => ?_) (fun _ => ?_)
 · exact ⟨_, rfl, _, rfl, _, _, rfl, rfl, q (r - s) (by omega) (by omega)⟩
 · exact ⟨_, rfl, q r (by omega) (by omega)⟩
theorem has_smP (s : Src K mg "small_part" sSmP)  : Has P w K mg base "small_part" ["many", "size"] 1 spSmP :=
  let ⟨f, fd, F, m⟩ := s
  ⟨f, fd, ok_smP F , F.kp, bnd2 F fun _ _ _ _ _ _ _ _ => rfl, m⟩
abbrev sAnyO : Stmt := top 20
abbrev sSmS : Stmt := top 36
def spJn (n : Nat) : Sp := fun vs H Q _ => ∃ (x : Str) (l : Addr) (us : List V), vs = [.str x, .ref l] ∧ H l = some (.lst us) ∧ 1 ≤ us.length ∧ us.length ≤ 2 ^ n ∧ n ≤ 12 ∧ ∀ (v : V) (H' : Hp), Same H H' → Q v H'
theorem ok_jn0 {f : Addr} {fd : FuncData} (F : Fun K "joined_by" "joined_by" sJoined f fd) (m_len : mg "len" = none) : FnOk P w K mg base CX0 1 f fd ["word", "parts"] (spJn 0) := by
 refine F.ok scJoined (fun vs H Q E h => ?_) (fun cdv A outer s H vs Q E hr h => ?_)
 · obtain ⟨x, l, us, rfl, _⟩ := h
   rfl
 obtain ⟨x, l, us, rfl, hl, l1, ln, n9, q⟩ := h
 refine goL ⟨_, (L3.cons (L3.ifs (L3.cmp L3.o_eq (L3.callB L3.c_len gJoined_len m_len PySem.boot_len (L3.k (L3.v 1) L3.n)) L3.int) (L3.one (L3.ret (L3.ix L3.ixL (L3.v 1) L3.int))) L3.nil)
   L3.never), ?_⟩
 have c1 : us.length = 1 := by
   have : us.length ≤ 1 := ln
   omega
 match us, hl, c1 with
 | [u], hl, _ =>
   refine ⟨_, rfl, l, _, rfl, .inl (SqL.of hl), rfl, _, rfl, iteT ?_⟩
   exact ⟨_, rfl, l, _, _, _, rfl, rfl, SqL.of hl, at0, q _ _ (same_refl _)⟩
theorem ok_jn {n : Nat} {f : Addr} {fd : FuncData} (F : Fun K "joined_by" "joined_by" sJoined f fd) (m_len : mg "len" = none) (G : Has P w K mg base "joined_by" ["word", "parts"] (n + 1) (spJn n)) : FnOk P w K mg base CX0 (n + 1 + 1) f fd ["word", "parts"] (spJn (n + 1)) := by
 refine F.ok scJoined (fun vs H Q E h => ?_) (fun cdv A outer s H vs Q E hr h => ?_)
 · obtain ⟨x, l, us, rfl, _⟩ := h
   rfl
 obtain ⟨x, l, us, rfl, hl, l1, ln, n9, q⟩ := h
 refine goL ⟨_, (L3.cons (L3.ifs (L3.cmp L3.o_eq (L3.callB L3.c_len gJoined_len m_len PySem.boot_len (L3.k (L3.v 1) L3.n)) L3.int) (L3.one (L3.ret (L3.ix L3.ixL (L3.v 1) L3.int))) L3.nil)
   (L3.cons (L3.set 2 scJoined.nd (L3.op L3.o_div (L3.callB L3.c_len gJoined_len m_len PySem.boot_len (L3.k (L3.v 1) L3.n)) L3.int))
   (L3.one (L3.ret (L3.tup (L3.k (L3.v 0) (L3.k (L3.own G hr gJoined_joined_by (L3.k (L3.v 0) (L3.k (L3.slL2 (L3.v 1) (L3.v 2)) L3.n))) (L3.k (L3.own G hr gJoined_joined_by (L3.k (L3.v 0) (L3.k (L3.slL1 (L3.v 1) (L3.v 2)) L3.n))) L3.n)))))))), ?_⟩
 refine cut1 fun Rk kR => ?_
 refine ⟨_, rfl, l, us, rfl, .inl (SqL.of hl), rfl, _, rfl, ite2 (fun c => ?_) (fun c => ?_)⟩
 · match us, hl, l1 with
   | u :: us, hl, l1 => exact ⟨_, rfl, l, _, _, _, rfl, rfl, SqL.of hl, at0, q _ _ (same_refl _)⟩
 have c1 : us.length ≠ 1 := fun z => c (by rw [z]; rfl)
 have pw : 2 ^ (n + 1) ≤ 2 ^ 12 := Nat.pow_le_pow_right (by decide) n9
 have pw2 : 2 ^ (n + 1) = 2 ^ n * 2 := Nat.pow_succ 2 n
 have pw3 : (2 : Nat) ^ 12 = 4096 := by decide
 refine kR _ _ ?_
 clear kR
 refine cut1 fun Rk kR => ?_
 refine ⟨_, rfl, l, us, rfl, .inl (SqL.of hl), _, _, rfl, rfl, ⟨by decide, by decide⟩, ?_⟩
 refine gn_go ?_
 refine kR _ _ ?_
 clear kR
 have eh : ((us.length : Int) / 2) = ((us.length / 2 : Nat) : Int) := rfl
 refine normS [some (.str x), some (.ref l), some (.int ((us.length / 2 : Nat) : Int))] (by show [some (V.str x), some (V.ref l), some (V.int ((us.length : Int) / 2))] = _; rw [show (us.length : Int) / 2 = ((us.length / 2 : Nat) : Int) by omega]) ?_
 refine ⟨_, rfl, _, rfl, _, rfl, _, rfl, _, rfl, l, _, rfl, SqL.of hl, fun a1 ha1 => ?_⟩
 rw [cut_hi _ _ (by omega)]
 have s1 := same_new ha1 (.lst (us.take (us.length / 2)))
 have g1 : (upd H a1 (.lst (us.take (us.length / 2)))) a1 = some (.lst (us.take (us.length / 2))) := upd_same
 generalize upd H a1 (.lst (us.take (us.length / 2))) = H1 at s1 g1 ⊢
 refine ⟨x, a1, _, rfl, g1, by rw [List.length_take]; omega, by rw [List.length_take]; omega, by omega, fun v1 H2 s2 => ?_⟩
 have s12 := same_trans s1 s2
 refine ⟨_, rfl, _, rfl, _, rfl, _, rfl, l, _, rfl, SqL.of (s12 _ _ hl), fun a2 ha2 => ?_⟩
 rw [cut_lo _ _ (by omega)]
 have s3 := same_new ha2 (.lst (us.drop (us.length / 2)))
 have g3 : (upd H2 a2 (.lst (us.drop (us.length / 2)))) a2 = some (.lst (us.drop (us.length / 2))) := upd_same
 generalize upd H2 a2 (.lst (us.drop (us.length / 2))) = H3 at s3 g3 ⊢
 refine ⟨x, a2, _, rfl, g3, by rw [List.length_drop]; omega, by rw [List.length_drop]; omega, by omega, fun v2 H4 s4 => ⟨(by show 3 ≤ sizeLine; decide), fun p hp => ?_⟩⟩
 exact q _ _ (same_add (same_trans s12 (same_trans s3 s4)) hp)
theorem has_jn (s : Src K mg "joined_by" sJoined) (m_len : mg "len" = none) : ∀ n : Nat, Has P w K mg base "joined_by" ["word", "parts"] (n + 1) (spJn n) := by
  obtain ⟨f, fd, F, m⟩ := s
  have b : Binds K fd ["word", "parts"] [] := bnd2 F fun _ _ _ _ _ _ _ _ => rfl
  intro n
  have all : FnOk P w K mg base CX0 (n + 1) f fd ["word", "parts"] (spJn n) := by
    induction n with
    | zero => exact ok_jn0 F m_len
    | succ n ih => exact ok_jn F m_len ⟨f, fd, ih, F.kp, b, m⟩
  exact ⟨f, fd, all, F.kp, b, m⟩
def spAllN : Sp := fun vs H Q _ => ∃ (l : Addr) (us : List V), vs = [.ref l] ∧ H l = some (.lst us) ∧ 1 ≤ us.length ∧ us.length ≤ 4096 ∧ ∀ (v : V) (H' : Hp), Same H H' → Q v H'
theorem ok_allN {f : Addr} {fd : FuncData} (F : Fun K "all_of" "all_of" sAllOf f fd) (J : Has P w K mg base "joined_by" ["word", "parts"] 13 (spJn 12)) : FnOk P w K mg base CX0 14 f fd ["conditions"] spAllN := by
 refine F.ok scAllOf (fun vs H Q E h => ?_) (fun cdv A outer s H vs Q E hr h => ?_)
 · obtain ⟨l, us, rfl, _⟩ := h
   rfl
 obtain ⟨l, us, rfl, hl, l1, l2, q⟩ := h
 refine goL ⟨_, (L3.one (L3.ret (L3.own J hr gAllOf_joined_by (L3.k L3.str (L3.k (L3.v 0) L3.n))))), ?_⟩
 exact ⟨_, rfl, "both", l, us, rfl, hl, l1, l2, by decide, q⟩
theorem has_allN (s : Src K mg "all_of" sAllOf) (J : Has P w K mg base "joined_by" ["word", "parts"] 13 (spJn 12)) : Has P w K mg base "all_of" ["conditions"] 14 spAllN :=
  let ⟨f, fd, F, m⟩ := s
  ⟨f, fd, ok_allN F J, F.kp, bnd1 F fun _ _ _ _ _ _ _ => rfl, m⟩
theorem scAnyO : FnScope ["conditions"] ["conditions"] (defScope sAnyO) := ⟨rfl, rfl, rfl, by decide +kernel, rfl, by decide +kernel, by decide +kernel⟩
theorem gAnyO_all_of : GLB sAnyO "all_of" := by decide +kernel
theorem gAnyO_len : GLB sAnyO "len" := by decide +kernel
def spAnyO : Sp := fun vs H Q _ => ∃ (l : Addr) (us : List V), vs = [.ref l] ∧ H l = some (.lst us) ∧ 1 ≤ us.length ∧ us.length ≤ 4096 ∧ ∀ (v : V) (H' : Hp), Same H H' → Q v H'
theorem ok_anyO {f : Addr} {fd : FuncData} (F : Fun K "any_of" "any_of" sAnyO f fd) (m_len : mg "len" = none) (AO : Has P w K mg base "all_of" ["conditions"] 14 spAllN) : FnOk P w K mg base CX0 15 f fd ["conditions"] spAnyO := by
 refine F.ok scAnyO (fun vs H Q E h => ?_) (fun cdv A outer s H vs Q E hr h => ?_)
 · obtain ⟨l, us, rfl, _⟩ := h
   rfl
 obtain ⟨l, us, rfl, hl, l1, l2, q⟩ := h
 refine goL ⟨_, (L3.cons (L3.ifs (L3.cmp L3.o_eq (L3.callB L3.c_len gAnyO_len m_len PySem.boot_len (L3.k (L3.v 0) L3.n)) L3.int) (L3.one (L3.ret (L3.ix L3.ixL (L3.v 0) L3.int))) L3.nil)
   (L3.one (L3.ret (L3.tup (L3.k L3.str (L3.k (L3.own AO hr gAnyO_all_of (L3.k (L3.lc [none] ["condition"] (show CompScope _ (defScope sAnyO) from ⟨rfl, by decide +kernel, by decide +kernel, by decide +kernel⟩) (by rfl) (L3.iL (L3.v 0)) (fun _ _ _ _ _ => ⟨(L3.gn 0 (show (["condition"] : List Str).Nodup from by decide +kernel)), L3.if0, (L3.tup (L3.k L3.str (L3.k (L3.v 0) L3.n)))⟩)) L3.n)) L3.n)))))), ?_⟩
 refine cut1 fun Rk kR => ?_
 refine ⟨_, rfl, l, us, rfl, .inl (SqL.of hl), rfl, _, rfl, ite2 (fun c => ?_) (fun c => ?_)⟩
 · match us, hl, l1 with
   | u :: us, hl, l1 => exact ⟨_, rfl, l, _, _, _, rfl, rfl, SqL.of hl, at0, q _ _ (same_refl _)⟩
 refine kR _ _ ?_
 clear kR
 refine ⟨_, rfl, l, rfl, ⟨_, SqL.of hl⟩, fun D hD => ?_⟩
 have big : 10000 ≤ sizeLine := by decide
 refine comp_list (xs := us) (fun (i : Nat) (Hx : Hp) => Same H Hx ∧ ∃ ws, Hx D = some (.lst ws) ∧ ws.length = i) ⟨same_new hD _, [], upd_same, rfl⟩ (fun i Hx _ z => SqL.of (z.1 _ _ hl)) (fun i x0 Hx hx z => ?_) (fun Hx z => ?_)
 · obtain ⟨sx, ws, gD, wl⟩ := z
   have hil := (List.getElem?_eq_some_iff.mp hx).1
   refine gn_go ?_
   refine turn0 (A := fun H5 => mApp _ D _ H5 _) ?_
   refine ⟨_, rfl, (by show 2 ≤ sizeLine; decide), fun t0 ht0 => ?_⟩
   have s1 := same_new ht0 (.tup [.str "not", x0])
   have gD1 := s1 _ _ gD
   exact ⟨_, gD1, (by omega), comp_end (Pv := fun (i : Nat) (Hx : Hp) => Same H Hx ∧ ∃ ws, Hx D = some (.lst ws) ∧ ws.length = i) (by repeat' constructor) hil ⟨same_put (same_trans sx s1) hD, _, upd_same, by rw [List.length_append, wl]; rfl⟩⟩
 obtain ⟨sx, ws, gD, wl⟩ := z
 refine ⟨D, ws, rfl, gD, by omega, by omega, fun v H' s' => ⟨(by show 2 ≤ sizeLine; decide), fun t1 ht1 => ?_⟩⟩
 exact q _ _ (same_add (same_trans sx s') ht1)
theorem has_anyO (s : Src K mg "any_of" sAnyO) (m_len : mg "len" = none) (AO : Has P w K mg base "all_of" ["conditions"] 14 spAllN) : Has P w K mg base "any_of" ["conditions"] 15 spAnyO :=
  let ⟨f, fd, F, m⟩ := s
  ⟨f, fd, ok_anyO F m_len AO, F.kp, bnd1 F fun _ _ _ _ _ _ _ => rfl, m⟩
theorem ns_ifexp {a b c : Expr} {p : Pos} : NoStar (.IfExp a b c p) := ⟨fun _ _ => rfl⟩
def SzD (H : Hp) (z : Addr) (ns : List Str) : Prop := ∃ kz, H z = some (.dK kz) ∧ ∀ x ∈ ns, ∃ c : Int, valV kz (.inr x) = some (.int c) ∧ 1 ≤ c ∧ c ≤ 16
theorem SzD.same {H H' : Hp} {z : Addr} {ns : List Str} (s : Same H H') (h : SzD H z ns) : SzD H' z ns := let ⟨k, a, b⟩ := h; ⟨k, s _ _ a, b⟩
def spSmS : Sp := fun vs H Q _ => ∃ (z : Addr) (v : V) (sz : Int) (sd : Str) (e : E) (ns : List Str), vs = [.ref z, v, .int sz, .str sd] ∧ SzD H z ns ∧ EAt H v e ∧ e.isS ∧ e.okIn (bxN ns) ∧ e.dep < 30 ∧ ns.length ≤ 4 ∧ 1 ≤ sz ∧ sz ≤ 16 ∧ ∀ (a : Addr) (tv : V) (m : Int) (H' : Hp), Same H H' → H' a = some (.tup [tv, .int m]) → 0 ≤ m → m ≤ 3000 → Q (.ref a) H'
theorem prod_lo {k m : Int} (h0 : -16 ≤ k) (h1 : k ≤ 0) (m0 : 0 ≤ m) (m1 : m ≤ 15) : -240 ≤ k * m ∧ k * m ≤ 0 := by
  have a := Int.mul_le_mul_of_nonneg_right h0 m0
  have b := Int.mul_nonpos_of_nonpos_of_nonneg h1 m0
  omega
theorem prod_hi {k m : Int} (h0 : 0 ≤ k) (h1 : k ≤ 16) (m0 : 0 ≤ m) (m1 : m ≤ 15) : 0 ≤ k * m ∧ k * m ≤ 240 := by
  have a := Int.mul_le_mul_of_nonneg_right h1 m0
  have b := Int.mul_nonneg h0 m0
  omega
theorem drop_mem {kvs : List (Key × V)} {k : Key} {p : Key × V} (h : p ∈ dropK kvs k) : p ∈ kvs ∧ p.1 ≠ k := by
  unfold dropK at h
  have := List.mem_filter.mp h
  exact ⟨this.1, of_decide_eq_true this.2⟩
theorem scSmS : FnScope ["sizes", "sum_told", "size", "side", "parts", "number", "added", "taken", "least", "most", "name", "many", "box", "lift", "told"] ["sizes", "sum_told", "size", "side"] (defScope sSmS) := ⟨rfl, rfl, rfl, by decide +kernel, rfl, by decide +kernel, by decide +kernel⟩
theorem gSmS_joined_by : GLB sSmS "joined_by" := by decide +kernel
theorem gSmS_len : GLB sSmS "len" := by decide +kernel
theorem gSmS_max : GLB sSmS "max" := by decide +kernel
theorem gSmS_min : GLB sSmS "min" := by decide +kernel
theorem gSmS_parts_of : GLB sSmS "parts_of" := by decide +kernel
theorem ok_smS {f : Addr} {fd : FuncData} (F : Fun K "small_sum" "small_sum" sSmS f fd) (m_max : mg "max" = none) (m_min : mg "min" = none) (m_len : mg "len" = none) (SP0 : Has P w K mg base "small_part" ["many", "size"] 1 spSmP) (PO : Has P w K mg base "parts_of" ["sum_told"] 32 (spPaO 30)) (J0 : Has P w K mg base "joined_by" ["word", "parts"] 13 (spJn 12)) : FnOk P w K mg base CX0 33 f fd ["sizes", "sum_told", "size", "side"] spSmS := by
 refine F.ok scSmS (fun vs H Q E h => ?_) (fun cdv A outer s H vs Q E hr h => ?_)
 · obtain ⟨z, v, sz, sd, e, ns, rfl, _⟩ := h
   rfl
 obtain ⟨z, v, sz, sd, e, ns, rfl, hz, ev, is, ok, dp, l4, z1, z16, q⟩ := h
 have SP := SP0.mono (show 1 ≤ 32 by omega)
 have J := J0.mono (show 13 ≤ 32 by omega)
 have big : 10000 ≤ sizeLine := by decide
 refine goL ⟨_, (L3.cons (L3.sdcK (i := 4) [none, none, some 2] ["name", "many", "size"] (up_ne hr _ (by decide)) (show CompScope _ (defScope sSmS) from ⟨rfl, by decide +kernel, by decide +kernel, by decide +kernel⟩) (by rfl) (L3.iI (L3.items (L3.own PO hr gSmS_parts_of (L3.k (L3.v 1) L3.n)))) (fun _ _ _ _ _ => ⟨(L3.gtup 2 (L3.gsk (L3.gn 0 (show (["name", "many", "size"] : List Str).Nodup from by decide +kernel)) (L3.gsk (L3.gn 1 (show (["name", "many", "size"] : List Str).Nodup from by decide +kernel)) L3.gsn))), L3.if0, (L3.v 0), (L3.own SP hr (by rfl) (L3.k (L3.v 1) (L3.k (L3.v 2) L3.n)))⟩) scSmS.nd)
   (L3.cons (L3.par3 5 6 7 scSmS.nd (L3.k (L3.dpop1 (L3.v 4) L3.str) (L3.k (L3.lst L3.n) (L3.k (L3.lst L3.n) L3.n))))
   (L3.cons (L3.asg2 (L3.v 5) (L3.gn 8 scSmS.nd) (L3.gn 9 scSmS.nd))
   (L3.cons (L3.for_ (L3.iI (L3.items (L3.v 4))) (L3.gtup 2 (L3.gsk (L3.gn 10 scSmS.nd) (L3.gsk (L3.gn 11 scSmS.nd) L3.gsn))) (L3.cons (L3.set 12 scSmS.nd (L3.tup (L3.k (L3.v 3) (L3.k (L3.v 10) L3.n))))
   (L3.cons (L3.ex (L3.extend (L3.v 6) (L3.k (L3.op L3.o_rep (L3.lst (L3.k (L3.v 12) L3.n)) (L3.callB L3.c_max gSmS_max m_max (by decide +kernel) (L3.k (L3.v 11) (L3.k L3.int L3.n)))) L3.n)))
   (L3.cons (L3.ex (L3.extend (L3.v 7) (L3.k (L3.op L3.o_rep (L3.lst (L3.k (L3.v 12) L3.n)) (L3.callB L3.c_max gSmS_max m_max (by decide +kernel) (L3.k (L3.neg (L3.v 11)) (L3.k L3.int L3.n)))) L3.n)))
   (L3.cons (L3.aug 8 scSmS.nd (L3.op L3.o_mul (L3.callB L3.c_min gSmS_min m_min (by decide +kernel) (L3.k (L3.v 11) (L3.k L3.int L3.n))) (L3.op L3.o_sub (L3.dget (up_ne hr _ (by decide)) (L3.v 0) (L3.v 10)) L3.int)))
   (L3.one (L3.aug 9 scSmS.nd (L3.op L3.o_mul (L3.callB L3.c_max gSmS_max m_max (by decide +kernel) (L3.k (L3.v 11) (L3.k L3.int L3.n))) (L3.op L3.o_sub (L3.dget (up_ne hr _ (by decide)) (L3.v 0) (L3.v 10)) L3.int)))))))))
   (L3.cons (L3.set 13 scSmS.nd (L3.op L3.o_mul (L3.neg (L3.op L3.o_div (L3.v 8) (L3.v 2))) (L3.v 2)))
   (L3.cons (L3.set 14 scSmS.nd (L3.own J hr gSmS_joined_by (L3.k L3.str (L3.k (L3.op L3.o_cat (L3.lst (L3.k (L3.tup (L3.k L3.str (L3.k (L3.op L3.o_add (L3.v 5) (L3.v 13)) L3.n))) L3.n)) (L3.v 6)) L3.n))))
   (L3.one (L3.ret (L3.tup (L3.k (L3.ifE (L3.cmp L3.o_gt (L3.callB L3.c_len gSmS_len m_len PySem.boot_len (L3.k (L3.v 7) L3.n)) L3.int) (L3.tup (L3.k L3.str (L3.k (L3.v 14) (L3.k (L3.own J hr gSmS_joined_by (L3.k L3.str (L3.k (L3.v 7) L3.n))) L3.n)))) (L3.v 14)) (L3.k (L3.op L3.o_add (L3.v 9) (L3.v 13)) L3.n) ns_ifexp)))))))))), ?_⟩
 refine cut1 fun Rk kR => ?_
 refine ⟨_, rfl, v, e, ns, rfl, ev, is, ok, dp, by decide, l4, fun d kv H1 s1 nd gd pk => ?_⟩
 have pl := pk.len
 refine ⟨.inr (.inr (.inl ⟨rfl, .inl ⟨_, gd⟩⟩)), d, kv, rfl, rfl, gd, fun vw hvw => ?_⟩
 have s2 := same_new hvw (.ext (ItemsV vw d))
 have g2 : (upd H1 vw (.ext (ItemsV vw d))) vw = some (.ext (ItemsV vw d)) := upd_same
 have gd2 := s2 _ _ gd
 generalize upd H1 vw (.ext (ItemsV vw d)) = H2 at s2 g2 gd2 ⊢
 refine ⟨vw, d, kv, rfl, g2, gd2, fun fo => fun D hD => ?_⟩
 have s12 := same_trans s1 s2
 have s3 : Same H (upd H2 d (.frz fo (.dK kv))) := same_put s12 nd
 have g3 : (upd H2 d (.frz fo (.dK kv))) d = some (.frz fo (.dK kv)) := upd_same
 generalize upd H2 d (.frz fo (.dK kv)) = H3 at hD s3 g3 ⊢
 have nD := none_of_same s3 hD
 have dD : d ≠ D := ne_of_none g3 hD
 refine comp_items (kvs := kv) (fun (i : Nat) (Hx : Hp) => Same H Hx ∧ Hx d = some (.frz fo (.dK kv)) ∧ ∃ kvs, Hx D = some (.dK kvs) ∧ (kvs.map (·.1)).Nodup ∧ (∀ q ∈ kvs, ∃ (x : Str) (c : Int), q = (.inr x, .int c) ∧ (x = "" ∨ x ∈ ns) ∧ -16 ≤ c ∧ c ≤ 16) ∧ (∀ (j : Nat) (k : Key) (y : V), j < i → kv[j]? = some (k, y) → k ∈ kvs.map (·.1)) ∧ kvs.length ≤ i) ⟨same_trans s3 (same_new hD _), (same_new hD _) _ _ g3, [], upd_same, List.nodup_nil, (fun r hr => nomatch hr), (fun j k y hj => absurd hj (Nat.not_lt_zero _)), Nat.le_refl _⟩ (fun i Hx _ z => z.2.1) (fun i k y pp Hx hx zz hpp => ?_) (fun Hx zz => ?_)
 · obtain ⟨sx, gf, kvs, gD, knd, ks, inn, kvl⟩ := zz
   have hil := (List.getElem?_eq_some_iff.mp hx).1
   obtain ⟨x1, c1, exy, w1⟩ := pk.ks _ (List.mem_of_getElem? hx)
   cases exy
   have sp := same_new hpp (.tup [kV (.inr x1), .int c1])
   have gp : (upd Hx pp (.tup [kV (.inr x1), .int c1])) pp = some (.tup [kV (.inr x1), .int c1]) := upd_same
   have gDy := sp _ _ gD
   have gfy := sp _ _ gf
   generalize upd Hx pp (.tup [kV (.inr x1), .int c1]) = Hy at sp gp gDy gfy ⊢
   have gp : Hy pp = some (.tup [.str x1, .int c1]) := gp
   refine ⟨pp, _, rfl, SqT.of gp, rfl, _, _, rfl, _, _, rfl, rfl, ?_⟩
   refine turn0 (A := fun H5 => mPut _ _ D _ H5 _) ?_
   refine ⟨_, rfl, _, rfl, _, rfl, c1, sz, rfl, by omega, fun c2 h1 h2 => ⟨_, DPut.k (k := .inr x1) gDy (by omega), comp_end (Pv := fun (i : Nat) (Hx : Hp) => Same H Hx ∧ Hx d = some (.frz fo (.dK kv)) ∧ ∃ kvs, Hx D = some (.dK kvs) ∧ (kvs.map (·.1)).Nodup ∧ (∀ q ∈ kvs, ∃ (x : Str) (c : Int), q = (.inr x, .int c) ∧ (x = "" ∨ x ∈ ns) ∧ -16 ≤ c ∧ c ≤ 16) ∧ (∀ (j : Nat) (k : Key) (y : V), j < i → kv[j]? = some (k, y) → k ∈ kvs.map (·.1)) ∧ kvs.length ≤ i) (by repeat' constructor) hil ⟨same_put (same_trans sx sp) nD, by rw [upd_ne dD]; exact gfy, _, upd_same, putK_nd knd, fun r hr => ?_, fun j k y hj hjk => ?_, Nat.le_trans (length_putK _ _ _) (by omega)⟩⟩⟩
   · rcases putK_mem hr with rfl | w
     · exact ⟨x1, c2, rfl, w1, by omega, by omega⟩
     · exact ks r w
   · have mem : ∀ k', k' ∈ kvs.map (·.1) → k' ∈ (putK kvs (.inr x1) (.int c2)).map (·.1) := fun k' hk' => by
       by_cases ee : k' = .inr x1
       · subst ee
         exact valV_in (v := .int c2) (by rw [valV_put, if_pos rfl])
       · cases hv : valV kvs k' with
         | none => exact absurd hk' (valV_not hv)
         | some u => exact valV_in (v := u) (by rw [valV_put, if_neg ee]; exact hv)
     by_cases c : j < i
     · exact mem k (inn j k y c hjk)
     · have ej : j = i := by omega
       subst ej
       rw [hx] at hjk
       cases hjk
       exact valV_in (v := .int c2) (by rw [valV_put, if_pos rfl])
 obtain ⟨sx, gf, kvs, gD, knd, ks, inn, kvl⟩ := zz
 refine gn_go ?_
 refine kR _ _ ?_
 clear kR
 refine normS [some (.ref z), some v, some (.int sz), some (.str sd), some (.ref D), none, none, none, none, none, none, none, none, none, none] rfl ?_
 refine cut1 fun Rk kR => ?_
 obtain ⟨nu, hnu, nu1, nu2⟩ : ∃ nu : Int, valV kvs (.inr "") = some (.int nu) ∧ -16 ≤ nu ∧ nu ≤ 16 := by
   obtain ⟨c, hc⟩ := pk.nl
   have hm := valV_in hc
   obtain ⟨pr, hpr, epr⟩ := List.mem_map.mp hm
   obtain ⟨j, hj⟩ := List.mem_iff_getElem?.mp hpr
   have jl := (List.getElem?_eq_some_iff.mp hj).1
   have h0 := inn j pr.1 pr.2 jl hj
   rw [epr] at h0
   cases hv : valV kvs (.inr "") with
   | none => exact absurd h0 (valV_not hv)
   | some u =>
     unfold valV at hv
     obtain ⟨p, hp, rfl⟩ := Option.map_eq_some_iff.mp hv
     obtain ⟨x, c, rfl, _, w⟩ := ks p (List.mem_of_find?_eq_some hp)
     exact ⟨c, rfl, w⟩
 refine ⟨_, rfl, D, rfl, .inl ⟨_, .inl gD⟩, kvs, .inr "", .int nu, gD, rfl, hnu, ?_⟩
 obtain ⟨kv2, ek2⟩ : ∃ kv2, kv2 = dropK kvs (.inr "") := ⟨_, rfl⟩
 rw [← ek2]
 have s4 : Same H (upd Hx D (.dK kv2)) := same_put sx nD
 have g4 : (upd Hx D (.dK kv2)) D = some (.dK kv2) := upd_same
 generalize upd Hx D (.dK kv2) = H4 at s4 g4 ⊢
 refine ⟨(by show 0 ≤ sizeLine; decide), fun ad had => ?_⟩
 have s5 := same_new had (.lst [])
 have g5 : (upd H4 ad (.lst [])) ad = some (.lst []) := upd_same
 generalize upd H4 ad (.lst []) = H5 at s5 g5 ⊢
 refine ⟨(by show 0 ≤ sizeLine; decide), fun tk htk => ?_⟩
 have s6 := same_new htk (.lst [])
 have g6 : (upd H5 tk (.lst [])) tk = some (.lst []) := upd_same
 generalize upd H5 tk (.lst []) = H6 at s6 g6 ⊢
 have adtk : ad ≠ tk := ne_of_none g5 htk
 have nad := none_of_same s4 had
 have ntk := none_of_same (same_trans s4 s5) htk
 refine ⟨_, _, _, rfl, ?_⟩
 refine kR _ _ ?_
 clear kR
 refine normS [some (.ref z), some v, some (.int sz), some (.str sd), some (.ref D), some (.int nu), some (.ref ad), some (.ref tk), none, none, none, none, none, none, none] rfl ?_
 refine cut1 fun Rk kR => ?_
 refine ⟨_, rfl, ?_⟩
 refine gn_go ?_
 refine gn_go ?_
 refine kR _ _ ?_
 clear kR
 refine normS [some (.ref z), some v, some (.int sz), some (.str sd), some (.ref D), some (.int nu), some (.ref ad), some (.ref tk), some (.int nu), some (.int nu), none, none, none, none, none] rfl ?_
 refine cut1 fun Rk kR => ?_
 have s46 := same_trans s5 s6
 have g46 := s46 _ _ g4
 refine ⟨_, rfl, .inr (.inr (.inl ⟨rfl, .inl ⟨_, g46⟩⟩)), D, kv2, rfl, rfl, g46, fun vw2 hvw2 => ?_⟩
 have s7 := same_new hvw2 (.ext (ItemsV vw2 D))
 have g7 : (upd H6 vw2 (.ext (ItemsV vw2 D))) vw2 = some (.ext (ItemsV vw2 D)) := upd_same
 have gD7 := s7 _ _ g46
 have gad7 := s7 _ _ (s6 _ _ g5)
 have gtk7 := s7 _ _ g6
 generalize upd H6 vw2 (.ext (ItemsV vw2 D)) = H7 at s7 g7 gD7 gad7 gtk7 ⊢
 refine ⟨vw2, D, kv2, rfl, g7, gD7, fun fo2 => ?_⟩
 have s07 := same_trans s4 (same_trans s46 s7)
 have Dad : D ≠ ad := ne_of gD7 gad7 (fun z => nomatch z)
 have Dtk : D ≠ tk := ne_of gD7 gtk7 (fun z => nomatch z)
 have s8 : Same H (upd H7 D (.frz fo2 (.dK kv2))) := same_put s07 nD
 have g8 : (upd H7 D (.frz fo2 (.dK kv2))) D = some (.frz fo2 (.dK kv2)) := upd_same
 have gad8 : (upd H7 D (.frz fo2 (.dK kv2))) ad = some (.lst []) := by rw [upd_ne Dad.symm]; exact gad7
 have gtk8 : (upd H7 D (.frz fo2 (.dK kv2))) tk = some (.lst []) := by rw [upd_ne Dtk.symm]; exact gtk7
 generalize upd H7 D (.frz fo2 (.dK kv2)) = H8 at s8 g8 gad8 gtk8 ⊢
 have kv2l : kv2.length ≤ 5 := by
   have := dropK_le kvs (Sum.inr "")
   rw [← ek2] at this
   omega
 refine for_items (kvs := kv2) (fun (i : Nat) (σ : List (Option V)) (Hx : Hp) => (∃ (le mo : Int) (o10 o11 o12 : Option V), σ = [some (.ref z), some v, some (.int sz), some (.str sd), some (.ref D), some (.int nu), some (.ref ad), some (.ref tk), some (.int le), some (.int mo), o10, o11, o12, none, none] ∧ le ≤ mo ∧ -(16 + 240 * (i : Int)) ≤ le ∧ mo ≤ 16 + 240 * (i : Int)) ∧ Same H Hx ∧ Hx D = some (.frz fo2 (.dK kv2)) ∧ (∃ us, Hx ad = some (.lst us) ∧ us.length ≤ 16 * i) ∧ ∃ us, Hx tk = some (.lst us) ∧ us.length ≤ 16 * i) ⟨⟨nu, nu, _, _, _, rfl, Int.le_refl _, by omega, by omega⟩, s8, g8, ⟨[], gad8, Nat.le_refl _⟩, [], gtk8, Nat.le_refl _⟩ (fun i σ Hx _ z => z.2.2.1) (fun i k y pp σ Hx hx zz hpp => ?_) (fun σ Hx zz => ?_)
 · obtain ⟨⟨le, mo, o10, o11, o12, rfl, lm, le1, mo1⟩, sx, gf, ⟨ua, gad, ual⟩, ut, gtk, utl⟩ := zz
   have hil := (List.getElem?_eq_some_iff.mp hx).1
   have hin := List.mem_of_getElem? hx
   rw [ek2] at hin
   obtain ⟨hin1, hin2⟩ := drop_mem hin
   obtain ⟨x1, c1, exy, w1, c1a, c1b⟩ := ks _ hin1
   cases exy
   have xin : x1 ∈ ns := w1.resolve_left (fun z => hin2 (by rw [z]))
   have sp := same_new hpp (.tup [kV (.inr x1), .int c1])
   have gp : (upd Hx pp (.tup [kV (.inr x1), .int c1])) pp = some (.tup [kV (.inr x1), .int c1]) := upd_same
   generalize upd Hx pp (.tup [kV (.inr x1), .int c1]) = Hy at sp gp ⊢
   have gp : Hy pp = some (.tup [.str x1, .int c1]) := gp
   refine ⟨pp, _, rfl, SqT.of gp, rfl, _, _, rfl, _, _, rfl, rfl, ?_⟩
   refine normS [some (.ref z), some v, some (.int sz), some (.str sd), some (.ref D), some (.int nu), some (.ref ad), some (.ref tk), some (.int le), some (.int mo), some (.str x1), some (.int c1), o12, none, none] rfl ?_
   refine cut1 fun Rk2 kR2 => ?_
   refine ⟨_, rfl, _, rfl, (by show 2 ≤ sizeLine; decide), fun bx hbx => ?_⟩
   have sb := same_new hbx (.tup [.str sd, .str x1])
   generalize upd Hy bx (.tup [.str sd, .str x1]) = Hz at sb ⊢
   refine gn_go ?_
   refine kR2 _ _ ?_
   clear kR2
   refine normS [some (.ref z), some v, some (.int sz), some (.str sd), some (.ref D), some (.int nu), some (.ref ad), some (.ref tk), some (.int le), some (.int mo), some (.str x1), some (.int c1), some (.ref bx), none, none] rfl ?_
   refine cut1 fun Rk2 kR2 => ?_
   have sxz := same_trans sp sb
   have gadz := sxz _ _ gad
   refine ⟨_, rfl, .inl ⟨rfl, _, SqL.of gadz⟩, _, rfl, (by show 1 ≤ sizeLine; decide), fun l11 hl11 => ?_⟩
   have sl1 := same_new hl11 (.lst [.ref bx])
   have gl1 : (upd Hz l11 (.lst [.ref bx])) l11 = some (.lst [.ref bx]) := upd_same
   generalize upd Hz l11 (.lst [.ref bx]) = Ha1 at sl1 gl1 ⊢
   refine ⟨_, rfl, _, _, rfl, l11, _, [.ref bx], rfl, rfl, gl1, by split <;> omega, by split <;> omega, (by show 1 * _ ≤ _; split <;> omega), fun l21 hl21 => ?_⟩
   have sm1 := same_new hl21 (.lst (List.replicate (Int.toNat (if (0 : Int) > c1 then 0 else c1)) [V.ref bx]).flatten)
   have gm1 : (upd Ha1 l21 (.lst (List.replicate (Int.toNat (if (0 : Int) > c1 then 0 else c1)) [V.ref bx]).flatten)) l21 = some (.lst (List.replicate (Int.toNat (if (0 : Int) > c1 then 0 else c1)) [V.ref bx]).flatten) := upd_same
   generalize upd Ha1 l21 (.lst (List.replicate (Int.toNat (if (0 : Int) > c1 then 0 else c1)) [V.ref bx]).flatten) = Hb1 at sm1 gm1 ⊢
   have si1 := same_trans sl1 sm1
   refine ⟨ad, l21, _, _, rfl, rfl, si1 _ _ gadz, gm1, (by rw [len_rep]; show _ + _ * 1 ≤ _; split <;> omega), ?_⟩
   have gfN1 : (upd Hb1 ad (.lst (ua ++ (List.replicate (Int.toNat (if (0 : Int) > c1 then 0 else c1)) [V.ref bx]).flatten))) D = some (.frz fo2 (.dK kv2)) := by rw [upd_ne Dad]; exact si1 _ _ (sxz _ _ gf)
   have gt1 : (upd Hb1 ad (.lst (ua ++ (List.replicate (Int.toNat (if (0 : Int) > c1 then 0 else c1)) [V.ref bx]).flatten))) tk = some (.lst ut) := by rw [upd_ne adtk.symm]; exact si1 _ _ (sxz _ _ gtk)
   have ga1 : (upd Hb1 ad (.lst (ua ++ (List.replicate (Int.toNat (if (0 : Int) > c1 then 0 else c1)) [V.ref bx]).flatten))) ad = _ := upd_same
   have sH1 : Same H (upd Hb1 ad (.lst (ua ++ (List.replicate (Int.toNat (if (0 : Int) > c1 then 0 else c1)) [V.ref bx]).flatten))) := same_put (same_trans sx (same_trans sxz si1)) nad
   generalize upd Hb1 ad (.lst (ua ++ (List.replicate (Int.toNat (if (0 : Int) > c1 then 0 else c1)) [V.ref bx]).flatten)) = Hw1 at gfN1 gt1 ga1 sH1 ⊢
   refine kR2 _ _ ?_
   clear kR2
   refine cut1 fun Rk2 kR2 => ?_
   refine ⟨_, rfl, .inl ⟨rfl, _, SqL.of gt1⟩, _, rfl, (by show 1 ≤ sizeLine; decide), fun l12 hl12 => ?_⟩
   have sl2 := same_new hl12 (.lst [.ref bx])
   have gl2 : (upd Hw1 l12 (.lst [.ref bx])) l12 = some (.lst [.ref bx]) := upd_same
   generalize upd Hw1 l12 (.lst [.ref bx]) = Ha2 at sl2 gl2 ⊢
   refine ⟨_, rfl, _, rfl, _, _, rfl, l12, _, [.ref bx], rfl, rfl, gl2, by split <;> omega, by split <;> omega, (by show 1 * _ ≤ _; split <;> omega), fun l22 hl22 => ?_⟩
   have sm2 := same_new hl22 (.lst (List.replicate (Int.toNat (if (0 : Int) > -c1 then 0 else -c1)) [V.ref bx]).flatten)
   have gm2 : (upd Ha2 l22 (.lst (List.replicate (Int.toNat (if (0 : Int) > -c1 then 0 else -c1)) [V.ref bx]).flatten)) l22 = some (.lst (List.replicate (Int.toNat (if (0 : Int) > -c1 then 0 else -c1)) [V.ref bx]).flatten) := upd_same
   generalize upd Ha2 l22 (.lst (List.replicate (Int.toNat (if (0 : Int) > -c1 then 0 else -c1)) [V.ref bx]).flatten) = Hb2 at sm2 gm2 ⊢
   have si2 := same_trans sl2 sm2
   refine ⟨tk, l22, _, _, rfl, rfl, si2 _ _ gt1, gm2, (by rw [len_rep]; show _ + _ * 1 ≤ _; split <;> omega), ?_⟩
   have gf2 : (upd Hb2 tk (.lst (ut ++ (List.replicate (Int.toNat (if (0 : Int) > -c1 then 0 else -c1)) [V.ref bx]).flatten))) D = some (.frz fo2 (.dK kv2)) := by rw [upd_ne Dtk]; exact si2 _ _ gfN1
   have gad2 : (upd Hb2 tk (.lst (ut ++ (List.replicate (Int.toNat (if (0 : Int) > -c1 then 0 else -c1)) [V.ref bx]).flatten))) ad = some (.lst (ua ++ (List.replicate (Int.toNat (if (0 : Int) > c1 then 0 else c1)) [V.ref bx]).flatten)) := by rw [upd_ne adtk]; exact si2 _ _ ga1
   have gtk2 : (upd Hb2 tk (.lst (ut ++ (List.replicate (Int.toNat (if (0 : Int) > -c1 then 0 else -c1)) [V.ref bx]).flatten))) tk = _ := upd_same
   have sH2 : Same H (upd Hb2 tk (.lst (ut ++ (List.replicate (Int.toNat (if (0 : Int) > -c1 then 0 else -c1)) [V.ref bx]).flatten))) := same_put (same_trans sH1 si2) ntk
   generalize upd Hb2 tk (.lst (ut ++ (List.replicate (Int.toNat (if (0 : Int) > -c1 then 0 else -c1)) [V.ref bx]).flatten)) = Hw2 at gf2 gad2 gtk2 sH2 ⊢
   refine kR2 _ _ ?_
   clear kR2
   refine cut1 fun Rk2 kR2 => ?_
   obtain ⟨kz, gz, hkz⟩ := hz.same sH2
   obtain ⟨cz, hcz, cz1, cz16⟩ := hkz x1 xin
   have dz : DGet Hw2 z (.str x1) (some (.int cz)) := by
     have := DGet.k (k := .inr x1) gz
     rw [hcz] at this
     exact this
   refine ⟨_, rfl, _, rfl, _, _, rfl, _, rfl, _, rfl, z, _, rfl, dz, _, _, rfl, rfl, _, _, rfl, rfl, .inl ⟨by split <;> omega, by split <;> omega⟩, _, _, rfl, rfl, ?_⟩
   obtain ⟨le', ele⟩ : ∃ le', le' = le + (if (0 : Int) < c1 then 0 else c1) * (cz - 1) := ⟨_, rfl⟩
   refine kR2 _ _ ?_
   clear kR2
   refine normS [some (.ref z), some v, some (.int sz), some (.str sd), some (.ref D), some (.int nu), some (.ref ad), some (.ref tk), some (.int le'), some (.int mo), some (.str x1), some (.int c1), some (.ref bx), none, none] (by rw [ele]; rfl) ?_
   refine ⟨_, rfl, _, rfl, _, _, rfl, _, rfl, _, rfl, z, _, rfl, dz, _, _, rfl, rfl, _, _, rfl, rfl, .inl ⟨by split <;> omega, by split <;> omega⟩, _, _, rfl, rfl, ?_⟩
   obtain ⟨mo', emo⟩ : ∃ mo', mo' = mo + (if (0 : Int) > c1 then 0 else c1) * (cz - 1) := ⟨_, rfl⟩
   have b1 := prod_lo (k := if (0 : Int) < c1 then 0 else c1) (m := cz - 1) (by split <;> omega) (by split <;> omega) (by omega) (by omega)
   have b2 := prod_hi (k := if (0 : Int) > c1 then 0 else c1) (m := cz - 1) (by split <;> omega) (by split <;> omega) (by omega) (by omega)
   refine ⟨⟨le', mo', _, _, _, by rw [emo]; rfl, by omega, by omega, by omega⟩, sH2, gf2, ⟨_, gad2, by rw [List.length_append, len_rep]; show _ + _ * 1 ≤ _; omega⟩, _, gtk2, by rw [List.length_append, len_rep]; show _ + _ * 1 ≤ _; omega⟩
 obtain ⟨⟨le, mo, o10, o11, o12, rfl, lm, le1, mo1⟩, sx2, gf2, ⟨ua, gad, ual⟩, ut, gtk, utl⟩ := zz
 refine kR _ _ ?_
 clear kR
 refine cut1 fun Rk kR => ?_
 have kl5 : (kv2.length : Int) ≤ 5 := by omega
 refine ⟨_, rfl, _, rfl, _, _, rfl, rfl, ⟨by omega, by omega⟩, _, rfl, _, rfl, _, _, rfl, rfl, .inr ⟨by omega, by omega⟩, ?_⟩
 obtain ⟨lift, el, lf1, lf2⟩ : ∃ lift, lift = -(le / sz) * sz ∧ -le ≤ lift ∧ lift < -le + sz := by
   refine ⟨_, rfl, ?_⟩
   have a := Int.mul_ediv_add_emod le sz
   have b := Int.emod_nonneg le (show sz ≠ 0 by omega)
   have c := Int.emod_lt_of_pos le (show 0 < sz by omega)
   rw [Int.neg_mul, Int.mul_comm]
   omega
 refine gn_go ?_
 refine kR _ _ ?_
 clear kR
 refine normS [some (.ref z), some v, some (.int sz), some (.str sd), some (.ref D), some (.int nu), some (.ref ad), some (.ref tk), some (.int le), some (.int mo), o10, o11, o12, some (.int lift), none] (by rw [el]; rfl) ?_
 refine cut1 fun Rk kR => ?_
 refine ⟨_, rfl, _, rfl, _, _, rfl, rfl, (by show 2 ≤ sizeLine; decide), fun n0 hn0 => ?_⟩
 have t1 := same_new hn0 (.tup [.str "number", .int (nu + lift)])
 generalize upd Hx n0 (.tup [.str "number", .int (nu + lift)]) = Ka at t1 ⊢
 refine ⟨(by show 1 ≤ sizeLine; decide), fun n1 hn1 => ?_⟩
 have t2 := same_new hn1 (.lst [.ref n0])
 have h2 : (upd Ka n1 (.lst [.ref n0])) n1 = some (.lst [.ref n0]) := upd_same
 generalize upd Ka n1 (.lst [.ref n0]) = Kb at t2 h2 ⊢
 have t12 := same_trans t1 t2
 refine ⟨_, rfl, n1, ad, _, _, rfl, rfl, h2, t12 _ _ gad, (by show 1 + _ ≤ _; omega), fun n2 hn2 => ?_⟩
 have t3 := same_new hn2 (.lst ([.ref n0] ++ ua))
 have h3 : (upd Kb n2 (.lst ([.ref n0] ++ ua))) n2 = some (.lst ([.ref n0] ++ ua)) := upd_same
 generalize upd Kb n2 (.lst ([.ref n0] ++ ua)) = Kc at t3 h3 ⊢
 refine ⟨"plus", n2, _, rfl, h3, (by rw [List.length_append]; show 1 ≤ 1 + _; omega), (by rw [List.length_append]; show 1 + _ ≤ 4096; omega), by decide, fun tv Kd t4 => ?_⟩
 refine gn_go ?_
 refine kR _ _ ?_
 clear kR
 refine normS [some (.ref z), some v, some (.int sz), some (.str sd), some (.ref D), some (.int nu), some (.ref ad), some (.ref tk), some (.int le), some (.int mo), o10, o11, o12, some (.int lift), some tv] rfl ?_
 have t14 := same_trans t12 (same_trans t3 t4)
 have sKd := same_trans sx2 t14
 have gtkd := t14 _ _ gtk
 refine ⟨_, rfl, tk, _, rfl, .inl (SqL.of gtkd), _, _, rfl, rfl, _, rfl, ?_⟩
 refine ite2 (fun c => ?_) (fun c => ?_)
 · have c : (0 : Int) < (ut.length : Int) := of_decide_eq_true c
   refine ⟨_, rfl, _, rfl, "plus", tk, _, rfl, gtkd, by omega, (by show _ ≤ 4096; omega), by decide, fun v2 Ke t5 => ?_⟩
   refine ⟨(by show 3 ≤ sizeLine; decide), fun n3 hn3 => ?_⟩
   have t6 := same_new hn3 (.tup [.str "less", tv, v2])
   generalize upd Ke n3 (.tup [.str "less", tv, v2]) = Kf at t6 ⊢
   refine ⟨_, rfl, _, rfl, _, _, rfl, rfl, (by show 2 ≤ sizeLine; decide), fun a ha => ?_⟩
   exact q a _ _ _ (same_trans sKd (same_trans t5 (same_add t6 ha))) upd_same (by omega) (by omega)
 · refine ⟨_, rfl, _, rfl, _, rfl, _, _, rfl, rfl, (by show 2 ≤ sizeLine; decide), fun a ha => ?_⟩
   exact q a _ _ _ (same_add sKd ha) upd_same (by omega) (by omega)
theorem has_smS (s : Src K mg "small_sum" sSmS) (m_max : mg "max" = none) (m_min : mg "min" = none) (m_len : mg "len" = none) (SP0 : Has P w K mg base "small_part" ["many", "size"] 1 spSmP) (PO : Has P w K mg base "parts_of" ["sum_told"] 32 (spPaO 30)) (J0 : Has P w K mg base "joined_by" ["word", "parts"] 13 (spJn 12)) : Has P w K mg base "small_sum" ["sizes", "sum_told", "size", "side"] 33 spSmS :=
  let ⟨f, fd, F, m⟩ := s
  ⟨f, fd, ok_smS F m_max m_min m_len SP0 PO J0, F.kp, bnd4 F fun _ _ _ _ _ _ _ _ _ _ => rfl, m⟩
abbrev sPuM : Stmt := top 35
abbrev sBtP : Stmt := top 34
structure PutAt (H : Hp) (v : V) (ns : List Str) (x : Str) (e : E) (n : Int) : Prop where
  at_ : NpAt H v (.put x e n)
  xin : x ∈ ns
  is : e.isS
  ok : e.okIn (bxN ns)
  dp : e.dep < 30
theorem PutAt.keep {H H' : Hp} {v : V} {ns : List Str} {x : Str} {e : E} {n : Int} (k : TK H H') (h : PutAt H v ns x e n) : PutAt H' v ns x e n := ⟨NpAt.keep k h.at_, h.xin, h.is, h.ok, h.dp⟩
def spPuM : Sp := fun vs H Q _ => ∃ (z : Addr) (v : V) (sd bf : Str) (ns : List Str) (x : Str) (e : E) (n : Int), vs = [.ref z, v, .str sd, .str bf] ∧ SzD H z ns ∧ PutAt H v ns x e n ∧ ns.length ≤ 4 ∧ ∀ (v' : V) (H' : Hp), Same H H' → Q v' H'
theorem scPuM : FnScope ["sizes", "put", "side", "before", "size", "told", "most", "cases"] ["sizes", "put", "side", "before"] (defScope sPuM) := ⟨rfl, rfl, rfl, by decide +kernel, rfl, by decide +kernel, by decide +kernel⟩
theorem gPuM_any_of : GLB sPuM "any_of" := by decide +kernel
theorem gPuM_range : GLB sPuM "range" := by decide +kernel
theorem gPuM_small_sum : GLB sPuM "small_sum" := by decide +kernel
theorem ok_puM {f : Addr} {fd : FuncData} (F : Fun K "put_made" "put_made" sPuM f fd) (m_range : mg "range" = none) (SS : Has P w K mg base "small_sum" ["sizes", "sum_told", "size", "side"] 33 spSmS) (AN0 : Has P w K mg base "any_of" ["conditions"] 15 spAnyO) : FnOk P w K mg base CX0 34 f fd ["sizes", "put", "side", "before"] spPuM := by
 refine F.ok scPuM (fun vs H Q E h => ?_) (fun cdv A outer s H vs Q E hr h => ?_)
 · obtain ⟨z, v, sd, bf, ns, x, e, n, rfl, _⟩ := h
   rfl
 obtain ⟨z, v, sd, bf, ns, x, e, n, rfl, hz, pa, l4, q⟩ := h
 obtain ⟨u, ⟨p, rfl, hp⟩, eu⟩ := pa.at_
 have AN := AN0.mono (show 15 ≤ 33 by omega)
 have big : 10000 ≤ sizeLine := by decide
 obtain ⟨kz, gz, hkz⟩ := id hz
 obtain ⟨sz, hsz, z1, z16⟩ := hkz x pa.xin
 have dz : DGet H z (.str x) (some (.int sz)) := by
   have := DGet.k (k := .inr x) gz
   rw [hsz] at this
   exact this
 refine goL ⟨_, (L3.cons (L3.set 4 scPuM.nd (L3.dget (up_ne hr _ (by decide)) (L3.v 0) (L3.ix L3.ixT (L3.v 1) L3.int)))
   (L3.cons (L3.asg (L3.own SS hr gPuM_small_sum (L3.k (L3.v 0) (L3.k (L3.ix L3.ixT (L3.v 1) L3.int) (L3.k (L3.v 4) (L3.k (L3.v 3) L3.n))))) (L3.gtup 2 (L3.gsk (L3.gn 5 scPuM.nd) (L3.gsk (L3.gn 6 scPuM.nd) L3.gsn))))
   (L3.cons (L3.slc (i := 7) [none, some 2, some 1, some 4] ["turns", "side", "put", "size"] (show CompScope _ (defScope sPuM) from ⟨rfl, by decide +kernel, by decide +kernel, by decide +kernel⟩) (by rfl) (L3.iR gPuM_range m_range (L3.k (L3.op L3.o_add (L3.op L3.o_div (L3.v 6) (L3.v 4)) L3.int) L3.n)) (fun _ _ _ _ _ => ⟨(L3.gn 0 (show (["turns", "side", "put", "size"] : List Str).Nodup from by decide +kernel)), L3.if0, (L3.tup (L3.k L3.str (L3.k (L3.tup (L3.k (L3.v 1) (L3.k (L3.ix L3.ixT (L3.v 2) L3.int) L3.n))) (L3.k (L3.tup (L3.k L3.str (L3.k (L3.op L3.o_mul (L3.v 0) (L3.v 3)) L3.n))) L3.n))))⟩) scPuM.nd)
   (L3.one (L3.ret (L3.own AN hr gPuM_any_of (L3.k (L3.lc [none, some 5] ["case", "told"] (show CompScope _ (defScope sPuM) from ⟨rfl, by decide +kernel, by decide +kernel, by decide +kernel⟩) (by rfl) (L3.iL (L3.v 7)) (fun _ _ _ _ _ => ⟨(L3.gn 0 (show (["case", "told"] : List Str).Nodup from by decide +kernel)), L3.if0, (L3.tup (L3.k L3.str (L3.k (L3.v 0) (L3.k (L3.v 1) L3.n))))⟩)) L3.n))))))), ?_⟩
 refine cut1 fun Rk kR => ?_
 refine ⟨_, rfl, _, rfl, p, _, _, _, rfl, rfl, SqT.of hp, rfl, z, _, rfl, dz, ?_⟩
 refine gn_go ?_
 refine kR _ _ ?_
 clear kR
 refine normS [some (.ref z), some (.ref p), some (.str sd), some (.str bf), some (.int sz), none, none, none] rfl ?_
 refine cut1 fun Rk kR => ?_
 refine ⟨_, rfl, _, rfl, p, _, _, _, rfl, rfl, SqT.of hp, rfl, _, rfl, _, rfl, z, u, sz, bf, e, ns, rfl, hz, eu, pa.is, pa.ok, pa.dp, l4, z1, z16, fun a tv m H1 s1 ga m0 m1 => ?_⟩
 refine ⟨a, _, rfl, SqT.of ga, rfl, _, _, rfl, _, _, rfl, rfl, ?_⟩
 refine kR _ _ ?_
 clear kR
 refine normS [some (.ref z), some (.ref p), some (.str sd), some (.str bf), some (.int sz), some tv, some (.int m), none] rfl ?_
 refine cut1 fun Rk kR => ?_
 have hp1 := s1 _ _ hp
 have d0 : 0 ≤ m / sz := Int.ediv_nonneg m0 (by omega)
 have d1 : m / sz ≤ m := Int.ediv_le_self _ m0
 refine ⟨_, rfl, _, rfl, _, _, rfl, rfl, ⟨by omega, by omega⟩, _, _, rfl, rfl, m / sz + 1, rfl, by omega, by omega, fun D hD => ?_⟩
 refine comp_range (lo := 0) (n := (m / sz + 1).toNat) (fun (i : Nat) (Hx : Hp) => Same H1 Hx ∧ ∃ ws, Hx D = some (.lst ws) ∧ ws.length = i) ⟨same_new hD _, [], upd_same, rfl⟩ (fun i Hx hi zz => ?_) (fun H2 zz => ?_)
 · obtain ⟨sx, ws, gD, wl⟩ := zz
   refine gn_go ?_
   refine turn0 (A := fun H5 => mApp _ D _ H5 _) ?_
   refine ⟨_, rfl, _, rfl, p, _, _, _, rfl, rfl, SqT.of (sx _ _ hp1), rfl, (by show 2 ≤ sizeLine; decide), fun t1 ht1 => ?_⟩
   have a1 := same_new ht1 (.tup [.str sd, .str x])
   generalize upd Hx t1 (.tup [.str sd, .str x]) = Ha at a1 ⊢
   refine ⟨_, rfl, _, rfl, _, _, rfl, rfl, .inr ⟨by omega, by omega⟩, (by show 2 ≤ sizeLine; decide), fun t2 ht2 => ?_⟩
   have a2 := same_new ht2 (.tup [.str "number", .int ((0 + (i : Int)) * sz)])
   refine ⟨(by show 3 ≤ sizeLine; decide), fun t3 ht3 => ?_⟩
   have a3 := same_add a2 ht3 (o := .tup [.str "plus", .ref t1, .ref t2])
   have a13 := same_trans a1 a3
   exact ⟨_, a13 _ _ gD, (by omega), comp_end (Pv := fun (i : Nat) (Hx : Hp) => Same H1 Hx ∧ ∃ ws, Hx D = some (.lst ws) ∧ ws.length = i) (by repeat' constructor) hi ⟨same_put (same_trans sx a13) hD, _, upd_same, by rw [List.length_append, wl]; rfl⟩⟩
 obtain ⟨s2, ws, gD, wl⟩ := zz
 refine gn_go ?_
 refine kR _ _ ?_
 clear kR
 refine normS [some (.ref z), some (.ref p), some (.str sd), some (.str bf), some (.int sz), some tv, some (.int m), some (.ref D)] rfl ?_
 refine ⟨_, rfl, D, rfl, ⟨_, SqL.of gD⟩, fun D2 hD2 => ?_⟩
 refine comp_list (xs := ws) (fun (i : Nat) (Hx : Hp) => Same H2 Hx ∧ ∃ ws2, Hx D2 = some (.lst ws2) ∧ ws2.length = i) ⟨same_new hD2 _, [], upd_same, rfl⟩ (fun i Hx _ zz => SqL.of (zz.1 _ _ gD)) (fun i x0 Hx hx zz => ?_) (fun Hx zz => ?_)
 · obtain ⟨sx, ws2, gD2, wl2⟩ := zz
   have hil := (List.getElem?_eq_some_iff.mp hx).1
   refine gn_go ?_
   refine turn0 (A := fun H5 => mApp _ D2 _ H5 _) ?_
   refine ⟨_, rfl, _, rfl, (by show 3 ≤ sizeLine; decide), fun t1 ht1 => ?_⟩
   have a1 := same_new ht1 (.tup [.str "same", x0, tv])
   exact ⟨_, a1 _ _ gD2, (by omega), comp_end (Pv := fun (i : Nat) (Hx : Hp) => Same H2 Hx ∧ ∃ ws2, Hx D2 = some (.lst ws2) ∧ ws2.length = i) (by repeat' constructor) hil ⟨same_put (same_trans sx a1) hD2, _, upd_same, by rw [List.length_append, wl2]; rfl⟩⟩
 obtain ⟨sx, ws2, gD2, wl2⟩ := zz
 exact ⟨D2, ws2, rfl, gD2, by omega, by omega, fun v' H' s' => q v' H' (same_trans s1 (same_trans s2 (same_trans sx s')))⟩
theorem has_puM (s : Src K mg "put_made" sPuM) (m_range : mg "range" = none) (SS : Has P w K mg base "small_sum" ["sizes", "sum_told", "size", "side"] 33 spSmS) (AN0 : Has P w K mg base "any_of" ["conditions"] 15 spAnyO) : Has P w K mg base "put_made" ["sizes", "put", "side", "before"] 34 spPuM :=
  let ⟨f, fd, F, m⟩ := s
  ⟨f, fd, ok_puM F m_range SS AN0, F.kp, bnd4 F fun _ _ _ _ _ _ _ _ _ _ => rfl, m⟩
theorem putAll_in : ∀ (kvs d : List (Key × V)) (k : Key), (k ∈ kvs.map (·.1) ∨ (valV d k).isSome = true) → ∃ v, valV (putAll d kvs) k = some v ∧ ((k, v) ∈ kvs ∨ valV d k = some v)
  | [], d, k, h => by
    rcases h with h | h
    · exact nomatch h
    · obtain ⟨v, hv⟩ := Option.isSome_iff_exists.mp h
      exact ⟨v, hv, .inr hv⟩
  | p :: r, d, k, h => by
    obtain ⟨v, h1, h2⟩ := putAll_in r (putK d p.1 p.2) k (by
      by_cases e : k = p.1
      · exact .inr (by rw [valV_put, if_pos e]; rfl)
      · rcases h with h | h
        · rcases List.mem_cons.mp h with z | z
          · exact absurd z e
          · exact .inl z
        · exact .inr (by rw [valV_put, if_neg e]; exact h))
    refine ⟨v, h1, ?_⟩
    rcases h2 with z | z
    · exact .inl (List.mem_cons.mpr (.inr z))
    · rw [valV_put] at z
      split at z
      · rename_i e
        cases z
        exact .inl (List.mem_cons.mpr (.inl (by rw [e])))
      · exact .inr z
def bsK (bs : List (Str × Int)) : List (Key × V) := bs.map fun b => (.inr b.1, .int b.2)
theorem szd_of {H : Hp} {D : Addr} {bs : List (Str × Int)} (sz : ∀ b ∈ bs, 1 ≤ b.2 ∧ b.2 ≤ 16) (h : H D = some (.dK (putAll [] (bsK bs)))) : SzD H D (bs.map (·.1)) := by
  refine ⟨_, h, fun x hx => ?_⟩
  obtain ⟨b, hb, rfl⟩ := List.mem_map.mp hx
  obtain ⟨v, h1, h2⟩ := putAll_in (bsK bs) [] (.inr b.1) (.inl (List.mem_map.mpr ⟨(.inr b.1, .int b.2), List.mem_map.mpr ⟨b, hb, rfl⟩, rfl⟩))
  rcases h2 with z | z
  · obtain ⟨b', hb', e⟩ := List.mem_map.mp z
    injection e with ea eb
    subst eb
    exact ⟨b'.2, h1, sz b' hb'⟩
  · exact nomatch z
theorem pairAt_of {H : Hp} : ∀ {vb : List V} {bs : List (Str × Int)}, Paired (BoxAt H) vb bs → Paired (PairAt H) vb (bsK bs)
  | _, _, .nil => .nil
  | _, _, .cons r t => .cons r (pairAt_of t)
def spBtP : Sp := fun vs H Q _ => ∃ (p B I N : Addr) (vb : List V) (bs : List (Str × Int)) (v1 v2 : V) (x1 x2 : Str) (e1 e2 : E) (n1 n2 : Int), vs = [.ref p, v1, v2] ∧ H p = some (.tup [.ref B, .ref I, .ref N]) ∧ H B = some (.lst vb) ∧ Paired (BoxAt H) vb bs ∧ bs.length ≤ 4 ∧ (∀ b ∈ bs, 1 ≤ b.2 ∧ b.2 ≤ 16) ∧ PutAt H v1 (bs.map (·.1)) x1 e1 n1 ∧ PutAt H v2 (bs.map (·.1)) x2 e2 n2 ∧ ∀ (v' : V) (H' : Hp), Same H H' → Q v' H'
theorem scBtP : FnScope ["program", "first", "second", "sizes", "others", "made"] ["program", "first", "second"] (defScope sBtP) := ⟨rfl, rfl, rfl, by decide +kernel, rfl, by decide +kernel, by decide +kernel⟩
theorem gBtP_all_of : GLB sBtP "all_of" := by decide +kernel
theorem gBtP_boxes_same : GLB sBtP "boxes_same" := by decide +kernel
theorem gBtP_dict : GLB sBtP "dict" := by decide +kernel
theorem gBtP_put_made : GLB sBtP "put_made" := by decide +kernel
theorem ok_btP {f : Addr} {fd : FuncData} (F : Fun K "between_puts" "between_puts" sBtP f fd) (m_dict : mg "dict" = none) (PM : Has P w K mg base "put_made" ["sizes", "put", "side", "before"] 34 spPuM) (BS0 : Has P w K mg base "boxes_same" ["names"] 9 (spBoxS K)) (AO0 : Has P w K mg base "all_of" ["conditions"] 14 spAllN) : FnOk P w K mg base CX0 35 f fd ["program", "first", "second"] spBtP := by
 refine F.ok scBtP (fun vs H Q E h => ?_) (fun cdv A outer s H vs Q E hr h => ?_)
 · obtain ⟨p, B, I, N, vb, bs, v1, v2, x1, x2, e1, e2, n1, n2, rfl, _⟩ := h
   rfl
 obtain ⟨p, B, I, N, vb, bs, v1, v2, x1, x2, e1, e2, n1, n2, rfl, hp, hB, pb, l4, sz, pa1, pa2, q⟩ := h
 obtain ⟨u1, ⟨p1, rfl, hp1⟩, _⟩ := pa1.at_
 obtain ⟨u2, ⟨p2, rfl, hp2⟩, _⟩ := pa2.at_
 have BS := BS0.mono (show 9 ≤ 34 by omega)
 have AO := AO0.mono (show 14 ≤ 34 by omega)
 have vbl := Paired.length pb
 refine goL ⟨_, (L3.cons (L3.set 3 scBtP.nd (L3.callT L3.c_dict gBtP_dict m_dict (by decide +kernel) (L3.k (L3.ix L3.ixT (L3.v 0) L3.int) L3.n)))
   (L3.cons (L3.slc (i := 4) [none, none, some 1, some 2] ["name", "size", "first", "second"] (show CompScope _ (defScope sBtP) from ⟨rfl, by decide +kernel, by decide +kernel, by decide +kernel⟩) (by rfl) (L3.iL (L3.ix L3.ixT (L3.v 0) L3.int)) (fun _ _ _ _ _ => ⟨(L3.gtup 2 (L3.gsk (L3.gn 0 (show (["name", "size", "first", "second"] : List Str).Nodup from by decide +kernel)) (L3.gsk (L3.gn 1 (show (["name", "size", "first", "second"] : List Str).Nodup from by decide +kernel)) L3.gsn))), (L3.if1 (L3.cmp L3.o_notIn (L3.v 0) (L3.tup (L3.k (L3.ix L3.ixT (L3.v 2) L3.int) (L3.k (L3.ix L3.ixT (L3.v 3) L3.int) L3.n))) (by rfl))), (L3.v 0)⟩) scBtP.nd)
   (L3.cons (L3.set 5 scBtP.nd (L3.lst (L3.k (L3.own PM hr gBtP_put_made (L3.k (L3.v 3) (L3.k (L3.v 1) (L3.k L3.str (L3.k L3.str L3.n))))) (L3.k (L3.own PM hr gBtP_put_made (L3.k (L3.v 3) (L3.k (L3.v 2) (L3.k L3.str (L3.k L3.str L3.n))))) L3.n))))
   (L3.one (L3.ret (L3.own AO hr gBtP_all_of (L3.k (L3.op L3.o_cat (L3.lst (L3.k (L3.own BS hr gBtP_boxes_same (L3.k (L3.v 4) L3.n)) L3.n)) (L3.v 5)) L3.n))))))), ?_⟩
 refine cut1 fun Rk kR => ?_
 refine ⟨_, rfl, p, _, _, _, rfl, rfl, SqT.of hp, rfl, B, _, _, rfl, hB, pairAt_of pb, fun z hz => ?_⟩
 have s1 := same_new hz (.dK (putAll [] (bsK bs)))
 have sd1 : SzD (upd H z (.dK (putAll [] (bsK bs)))) z (bs.map (·.1)) := szd_of sz upd_same
 generalize upd H z (.dK (putAll [] (bsK bs))) = H1 at s1 sd1 ⊢
 refine gn_go ?_
 refine kR _ _ ?_
 clear kR
 refine normS [some (.ref p), some (.ref p1), some (.ref p2), some (.ref z), none, none] rfl ?_
 refine cut1 fun Rk kR => ?_
 have hp' := s1 _ _ hp
 have hB' := s1 _ _ hB
 refine ⟨_, rfl, p, _, _, _, rfl, rfl, SqT.of hp', rfl, B, rfl, ⟨_, SqL.of hB'⟩, fun O hO => ?_⟩
 refine comp_list (xs := vb) (fun (i : Nat) (Hx : Hp) => Same H1 Hx ∧ ∃ ns : List Str, Hx O = some (.lst (ns.map V.str)) ∧ ns.length ≤ i) ⟨same_new hO _, [], upd_same, Nat.le_refl _⟩ (fun i Hx _ zz => SqL.of (zz.1 _ _ hB')) (fun i x0 Hx hx zz => ?_) (fun H2 zz => ?_)
 · obtain ⟨sx, ns, gO, nl⟩ := zz
   have hil := (List.getElem?_eq_some_iff.mp hx).1
   obtain ⟨b, hbi, pb0, rfl, hpb⟩ := Paired.get pb hx
   have sx0 := same_trans s1 sx
   refine ⟨pb0, _, rfl, SqT.of (sx0 _ _ hpb), rfl, _, _, rfl, _, _, rfl, rfl, ?_⟩
   refine ⟨_, rfl, _, rfl, p1, _, _, _, rfl, rfl, SqT.of (sx0 _ _ hp1), rfl, _, rfl, p2, _, _, _, rfl, rfl, SqT.of (sx0 _ _ hp2), rfl, (by show 2 ≤ sizeLine; decide), fun t1 ht1 => ?_⟩
   have a1 := same_new ht1 (.tup [.str x1, .str x2])
   have ga1 : (upd Hx t1 (.tup [.str x1, .str x2])) t1 = some (.tup [.str x1, .str x2]) := upd_same
   generalize upd Hx t1 (.tup [.str x1, .str x2]) = Hy at a1 ga1 ⊢
   have gOy := a1 _ _ gO
   refine ⟨t1, _, rfl, .inr (SqT.of ga1), rfl, rfl, _, rfl, ?_⟩
   refine ite2 (fun _ => ?_) (fun _ => ?_)
   · refine ⟨_, rfl, _, gOy, small1000 (by rw [List.length_map]; omega), comp_end (Pv := fun (i : Nat) (Hx : Hp) => Same H1 Hx ∧ ∃ ns : List Str, Hx O = some (.lst (ns.map V.str)) ∧ ns.length ≤ i) (by repeat' constructor) hil ⟨same_put (same_trans sx a1) hO, ns ++ [b.1], by rw [upd_same, List.map_append]; rfl, by rw [List.length_append]; show _ + 1 ≤ _; omega⟩⟩
   · exact comp_end (Pv := fun (i : Nat) (Hx : Hp) => Same H1 Hx ∧ ∃ ns : List Str, Hx O = some (.lst (ns.map V.str)) ∧ ns.length ≤ i) (by repeat' constructor) hil ⟨same_trans sx a1, ns, gOy, by omega⟩
 obtain ⟨s2, ns, gO, nl⟩ := zz
 refine gn_go ?_
 refine kR _ _ ?_
 clear kR
 refine normS [some (.ref p), some (.ref p1), some (.ref p2), some (.ref z), some (.ref O), none] rfl ?_
 refine cut1 fun Rk kR => ?_
 have s12 := same_trans s1 s2
 have nsl : (bs.map (·.1)).length ≤ 4 := by rw [List.length_map]; exact l4
 refine ⟨_, rfl, _, rfl, z, .ref p1, "mine", "yours", bs.map (·.1), x1, e1, n1, rfl, sd1.same s2, pa1.keep (Same.tk s12), nsl, fun w1 H3 s3 => ?_⟩
 have s13 := same_trans s12 s3
 refine ⟨_, rfl, _, rfl, z, .ref p2, "yours", "mine", bs.map (·.1), x2, e2, n2, rfl, sd1.same (same_trans s2 s3), pa2.keep (Same.tk s13), nsl, fun w2 H4 s4 => ?_⟩
 refine ⟨(by show 2 ≤ sizeLine; decide), fun M hM => ?_⟩
 have s5 := same_new hM (.lst [w1, w2])
 have g5 : (upd H4 M (.lst [w1, w2])) M = some (.lst [w1, w2]) := upd_same
 generalize upd H4 M (.lst [w1, w2]) = H5 at s5 g5 ⊢
 refine gn_go ?_
 refine kR _ _ ?_
 clear kR
 refine normS [some (.ref p), some (.ref p1), some (.ref p2), some (.ref z), some (.ref O), some (.ref M)] rfl ?_
 have s25 := same_trans s3 (same_trans s4 s5)
 refine ⟨_, rfl, O, ns, rfl, s25 _ _ gO, by omega, fun bv be H6 s6 _ _ => ?_⟩
 refine ⟨(by show 1 ≤ sizeLine; decide), fun L hL => ?_⟩
 have s7 := same_new hL (.lst [bv])
 have g7 : (upd H6 L (.lst [bv])) L = some (.lst [bv]) := upd_same
 generalize upd H6 L (.lst [bv]) = H7 at s7 g7 ⊢
 refine ⟨_, rfl, L, M, _, _, rfl, rfl, g7, s7 _ _ (s6 _ _ g5), (by show 1 + 2 ≤ sizeLine; decide), fun L2 hL2 => ?_⟩
 have s8 := same_new hL2 (.lst ([bv] ++ [w1, w2]))
 refine ⟨L2, _, rfl, upd_same, (by show 1 ≤ 3; decide), (by show 3 ≤ 4096; decide), fun v' H' s' => ?_⟩
 exact q v' H' (same_trans s12 (same_trans s25 (same_trans s6 (same_trans s7 (same_trans s8 s')))))
theorem has_btP (s : Src K mg "between_puts" sBtP) (m_dict : mg "dict" = none) (PM : Has P w K mg base "put_made" ["sizes", "put", "side", "before"] 34 spPuM) (BS0 : Has P w K mg base "boxes_same" ["names"] 9 (spBoxS K)) (AO0 : Has P w K mg base "all_of" ["conditions"] 14 spAllN) : Has P w K mg base "between_puts" ["program", "first", "second"] 35 spBtP :=
  let ⟨f, fd, F, m⟩ := s
  ⟨f, fd, ok_btP F m_dict PM BS0 AO0, F.kp, bnd3 F fun _ _ _ _ _ _ _ _ _ => rfl, m⟩
abbrev sNmB : Stmt := top 31
abbrev sReE : Stmt := top 32
def E.isBox : E → Str → Bool
  | .box t y, x => decide (t = "box") && decide (y = x)
  | _, _ => false
theorem eqM2 {K : PySem.W.Frag} {H : Hp} {a t0 : Addr} {a0 x : Str} {y : V} {b1 : Bool} {Q : VK} (ha : H a = some (.tup [.str a0, y])) (h0 : H t0 = some (.tup [.str "box", .str x])) (hy : EM K H y (.str x) b1) (q : Q (.bl (decide (a0 = "box") && b1)) H) : rEqM K (.ref a) (.ref t0) H Q := by
  refine ⟨a, t0, _, _, fun j => match j with | 0 => decide (a0 = "box") | _ => b1, rfl, rfl, SqT.of ha, SqT.of h0, fun j u v hu hv => ?_, ?_⟩
  · match j, hu, hv with
    | 0, hu, hv =>
      cases hu
      cases hv
      have z := EM.flat (K := K) (H := H) (x := .str a0) (y := .str "box") rfl rfl
      have e : eqV (.str a0) (.str "box") = decide (a0 = "box") := by
        show (a0 == "box") = _
        rw [Bool.eq_iff_iff, beq_iff_eq, decide_eq_true_iff]
      rw [e] at z
      exact z
    | 1, hu, hv =>
      cases hu
      cases hv
      exact hy
  · show Q (.bl ((decide (a0 = "box") && (b1 && true)) && true)) H
    rw [Bool.and_true, Bool.and_true]
    exact q
theorem eqM3 {K : PySem.W.Frag} {H : Hp} {a t0 y : Addr} {a0 x : Str} {z : V} {ws : List V} {Q : VK} (ha : H a = some (.tup [.str a0, .ref y, z])) (h0 : H t0 = some (.tup [.str "box", .str x])) (hy : H y = some (.tup ws)) (q : Q (.bl false) H) : rEqM K (.ref a) (.ref t0) H Q := by
  refine ⟨a, t0, _, _, fun j => match j with | 0 => eqV (.str a0) (.str "box") | _ => false, rfl, rfl, SqT.of ha, SqT.of h0, fun j u v hu hv => ?_, ?_⟩
  · match j, hu, hv with
    | 0, hu, hv =>
      cases hu
      cases hv
      exact EM.flat rfl rfl
    | 1, hu, hv =>
      cases hu
      cases hv
      exact EM.text (SqT.of hy)
  · show Q (.bl (_ && false)) H
    rw [Bool.and_false]
    exact q
theorem eqM1 {K : PySem.W.Frag} {H : Hp} {a t0 : Addr} {a0 x : Str} {Q : VK} (ha : H a = some (.tup [.str a0])) (h0 : H t0 = some (.tup [.str "box", .str x])) (q : Q (.bl false) H) : rEqM K (.ref a) (.ref t0) H Q := by
  refine ⟨a, t0, _, _, fun _ => eqV (.str a0) (.str "box"), rfl, rfl, SqT.of ha, SqT.of h0, fun j u v hu hv => ?_, ?_⟩
  · match j, hu, hv with
    | 0, hu, hv =>
      cases hu
      cases hv
      exact EM.flat rfl rfl
  · show Q (.bl (_ && false)) H
    rw [Bool.and_false]
    exact q
theorem EAt.tupd {H : Hp} : ∀ {e : E} {v : V}, EAt H v e → ∃ p xs, v = .ref p ∧ H p = some (.tup xs)
  | .num _, _, ⟨p, e, h⟩ => ⟨p, _, e, h⟩
  | .box _ _, _, ⟨p, e, h⟩ => ⟨p, _, e, h⟩
  | .yes, _, ⟨p, e, h⟩ => ⟨p, _, e, h⟩
  | .nt _, _, ⟨_, ⟨p, e, h⟩, _⟩ => ⟨p, _, e, h⟩
  | .two _ _ _, _, ⟨_, _, ⟨p, e, h⟩, _⟩ => ⟨p, _, e, h⟩
theorem box_eqM {K : PySem.W.Frag} {H : Hp} {t0 : Addr} {x : Str} {Q : VK} : ∀ {s : E} {u : V}, EAt H u s → H t0 = some (.tup [.str "box", .str x]) → Q (.bl (s.isBox x)) H → rEqM K u (.ref t0) H Q
  | .num m, _, ⟨p, e, h⟩, h0, q => by
    subst e
    exact eqM2 h h0 (EM.flat rfl rfl) q
  | .box t y, _, ⟨p, e, h⟩, h0, q => by
    subst e
    have z := EM.flat (K := K) (H := H) (x := .str y) (y := .str x) rfl rfl
    have e : eqV (.str y) (.str x) = decide (y = x) := by
      show (y == x) = _
      rw [Bool.eq_iff_iff, beq_iff_eq, decide_eq_true_iff]
    rw [e] at z
    exact eqM2 h h0 z q
  | .yes, _, ⟨p, e, h⟩, h0, q => by
    subst e
    exact eqM1 h h0 q
  | .nt a, _, ⟨x1, ⟨p, e, h⟩, ea⟩, h0, q => by
    subst e
    obtain ⟨p1, xs, rfl, h1⟩ := ea.tupd
    exact eqM2 h h0 (EM.text (SqT.of h1)) (by rw [Bool.and_false]; exact q)
  | .two k a b, _, ⟨x1, y1, ⟨p, e, h⟩, ea, eb⟩, h0, q => by
    subst e
    obtain ⟨p1, xs, rfl, h1⟩ := ea.tupd
    exact eqM3 h h0 h1 q
def E.nm : E → Str → Bool
  | .box t y, x => E.isBox (.box t y) x
  | .two _ a b, x => a.nm x || b.nm x
  | _, _ => false
def spNmB (n : Nat) : Sp := fun vs H Q _ => ∃ (v : V) (e : E) (x : Str), vs = [v, .str x] ∧ EAt H v e ∧ e.isS ∧ (∀ t y, e = .box t y → t = "box") ∧ e.okIn (fun t _ => t = "box") ∧ e.dep < n ∧ ∀ H', Same H H' → Q (.bl (e.nm x)) H'
theorem none_nmB {f : Addr} {fd : FuncData} : FnOk P w K mg base CX0 1 f fd ["sum_told", "name"] (spNmB 0) := by
  have no : ∀ vs H Q E, ¬ spNmB 0 vs H Q E := fun vs H Q E h => by
    obtain ⟨v, e, x, _, _, _, _, _, h, _⟩ := h
    omega
  exact ⟨fun vs H Q E h => absurd h (no vs H Q E), fun A outer s H args us vs Q E _ _ _ _ h => absurd h (no vs H Q E)⟩
theorem scNmB : FnScope ["sum_told", "name"] ["sum_told", "name"] (defScope sNmB) := ⟨rfl, rfl, rfl, by decide +kernel, rfl, by decide +kernel, by decide +kernel⟩
theorem gNmB_PARTED : GLB sNmB "PARTED" := by decide +kernel
theorem gNmB_any : GLB sNmB "any" := by decide +kernel
theorem ok_nmB {n : Nat} {f : Addr} {fd : FuncData} (F : Fun K "names_box" "names_box" sNmB f fd) (PT : ∃ t, mg "PARTED" = some (.ref t) ∧ ∀ H : Hp, SqT K H t ((["plus", "less", "same", "under", "not", "both"] : List Str).map V.str)) (m_any : mg "any" = none) (G : Has P w K mg base "names_box" ["sum_told", "name"] (n + 1) (spNmB n)) : FnOk P w K mg base CX0 (n + 1 + 1) f fd ["sum_told", "name"] (spNmB (n + 1)) := by
 obtain ⟨tp, mP, cP⟩ := PT
 refine F.ok scNmB (fun vs H Q E h => ?_) (fun cdv A outer s H vs Q E hr h => ?_)
 · obtain ⟨v, e, x, rfl, _⟩ := h
   rfl
 obtain ⟨v, e, x, rfl, ev, is, bt, ok, dp, q⟩ := h
 refine goL ⟨_, (L3.cons (L3.ifs (L3.cmp L3.o_in (L3.ix L3.ixT (L3.v 0) L3.int) (L3.glob (w := .ref tp) gNmB_PARTED mP rfl) (by rfl)) (L3.one (L3.ret (L3.callB L3.c_any gNmB_any m_any (by decide +kernel) (L3.k (L3.lc [none, some 1] ["part", "name"] (show CompScope _ (defScope sNmB) from ⟨rfl, by decide +kernel, by decide +kernel, by decide +kernel⟩) (by rfl) (L3.iT (L3.slT1 (L3.v 0) L3.int)) (fun _ _ _ _ _ => ⟨(L3.gn 0 (show (["part", "name"] : List Str).Nodup from by decide +kernel)), L3.if0, (L3.own G hr (by rfl) (L3.k (L3.v 0) (L3.k (L3.v 1) L3.n)))⟩)) L3.n)))) L3.nil)
   (L3.one (L3.ret (L3.cmpE (L3.o_eqM (up_ne hr _ (by decide))) (L3.v 0) (L3.tup (L3.k L3.str (L3.k (L3.v 1) L3.n))))))), ?_⟩
 refine cut1 fun Rk kR => ?_
 match e, ev, is, bt, ok, dp, q with
 | .num m, ev, is, bt, ok, dp, q =>
   have EV : EAt H v (.num m) := ev
   obtain ⟨p, rfl, hp⟩ := ev
   refine ⟨_, rfl, p, _, _, _, rfl, rfl, SqT.of hp, rfl, tp, _, rfl, .inr (cP _), rfl, rfl, _, rfl, iteF' (by decide) (kR _ _ ?_)⟩
   refine ⟨_, rfl, _, rfl, (by show 2 ≤ sizeLine; decide), fun t0 ht0 => ?_⟩
   have s0 := same_new ht0 (.tup [.str "box", .str x])
   have g0 : (upd H t0 (.tup [.str "box", .str x])) t0 = some (.tup [.str "box", .str x]) := upd_same
   generalize upd H t0 (.tup [.str "box", .str x]) = H0 at s0 g0 ⊢
   exact box_eqM (EV.keep (Same.tk s0)) g0 (q _ s0)
 | .box t y, ev, is, bt, ok, dp, q =>
   have EV : EAt H v (.box t y) := ev
   obtain ⟨p, rfl, hp⟩ := ev
   have et : t = "box" := bt t y rfl
   subst et
   refine ⟨_, rfl, p, _, _, _, rfl, rfl, SqT.of hp, rfl, tp, _, rfl, .inr (cP _), rfl, rfl, _, rfl, iteF' (by decide) (kR _ _ ?_)⟩
   refine ⟨_, rfl, _, rfl, (by show 2 ≤ sizeLine; decide), fun t0 ht0 => ?_⟩
   have s0 := same_new ht0 (.tup [.str "box", .str x])
   have g0 : (upd H t0 (.tup [.str "box", .str x])) t0 = some (.tup [.str "box", .str x]) := upd_same
   generalize upd H t0 (.tup [.str "box", .str x]) = H0 at s0 g0 ⊢
   exact box_eqM (EV.keep (Same.tk s0)) g0 (q _ s0)
 | .two .plus a b, ev, is, bt, ok, dp, q =>
   obtain ⟨u, w, ⟨p, rfl, hp⟩, ea, eb⟩ := ev
   have dp : max a.dep b.dep + 1 < n + 1 := dp
   refine ⟨_, rfl, p, _, _, _, rfl, rfl, SqT.of hp, rfl, tp, _, rfl, .inr (cP _), rfl, rfl, _, rfl, iteT' (by decide) ?_⟩
   refine ⟨_, rfl, _, rfl, p, _, rfl, SqT.of hp, (fun z => absurd z.1 (show ¬ HT.sIx 3 0 (some 1) = 0 by decide)), fun l hl => ⟨l, rfl, ⟨_, SqT.of upd_same⟩, fun D hD => ?_⟩⟩
   have s1 := same_new hl (.tup [u, w])
   have g1 : (upd H l (.tup [u, w])) l = some (.tup [u, w]) := upd_same
   have hD' : (upd H l (.tup [u, w])) D = none := hD
   refine comp_tup (xs := [u, w]) (fun (i : Nat) (Hx : Hp) => Same (upd H l (.tup [u, w])) Hx ∧ Hx D = some (.lst (([a.nm x, b.nm x].take i).map V.bl))) ⟨same_new hD' _, upd_same⟩ (fun i Hx _ zz => SqT.of (zz.1 _ _ g1)) (fun i x0 Hx hx zz => ?_) (fun Hx zz => ?_)
   · obtain ⟨sx, gD⟩ := zz
     have s1x := same_trans s1 sx
     refine gn_go ?_
     refine turn0 (A := fun H5 => mApp _ D _ H5 _) ?_
     match i, hx with
     | 0, hx =>
       cases hx
       refine ⟨_, rfl, _, rfl, u, a, x, rfl, ea.keep (Same.tk s1x), is.1, (fun t y z => by subst z; exact ok.1), ok.1, by omega, fun H5 s5 => ?_⟩
       refine ⟨_, s5 _ _ gD, (by show 0 < sizeLine; decide), comp_end (Pv := fun (i : Nat) (Hx : Hp) => Same (upd H l (.tup [u, w])) Hx ∧ Hx D = some (.lst (([a.nm x, b.nm x].take i).map V.bl))) (by repeat' constructor) (by show 0 < 2; decide) ⟨same_put (same_trans sx s5) hD', upd_same⟩⟩
     | 1, hx =>
       cases hx
       refine ⟨_, rfl, _, rfl, w, b, x, rfl, eb.keep (Same.tk s1x), is.2, (fun t y z => by subst z; exact ok.2), ok.2, by omega, fun H5 s5 => ?_⟩
       refine ⟨_, s5 _ _ gD, (by show 1 < sizeLine; decide), comp_end (Pv := fun (i : Nat) (Hx : Hp) => Same (upd H l (.tup [u, w])) Hx ∧ Hx D = some (.lst (([a.nm x, b.nm x].take i).map V.bl))) (by repeat' constructor) (by show 1 < 2; decide) ⟨same_put (same_trans sx s5) hD', upd_same⟩⟩
   obtain ⟨sx, gD⟩ := zz
   refine ⟨D, [a.nm x, b.nm x], rfl, SqL.of gD, ?_⟩
   have q9 : Q (.bl (a.nm x || b.nm x)) _ := q _ (same_trans s1 sx)
   have e9 : [a.nm x, b.nm x].any id = (a.nm x || b.nm x) := by show (a.nm x || (b.nm x || false)) = _; rw [Bool.or_false]
   rw [← e9] at q9
   exact q9
 | .two .less a b, ev, is, bt, ok, dp, q =>
   obtain ⟨u, w, ⟨p, rfl, hp⟩, ea, eb⟩ := ev
   have dp : max a.dep b.dep + 1 < n + 1 := dp
   refine ⟨_, rfl, p, _, _, _, rfl, rfl, SqT.of hp, rfl, tp, _, rfl, .inr (cP _), rfl, rfl, _, rfl, iteT' (by decide) ?_⟩
   refine ⟨_, rfl, _, rfl, p, _, rfl, SqT.of hp, (fun z => absurd z.1 (show ¬ HT.sIx 3 0 (some 1) = 0 by decide)), fun l hl => ⟨l, rfl, ⟨_, SqT.of upd_same⟩, fun D hD => ?_⟩⟩
   have s1 := same_new hl (.tup [u, w])
   have g1 : (upd H l (.tup [u, w])) l = some (.tup [u, w]) := upd_same
   have hD' : (upd H l (.tup [u, w])) D = none := hD
   refine comp_tup (xs := [u, w]) (fun (i : Nat) (Hx : Hp) => Same (upd H l (.tup [u, w])) Hx ∧ Hx D = some (.lst (([a.nm x, b.nm x].take i).map V.bl))) ⟨same_new hD' _, upd_same⟩ (fun i Hx _ zz => SqT.of (zz.1 _ _ g1)) (fun i x0 Hx hx zz => ?_) (fun Hx zz => ?_)
   · obtain ⟨sx, gD⟩ := zz
     have s1x := same_trans s1 sx
     refine gn_go ?_
     refine turn0 (A := fun H5 => mApp _ D _ H5 _) ?_
     match i, hx with
     | 0, hx =>
       cases hx
       refine ⟨_, rfl, _, rfl, u, a, x, rfl, ea.keep (Same.tk s1x), is.1, (fun t y z => by subst z; exact ok.1), ok.1, by omega, fun H5 s5 => ?_⟩
       refine ⟨_, s5 _ _ gD, (by show 0 < sizeLine; decide), comp_end (Pv := fun (i : Nat) (Hx : Hp) => Same (upd H l (.tup [u, w])) Hx ∧ Hx D = some (.lst (([a.nm x, b.nm x].take i).map V.bl))) (by repeat' constructor) (by show 0 < 2; decide) ⟨same_put (same_trans sx s5) hD', upd_same⟩⟩
     | 1, hx =>
       cases hx
       refine ⟨_, rfl, _, rfl, w, b, x, rfl, eb.keep (Same.tk s1x), is.2, (fun t y z => by subst z; exact ok.2), ok.2, by omega, fun H5 s5 => ?_⟩
       refine ⟨_, s5 _ _ gD, (by show 1 < sizeLine; decide), comp_end (Pv := fun (i : Nat) (Hx : Hp) => Same (upd H l (.tup [u, w])) Hx ∧ Hx D = some (.lst (([a.nm x, b.nm x].take i).map V.bl))) (by repeat' constructor) (by show 1 < 2; decide) ⟨same_put (same_trans sx s5) hD', upd_same⟩⟩
   obtain ⟨sx, gD⟩ := zz
   refine ⟨D, [a.nm x, b.nm x], rfl, SqL.of gD, ?_⟩
   have q9 : Q (.bl (a.nm x || b.nm x)) _ := q _ (same_trans s1 sx)
   have e9 : [a.nm x, b.nm x].any id = (a.nm x || b.nm x) := by show (a.nm x || (b.nm x || false)) = _; rw [Bool.or_false]
   rw [← e9] at q9
   exact q9
theorem has_nmB (s : Src K mg "names_box" sNmB) (PT : ∃ t, mg "PARTED" = some (.ref t) ∧ ∀ H : Hp, SqT K H t ((["plus", "less", "same", "under", "not", "both"] : List Str).map V.str)) (m_any : mg "any" = none) : ∀ n : Nat, Has P w K mg base "names_box" ["sum_told", "name"] (n + 1) (spNmB n) := by
  obtain ⟨f, fd, F, m⟩ := s
  have b : Binds K fd ["sum_told", "name"] [] := bnd2 F fun _ _ _ _ _ _ _ _ => rfl
  intro n
  have all : FnOk P w K mg base CX0 (n + 1) f fd ["sum_told", "name"] (spNmB n) := by
    induction n with
    | zero => exact none_nmB
    | succ n ih => exact ok_nmB F PT m_any ⟨f, fd, ih, F.kp, b, m⟩
  exact ⟨f, fd, all, F.kp, b, m⟩
theorem inV_ints (x : Int) : ∀ named : List Int, inV (.int x) (named.map V.int) = decide (x ∈ named)
  | [] => by simp [inV]
  | y :: r => by
    have ih := inV_ints x r
    unfold inV at ih ⊢
    rw [List.map_cons, List.any_cons, ih]
    by_cases e : x = y
    · subst e
      simp [eqV]
    · have e2 : ¬ y = x := fun z => e z.symm
      simp [eqV, e, e2]
theorem flat_ints (xs : List Int) : (xs.map V.int).all flatV = true := by
  rw [List.all_eq_true]
  intro v hv
  obtain ⟨x, _, rfl⟩ := List.mem_map.mp hv
  rfl
theorem node_at {H : Hp} {vn : List V} {nds : List Np} (pn : Paired (NpAt H) vn nds) {p : Nat} (hp : p < nds.length) : ∃ x e, vn[p]? = some x ∧ nds[p]? = some e ∧ NpAt H x e := by
  have vl := Paired.length pn
  obtain ⟨x, hx⟩ : ∃ x, vn[p]? = some x := ⟨vn[p]'(by omega), List.getElem?_eq_getElem (by omega)⟩
  obtain ⟨e, he, h⟩ := Paired.get pn hx
  exact ⟨x, e, hx, he, h⟩
def oth (nds : List Np) (nd : Nat) : Nat → List Np
  | 0 => []
  | i + 1 => oth nds nd i ++ if i = nd then [] else nds[i]?.toList
theorem oth_len (nds : List Np) (nd : Nat) : ∀ i, (oth nds nd i).length ≤ i
  | 0 => Nat.le_refl _
  | i + 1 => by
    show (oth nds nd i ++ _).length ≤ _
    have := oth_len nds nd i
    rw [List.length_append]
    split
    · show _ + 0 ≤ _
      omega
    · cases nds[i]? with
      | none => show _ + 0 ≤ _; omega
      | some _ => show _ + 1 ≤ _; omega
def comesB (nds : List Np) (nd : Nat) (b : Int) : Bool := (oth nds nd nds.length).any fun e => decide (b ∈ e.leads)
inductive ExOk (nds : List Np) (nd : Nat) : Prop
  | mk {x y : Str} {e e2 : E} {b b2 : Int} (h1 : nds[nd]? = some (.put x e b)) (h2 : nds[b.toNat]? = some (.put y e2 b2)) (b0 : b ≠ 0) (bn : b ≠ (nd : Int)) (co : comesB nds nd b = false) (xy : x ≠ y) (n1 : e.nm y = false) (n2 : e2.nm x = false) : ExOk nds nd
theorem np_put (e : Np) : (∃ x s n, e = .put x s n) ∨ e.hd ≠ "put" := by
  cases e with
  | put x s n => exact .inl ⟨x, s, n, rfl⟩
  | say _ _ => exact .inr (show ("say" : Str) ≠ "put" by decide)
  | test _ _ _ => exact .inr (show ("test" : Str) ≠ "put" by decide)
  | pick _ _ => exact .inr (show ("pick" : Str) ≠ "put" by decide)
  | fin => exact .inr (show ("end" : Str) ≠ "put" by decide)
structure SumOk (e : E) : Prop where
  is : e.isS
  bt : ∀ t y, e = .box t y → t = "box"
  ok : e.okIn (fun t _ => t = "box")
  dp : e.dep < 40
def spReE (C : Addr) : Sp := fun vs H Q X => ∃ (l : Addr) (vn : List V) (nds : List Np) (nd : Nat), vs = [.ref l, .int (nd : Int)] ∧ H l = some (.lst vn) ∧ Paired (NpAt H) vn nds ∧ (∀ e ∈ nds, ∀ b ∈ e.leads, 0 ≤ b ∧ b < (nds.length : Int)) ∧ (∀ e ∈ nds, ∀ x s n, e = .put x s n → SumOk s) ∧ nd < nds.length ∧ nds.length ≤ 900 ∧ (ExOk nds nd → ∀ H', Same H H' → Q .non H') ∧ (¬ ExOk nds nd → ∀ H', Same H H' → X (.ref C) none H')
theorem scReE : FnScope ["nodes", "node", "behind", "others", "name", "told", "next_name", "next_told"] ["nodes", "node"] (defScope sReE) := ⟨rfl, rfl, rfl, by decide +kernel, rfl, by decide +kernel, by decide +kernel⟩
theorem gReE_NoChange : GLB sReE "NoChange" := by decide +kernel
theorem gReE_any : GLB sReE "any" := by decide +kernel
theorem gReE_enumerate : GLB sReE "enumerate" := by decide +kernel
theorem gReE_names_box : GLB sReE "names_box" := by decide +kernel
theorem ok_reE {C T : Addr} {f : Addr} {fd : FuncData} (F : Fun K "refuse_exchange" "refuse_exchange" sReE f fd) (m_enumerate : mg "enumerate" = none) (m_any : mg "any" = none) (cN : Xc K mg "NoChange" C (.ref T :: vE)) (LE0 : Has P w K mg base "leads_of" ["node"] 1 spLeads) (NB : Has P w K mg base "names_box" ["sum_told", "name"] 41 (spNmB 40)) : FnOk P w K mg base (CX1 P w base) 42 f fd ["nodes", "node"] (spReE C) := by
  refine F.okX scReE (fun vs H Q E h => ?_) (fun cdv A outer s H vs Q E hr h => ?_)
  · obtain ⟨l, vn, nds, nd, rfl, _⟩ := h
    rfl
  · obtain ⟨l, vn, nds, nd, rfl, hl, pn, ld, so, hnd, n9, q, qx⟩ := h
    have LE := LE0.mono (show 1 ≤ 41 by omega)
    have vnl := Paired.length pn
    obtain ⟨x1, e1, hx1, he1, na1⟩ := node_at pn hnd
    refine goL ⟨_, (L3.cons (L3.ifs (L3.tw (L3.or2 (L3.cmp L3.o_ne (L3.ix L3.ixT (L3.ix L3.ixL (L3.v 0) (L3.v 1)) L3.int) L3.str) (L3.or1 (L3.cmp L3.o_ne (L3.ix L3.ixT (L3.ix L3.ixL (L3.v 0) (L3.ix L3.ixT (L3.ix L3.ixL (L3.v 0) (L3.v 1)) L3.int)) L3.int) L3.str)))) (L3.one (L3.raise_ raisesX cN (by rfl) gReE_NoChange (L3.k L3.str L3.n))) L3.nil)
      (L3.cons (L3.set 2 scReE.nd (L3.ix L3.ixT (L3.ix L3.ixL (L3.v 0) (L3.v 1)) L3.int))
      (L3.cons (L3.slc (i := 3) [none, none, some 1] ["number", "old", "node"] (show CompScope _ (defScope sReE) from ⟨rfl, by decide +kernel, by decide +kernel, by decide +kernel⟩) (by rfl) (L3.iE gReE_enumerate m_enumerate (L3.k (L3.v 0) L3.n)) (fun _ _ _ _ _ => ⟨(L3.gtup 2 (L3.gsk (L3.gn 0 (show (["number", "old", "node"] : List Str).Nodup from by decide +kernel)) (L3.gsk (L3.gn 1 (show (["number", "old", "node"] : List Str).Nodup from by decide +kernel)) L3.gsn))), (L3.if1 (L3.cmp L3.o_ne (L3.v 0) (L3.v 2))), (L3.v 1)⟩) scReE.nd)
      (L3.cons (L3.ifs (L3.tw (L3.or2 (L3.cmp L3.o_in (L3.v 2) (L3.tup (L3.k L3.int (L3.k (L3.v 1) L3.n))) (by rfl)) (L3.or1 (L3.tval (L3.callB L3.c_any gReE_any m_any (by decide +kernel) (L3.k (L3.lc [none, some 2] ["old", "behind"] (show CompScope _ (defScope sReE) from ⟨rfl, by decide +kernel, by decide +kernel, by decide +kernel⟩) (by rfl) (L3.iL (L3.v 3)) (fun _ _ _ _ _ => ⟨(L3.gn 0 (show (["old", "behind"] : List Str).Nodup from by decide +kernel)), L3.if0, (L3.cmpE L3.o_in (L3.v 1) (L3.own LE hr (by rfl) (L3.k (L3.v 0) L3.n)) (by rfl))⟩)) L3.n)))))) (L3.one (L3.raise_ raisesX cN (by rfl) gReE_NoChange (L3.k L3.str L3.n))) L3.nil)
      (L3.cons (L3.par2 4 5 scReE.nd (L3.k (L3.ix L3.ixT (L3.ix L3.ixL (L3.v 0) (L3.v 1)) L3.int) (L3.k (L3.ix L3.ixT (L3.ix L3.ixL (L3.v 0) (L3.v 1)) L3.int) L3.n)))
      (L3.cons (L3.par2 6 7 scReE.nd (L3.k (L3.ix L3.ixT (L3.ix L3.ixL (L3.v 0) (L3.v 2)) L3.int) (L3.k (L3.ix L3.ixT (L3.ix L3.ixL (L3.v 0) (L3.v 2)) L3.int) L3.n)))
      (L3.one (L3.ifs (L3.tw (L3.or2 (L3.cmp L3.o_eq (L3.v 4) (L3.v 6)) (L3.or2 (L3.tval (L3.own NB hr gReE_names_box (L3.k (L3.v 5) (L3.k (L3.v 6) L3.n)))) (L3.or1 (L3.tval (L3.own NB hr gReE_names_box (L3.k (L3.v 7) (L3.k (L3.v 4) L3.n)))))))) (L3.one (L3.raise_ raisesX cN (by rfl) gReE_NoChange (L3.k L3.str L3.n))) L3.nil)))))))), ?_⟩
    refine cut1 fun Rk kR => ?_
    rcases np_put e1 with ⟨x, m1, b, rfl⟩ | nput
    rotate_left
    · obtain ⟨px, as, rfl, hpx⟩ := na1.head
      have no : ¬ ExOk nds nd := fun z => by
        cases z with
        | mk h1 => rw [he1] at h1; cases h1; exact nput rfl
      refine ⟨_, rfl, _, rfl, l, _, _, _, rfl, rfl, SqL.of hl, atI_nat hx1, px, _, _, _, rfl, rfl, SqT.of hpx, at0, rfl, _, rfl, ?_⟩
      refine iteT' (by rw [decide_eq_false (fun z => nput (by injection z))]; rfl) (iteT' (by decide) ?_)
      exact ⟨_, rfl, qx no _ (same_refl _)⟩
    obtain ⟨u1, ⟨p1, rfl, hp1⟩, eu1⟩ := na1
    have bl := ld _ (List.mem_of_getElem? he1) b (List.mem_singleton.mpr rfl)
    have bn : b.toNat < nds.length := by omega
    have eb : ((b.toNat : Nat) : Int) = b := Int.toNat_of_nonneg bl.1
    obtain ⟨x2, e2, hx2, he2, na2⟩ := node_at pn bn
    have hat2 : atI vn b = some x2 := by
      have := atI_nat hx2
      rw [eb] at this
      exact this
    refine ⟨_, rfl, _, rfl, l, _, _, _, rfl, rfl, SqL.of hl, atI_nat hx1, p1, _, _, _, rfl, rfl, SqT.of hp1, rfl, rfl, _, rfl, iteF' (by decide) ?_⟩
    rcases np_put e2 with ⟨y, m2, b2, rfl⟩ | nput
    rotate_left
    · obtain ⟨px, as, rfl, hpx⟩ := na2.head
      have no : ¬ ExOk nds nd := fun z => by
        cases z with
        | mk h1 h2 => rw [he1] at h1; cases h1; rw [he2] at h2; cases h2; exact nput rfl
      refine ⟨_, rfl, _, rfl, _, rfl, l, _, _, _, rfl, rfl, SqL.of hl, atI_nat hx1, p1, _, _, _, rfl, rfl, SqT.of hp1, rfl, l, _, _, _, rfl, rfl, SqL.of hl, hat2, px, _, _, _, rfl, rfl, SqT.of hpx, at0, rfl, _, rfl, ?_⟩
      refine iteT' (by rw [decide_eq_false (fun z => nput (by injection z))]; rfl) ?_
      exact ⟨_, rfl, qx no _ (same_refl _)⟩
    obtain ⟨u2, ⟨p2, rfl, hp2⟩, eu2⟩ := na2
    refine ⟨_, rfl, _, rfl, _, rfl, l, _, _, _, rfl, rfl, SqL.of hl, atI_nat hx1, p1, _, _, _, rfl, rfl, SqT.of hp1, rfl, l, _, _, _, rfl, rfl, SqL.of hl, hat2, p2, _, _, _, rfl, rfl, SqT.of hp2, rfl, rfl, _, rfl, iteF' (by decide) (kR _ _ ?_)⟩
    clear kR
    have key : ExOk nds nd ↔ (b ≠ 0 ∧ b ≠ (nd : Int) ∧ comesB nds nd b = false ∧ x ≠ y ∧ m1.nm y = false ∧ m2.nm x = false) := by
      refine ⟨fun z => ?_, fun z => .mk he1 he2 z.1 z.2.1 z.2.2.1 z.2.2.2.1 z.2.2.2.2.1 z.2.2.2.2.2⟩
      cases z with
      | mk h1 h2 b0 bn co xy n1 n2 =>
        rw [he1] at h1
        cases h1
        rw [he2] at h2
        cases h2
        exact ⟨b0, bn, co, xy, n1, n2⟩
    refine cut1 fun Rk kR => ?_
    refine ⟨_, rfl, _, rfl, l, _, _, _, rfl, rfl, SqL.of hl, atI_nat hx1, p1, _, _, _, rfl, rfl, SqT.of hp1, rfl, ?_⟩
    refine gn_go ?_
    refine kR _ _ ?_
    clear kR
    refine normS [some (.ref l), some (.int (nd : Int)), some (.int b), none, none, none, none, none] rfl ?_
    refine cut1 fun Rk kR => ?_
    refine ⟨_, rfl, l, rfl, ⟨_, SqL.of hl⟩, fun O hO => ?_⟩
    refine comp_enum (xs := vn) (fun (i : Nat) (Hx : Hp) => Same H Hx ∧ ∃ us, Hx O = some (.lst us) ∧ Paired (NpAt Hx) us (oth nds nd i)) ⟨same_new hO _, [], upd_same, .nil⟩ (fun i Hx _ zz => SqL.of (zz.1 _ _ hl)) (fun i x0 pp Hx hx zz hpp => ?_) (fun H2 zz => ?_)
    · obtain ⟨sx, us, gO, pu⟩ := zz
      have hil := (List.getElem?_eq_some_iff.mp hx).1
      obtain ⟨ei, hei, nai⟩ := Paired.get pn hx
      have ul := Paired.length pu
      have ol := oth_len nds nd i
      have sp := same_new hpp (.tup [.int (i : Int), x0])
      have gp : (upd Hx pp (.tup [.int (i : Int), x0])) pp = some (.tup [.int (i : Int), x0]) := upd_same
      generalize upd Hx pp (.tup [.int (i : Int), x0]) = Hy at sp gp ⊢
      refine ⟨pp, _, rfl, SqT.of gp, rfl, _, _, rfl, _, _, rfl, rfl, ?_⟩
      refine ⟨_, rfl, _, rfl, rfl, _, rfl, ?_⟩
      by_cases c : i = nd
      · refine iteF' (show (!decide (V.int (i : Int) = V.int (nd : Int))) = false by rw [c, decide_eq_true rfl]; rfl) (comp_end (Pv := fun (i : Nat) (Hx : Hp) => Same H Hx ∧ ∃ us, Hx O = some (.lst us) ∧ Paired (NpAt Hx) us (oth nds nd i)) (by repeat' constructor) hil ⟨same_trans sx sp, us, sp _ _ gO, ?_⟩)
        have e9 : oth nds nd (i + 1) = oth nds nd i := by show _ ++ (if i = nd then _ else _) = _; rw [if_pos c, List.append_nil]
        rw [e9]
        exact Paired.mapP pu fun _ _ z => NpAt.keep (Same.tk sp) z
      · refine iteT' (show (!decide (V.int (i : Int) = V.int (nd : Int))) = true by rw [decide_eq_false (fun z => c (by injection z with z; omega))]; rfl) ?_
        have gOy := sp _ _ gO
        have tkO : TK Hy (upd Hy O (.lst (us ++ [x0]))) := TW.TK.lst gOy
        refine ⟨_, rfl, _, gOy, small1000 (by omega), comp_end (Pv := fun (i : Nat) (Hx : Hp) => Same H Hx ∧ ∃ us, Hx O = some (.lst us) ∧ Paired (NpAt Hx) us (oth nds nd i)) (by repeat' constructor) hil ⟨same_put (same_trans sx sp) hO, _, upd_same, ?_⟩⟩
        have e9 : oth nds nd (i + 1) = oth nds nd i ++ [ei] := by show _ ++ (if i = nd then _ else _) = _; rw [if_neg c, hei]; rfl
        rw [e9]
        exact Paired.snoc (Paired.mapP pu fun _ _ z => NpAt.keep ((Same.tk sp).trans tkO) z) (NpAt.keep ((Same.tk (same_trans sx sp)).trans tkO) nai)
    obtain ⟨s2, us, gO, pu⟩ := zz
    rw [vnl] at pu
    have ul := Paired.length pu
    have ol := oth_len nds nd nds.length
    refine gn_go ?_
    refine kR _ _ ?_
    clear kR
    refine normS [some (.ref l), some (.int (nd : Int)), some (.int b), some (.ref O), none, none, none, none] rfl ?_
    refine cut1 fun Rk kR => ?_
    have go3 : b ≠ 0 → b ≠ (nd : Int) → comesB nds nd b = false → ∀ H3, Same H H3 → Rk [some (.ref l), some (.int (nd : Int)), some (.int b), some (.ref O), none, none, none, none] H3 := fun b0 bnd co H3 s3 => by
      refine kR _ _ ?_
      clear kR
      refine cut1 fun Rk kR => ?_
      have hl3 := s3 _ _ hl
      refine ⟨_, rfl, _, rfl, l, _, _, _, rfl, rfl, SqL.of hl3, atI_nat hx1, p1, _, _, _, rfl, rfl, SqT.of (s3 _ _ hp1), rfl, _, rfl, _, rfl, l, _, _, _, rfl, rfl, SqL.of hl3, atI_nat hx1, p1, _, _, _, rfl, rfl, SqT.of (s3 _ _ hp1), rfl, _, _, rfl, ?_⟩
      refine kR _ _ ?_
      clear kR
      refine normS [some (.ref l), some (.int (nd : Int)), some (.int b), some (.ref O), some (.str x), some u1, none, none] rfl ?_
      refine cut1 fun Rk kR => ?_
      refine ⟨_, rfl, _, rfl, l, _, _, _, rfl, rfl, SqL.of hl3, hat2, p2, _, _, _, rfl, rfl, SqT.of (s3 _ _ hp2), rfl, _, rfl, _, rfl, l, _, _, _, rfl, rfl, SqL.of hl3, hat2, p2, _, _, _, rfl, rfl, SqT.of (s3 _ _ hp2), rfl, _, _, rfl, ?_⟩
      refine kR _ _ ?_
      clear kR
      refine normS [some (.ref l), some (.int (nd : Int)), some (.int b), some (.ref O), some (.str x), some u1, some (.str y), some u2] rfl ?_
      have so1 := so _ (List.mem_of_getElem? he1) x m1 b rfl
      have so2 := so _ (List.mem_of_getElem? he2) y m2 b2 rfl
      refine ⟨_, rfl, _, rfl, rfl, _, rfl, ?_⟩
      by_cases xy : x = y
      · refine iteT' (decide_eq_true (congrArg V.str xy)) (iteT' (by decide) ?_)
        exact ⟨_, rfl, qx (fun z => (key.mp z).2.2.2.1 xy) _ s3⟩
      refine iteF' (decide_eq_false (fun z => xy (by injection z))) ?_
      refine ⟨_, rfl, _, rfl, u1, m1, y, rfl, eu1.keep (Same.tk s3), so1.is, so1.bt, so1.ok, so1.dp, fun H4 s4 => ⟨_, rfl, ?_⟩⟩
      have s34 := same_trans s3 s4
      cases n1 : m1.nm y with
      | true =>
        refine iteT (iteT' (by decide) ?_)
        exact ⟨_, rfl, qx (fun z => by have := (key.mp z).2.2.2.2.1; rw [n1] at this; cases this) _ s34⟩
      | false =>
        refine iteF ?_
        refine ⟨_, rfl, _, rfl, u2, m2, x, rfl, eu2.keep (Same.tk s34), so2.is, so2.bt, so2.ok, so2.dp, fun H5 s5 => ⟨_, rfl, ?_⟩⟩
        have s35 := same_trans s34 s5
        cases n2 : m2.nm x with
        | true =>
          refine iteT ?_
          exact ⟨_, rfl, qx (fun z => by have := (key.mp z).2.2.2.2.2; rw [n2] at this; cases this) _ s35⟩
        | false =>
          refine iteF ?_
          exact q (key.mpr ⟨b0, bnd, co, xy, n1, n2⟩) _ s35
    refine ⟨_, rfl, _, rfl, (by show 2 ≤ sizeLine; decide), fun t0 ht0 => ?_⟩
    have a1 := same_new ht0 (.tup [.int 0, .int (nd : Int)])
    have g1 : (upd H2 t0 (.tup [.int 0, .int (nd : Int)])) t0 = some (.tup ([0, (nd : Int)].map V.int)) := upd_same
    generalize upd H2 t0 (.tup [.int 0, .int (nd : Int)]) = H3 at a1 g1 ⊢
    refine ⟨t0, _, rfl, .inr (SqT.of g1), rfl, flat_ints _, _, rfl, ?_⟩
    show if inV (.int b) ([0, (nd : Int)].map V.int) = true then _ else _
    rw [inV_ints]
    by_cases bb : b ∈ [0, (nd : Int)]
    · refine iteT' (decide_eq_true bb) (iteT' (by decide) ?_)
      refine ⟨_, rfl, qx (fun z => ?_) _ (same_trans s2 a1)⟩
      have k := key.mp z
      rcases List.mem_cons.mp bb with w | w
      · exact k.1 w
      · exact k.2.1 (List.mem_singleton.mp w)
    refine iteF' (decide_eq_false bb) ?_
    have b0 : b ≠ 0 := fun z => bb (List.mem_cons.mpr (.inl z))
    have bnd : b ≠ (nd : Int) := fun z => bb (List.mem_cons.mpr (.inr (List.mem_singleton.mpr z)))
    have gO3 := a1 _ _ gO
    refine ⟨_, rfl, O, rfl, ⟨_, SqL.of gO3⟩, fun D hD => ?_⟩
    refine comp_list (xs := us) (fun (i : Nat) (Hx : Hp) => Same H3 Hx ∧ Hx D = some (.lst ((((oth nds nd nds.length).take i).map fun e => decide (b ∈ e.leads)).map V.bl))) ⟨same_new hD _, by rw [List.take_zero]; exact upd_same⟩ (fun i Hx _ zz => SqL.of (zz.1 _ _ gO3)) (fun i x0 Hx hx zz => ?_) (fun H4 zz => ?_)
    · obtain ⟨sx, gD⟩ := zz
      have hil := (List.getElem?_eq_some_iff.mp hx).1
      obtain ⟨ei, hei, nai⟩ := Paired.get pu hx
      refine gn_go ?_
      refine turn0 (A := fun H5 => mApp _ D _ H5 _) ?_
      refine ⟨_, rfl, _, rfl, x0, ei, rfl, NpAt.keep (Same.tk (same_trans a1 sx)) nai, fun L H5 s5 gL => ?_⟩
      refine ⟨L, _, rfl, .inl (SqL.of gL), rfl, flat_ints _, ?_⟩
      rw [inV_ints]
      refine ⟨_, s5 _ _ gD, small1000 (by rw [List.length_map, List.length_map, List.length_take]; omega), comp_end (Pv := fun (i : Nat) (Hx : Hp) => Same H3 Hx ∧ Hx D = some (.lst ((((oth nds nd nds.length).take i).map fun e => decide (b ∈ e.leads)).map V.bl))) (by repeat' constructor) hil ⟨same_put (same_trans sx s5) hD, ?_⟩⟩
      rw [upd_same, List.take_add_one, hei, List.map_append, List.map_append]
      rfl
    obtain ⟨s4, gD⟩ := zz
    rw [ul, List.take_length] at gD
    refine ⟨D, (oth nds nd nds.length).map fun e => decide (b ∈ e.leads), rfl, SqL.of gD, _, rfl, ?_⟩
    have ec : ((oth nds nd nds.length).map fun e => decide (b ∈ e.leads)).any id = comesB nds nd b := by
      unfold comesB
      rw [List.any_map]
      rfl
    rw [ec]
    have s24 := same_trans s2 (same_trans a1 s4)
    cases co : comesB nds nd b with
    | true =>
      refine iteT ?_
      exact ⟨_, rfl, qx (fun z => by have := (key.mp z).2.2.1; rw [co] at this; cases this) _ s24⟩
    | false => exact iteF (go3 b0 bnd co _ s24)
theorem has_reE {C T : Addr} (s : Src K mg "refuse_exchange" sReE) (m_enumerate : mg "enumerate" = none) (m_any : mg "any" = none) (cN : Xc K mg "NoChange" C (.ref T :: vE)) (LE0 : Has P w K mg base "leads_of" ["node"] 1 spLeads) (NB : Has P w K mg base "names_box" ["sum_told", "name"] 41 (spNmB 40)) : HasX P w K mg base "refuse_exchange" ["nodes", "node"] 42 (spReE C) :=
  let ⟨f, fd, F, m⟩ := s
  ⟨f, fd, ok_reE F m_enumerate m_any cN LE0 NB, F.kp, bnd2 F fun _ _ _ _ _ _ _ _ => rfl, m⟩
abbrev sExP : Stmt := top 33
theorem scRNX : FnScope ["program", "numbers", "number"] ["program", "numbers"] (defScope sRNN) := ⟨rfl, rfl, rfl, by decide +kernel, rfl, by decide +kernel, by decide +kernel⟩
theorem gRNX_NoNode : GLB sRNN "NoNode" := by decide +kernel
theorem gRNX_len : GLB sRNN "len" := by decide +kernel
def spRNX (C : Addr) : Sp := fun vs H Q X => ∃ (p l B I N : Addr) (vn : List V) (hs : List Int), vs = [.ref p, .ref l] ∧ H p = some (.tup [.ref B, .ref I, .ref N]) ∧ H N = some (.lst vn) ∧ H l = some (.lst (hs.map V.int)) ∧ (∀ h ∈ hs, h.natAbs.log2 < 1920) ∧ ((∀ h ∈ hs, 0 ≤ h ∧ h < (vn.length : Int)) → Q .non H) ∧ (¬ (∀ h ∈ hs, 0 ≤ h ∧ h < (vn.length : Int)) → X (.ref C) none H)
theorem ok_rNX {C T : Addr} {f : Addr} {fd : FuncData} (F : Fun K "refuse_no_nodes" "refuse_no_nodes" sRNN f fd) (m_len : mg "len" = none) (cN : Xc K mg "NoNode" C (.ref T :: vE)) : FnOk P w K mg base (CX1 P w base) 1 f fd ["program", "numbers"] (spRNX C) := by
  refine F.okX scRNX (fun vs H Q E h => ?_) (fun cdv A outer s H vs Q E hr h => ?_)
  · obtain ⟨p, l, B, I, N, vn, hs, rfl, _⟩ := h
    rfl
  · obtain ⟨p, l, B, I, N, vn, hs, rfl, hp, hN, hl, lg, q, qx⟩ := h
    refine goL ⟨_, (L3.one (L3.for_ (L3.iL (L3.v 1)) (L3.gn 2 scRNX.nd) (L3.one (L3.ifs (L3.tw (L3.or2 (L3.cmp L3.o_lt (L3.v 2) L3.int) (L3.or1 (L3.cmp L3.o_ge (L3.v 2) (L3.callB L3.c_len gRNX_len m_len PySem.boot_len (L3.k (L3.ix L3.ixT (L3.v 0) L3.int) L3.n)))))) (L3.one (L3.raise_ raisesX cN (by rfl) gRNX_NoNode (L3.k (L3.fstr (L3.fv (L3.v 2) (L3.fs L3.fn))) L3.n ns_joined))) L3.nil)) (hp := PySem.PassesOwn.leaving))), ?_⟩
    refine ⟨_, rfl, l, rfl, ⟨_, SqL.of hl⟩, ?_⟩
    refine for_list (xs := hs.map V.int) (fun i σ Hx => (∃ o, σ = [some (.ref p), some (.ref l), o]) ∧ Hx = H ∧ ∀ h ∈ hs.take i, 0 ≤ h ∧ h < (vn.length : Int)) ⟨⟨_, rfl⟩, rfl, (fun h hh => by rw [List.take_zero] at hh; exact nomatch hh)⟩ (fun i σ Hx _ z => by rw [z.2.1]; exact SqL.of hl) (fun i x0 σ Hx hx z => ?_) (fun σ Hx z => ?_)
    · obtain ⟨⟨o, rfl⟩, rfl, al⟩ := z
      obtain ⟨h0, hx0, rfl⟩ := map_get hx
      have hm := List.mem_of_getElem? hx0
      refine gn_go ?_
      refine normS [some (.ref p), some (.ref l), some (.int h0)] rfl ?_
      refine ⟨_, rfl, _, _, rfl, rfl, _, rfl, ?_⟩
      by_cases c : h0 < 0
      · refine iteT' (decide_eq_true c) (iteT' (by decide) ?_)
        exact ⟨_, rfl, .inl ⟨h0, rfl, lg h0 hm⟩, fun x => ⟨_, rfl, qx fun z => absurd (z h0 hm).1 (by omega)⟩⟩
      refine iteF' (decide_eq_false c) ?_
      refine ⟨_, rfl, _, rfl, p, _, _, _, rfl, rfl, SqT.of hp, rfl, N, _, rfl, .inl (SqL.of hN), _, _, rfl, rfl, _, rfl, ?_⟩
      by_cases c2 : h0 ≥ (vn.length : Int)
      · refine iteT' (decide_eq_true c2) ?_
        exact ⟨_, rfl, .inl ⟨h0, rfl, lg h0 hm⟩, fun x => ⟨_, rfl, qx fun z => absurd (z h0 hm).2 (by omega)⟩⟩
      refine iteF' (decide_eq_false c2) ⟨⟨_, rfl⟩, rfl, fun h hh => ?_⟩
      rw [List.take_add_one, hx0] at hh
      rcases List.mem_append.mp hh with w | w
      · exact al h w
      · have e : h = h0 := List.mem_singleton.mp w
        subst e
        exact ⟨by omega, by omega⟩
    · obtain ⟨_, rfl, al⟩ := z
      rw [List.length_map, List.take_length] at al
      exact q al
theorem has_rNX {C T : Addr} (s : Src K mg "refuse_no_nodes" sRNN) (m_len : mg "len" = none) (cN : Xc K mg "NoNode" C (.ref T :: vE)) : HasX P w K mg base "refuse_no_nodes" ["program", "numbers"] 1 (spRNX C) :=
  let ⟨f, fd, F, m⟩ := s
  ⟨f, fd, ok_rNX F m_len cN, F.kp, bnd2 F fun _ _ _ _ _ _ _ _ => rfl, m⟩
theorem okIn_mono {P Q : Str → Str → Prop} (k : ∀ t x, P t x → Q t x) {e : E} (h : e.okIn P) : e.okIn Q := by
  induction e with
  | num _ => exact h
  | box _ _ => exact k _ _ h
  | yes => exact h
  | nt a ih => exact ih h
  | two _ a b ia ib => exact ⟨ia h.1, ib h.2⟩
structure PutOk (ns : List Str) (x : Str) (e : E) : Prop where
  xin : x ∈ ns
  is : e.isS
  ok : e.okIn (bxN ns)
  dp : e.dep < 30
theorem PutOk.sum {ns : List Str} {x : Str} {e : E} (h : PutOk ns x e) : SumOk e := by
  have o2 : e.okIn (fun t _ => t = "box") := okIn_mono (fun t x z => z.1) h.ok
  refine ⟨h.is, fun t y z => ?_, o2, by have := h.dp; omega⟩
  subst z
  exact o2
def spExP (cNN cNC : Addr) : Sp := fun vs H Q X => ∃ (p B I N : Addr) (vb vn : List V) (bs : List (Str × Int)) (ins : List Str) (nds : List Np) (nd : Int), vs = [.ref p, .int nd] ∧ nd.natAbs.log2 < 1920 ∧ H p = some (.tup [.ref B, .ref I, .ref N]) ∧ H B = some (.lst vb) ∧ H I = some (.lst (ins.map V.str)) ∧ H N = some (.lst vn) ∧ Paired (BoxAt H) vb bs ∧ Paired (NpAt H) vn nds ∧ bs.length ≤ 4 ∧ (∀ b ∈ bs, 1 ≤ b.2 ∧ b.2 ≤ 16) ∧ nds.length ≤ 900 ∧ (∀ e ∈ nds, ∀ b ∈ e.leads, 0 ≤ b ∧ b < (nds.length : Int)) ∧ (∀ e ∈ nds, ∀ x s n, e = .put x s n → PutOk (bs.map (·.1)) x s) ∧
  (¬ (0 ≤ nd ∧ nd < (nds.length : Int)) → ∀ H', Same H H' → X (.ref cNN) none H') ∧ (0 ≤ nd → nd < (nds.length : Int) → ¬ ExOk nds nd.toNat → ∀ H', Same H H' → X (.ref cNC) none H') ∧ (0 ≤ nd → nd < (nds.length : Int) → ExOk nds nd.toNat → ∀ (v : V) (H' : Hp), Same H H' → Q v H')
theorem scExP : FnScope ["program", "node", "nodes", "same", "behind", "first", "second", "told", "paper"] ["program", "node"] (defScope sExP) := ⟨rfl, rfl, rfl, by decide +kernel, rfl, by decide +kernel, by decide +kernel⟩
theorem gExP_all_same : GLB sExP "all_same" := by decide +kernel
theorem gExP_enumerate : GLB sExP "enumerate" := by decide +kernel
theorem gExP_leads_of : GLB sExP "leads_of" := by decide +kernel
theorem gExP_led_anew : GLB sExP "led_anew" := by decide +kernel
theorem gExP_len : GLB sExP "len" := by decide +kernel
theorem gExP_list : GLB sExP "list" := by decide +kernel
theorem gExP_range : GLB sExP "range" := by decide +kernel
theorem gExP_refuse_exchange : GLB sExP "refuse_exchange" := by decide +kernel
theorem gExP_refuse_no_nodes : GLB sExP "refuse_no_nodes" := by decide +kernel
theorem gExP_with_nodes : GLB sExP "with_nodes" := by decide +kernel
theorem ok_exP {cNN cNC tO : Addr} {f : Addr} {fd : FuncData} (F : Fun K "exchanged_puts" "exchanged_puts" sExP f fd) (m_len : mg "len" = none) (m_list : mg "list" = none) (m_range : mg "range" = none) (m_enumerate : mg "enumerate" = none) (RN0 : HasX P w K mg base "refuse_no_nodes" ["program", "numbers"] 1 (spRNX cNN)) (RE : HasX P w K mg base "refuse_exchange" ["nodes", "node"] 42 (spReE cNC)) (AS0 : Has P w K mg base "all_same" ["program"] 10 (spAllS K)) (LN0 : Has P w K mg base "led_anew" ["node", "leads"] 1 spLedA) (LE0 : Has P w K mg base "leads_of" ["node"] 1 spLeads) (BP0 : Has P w K mg base "between_puts" ["program", "first", "second"] 35 spBtP) (LV0 : Has P w K mg base "level_entry" ["program", "place", "new_place", "condition"] 1 (spLevE tO)) (WN0 : Has P w K mg base "with_nodes" ["program", "nodes"] 1 spWithN) : FnOk P w K mg base (CX1 P w base) 43 f fd ["program", "node"] (spExP cNN cNC) := by
  refine F.okX scExP (fun vs H Q E h => ?_) (fun cdv A outer s H vs Q E hr h => ?_)
  · obtain ⟨p, B, I, N, vb, vn, bs, ins, nds, ndi, rfl, _⟩ := h
    rfl
  · obtain ⟨p, B, I, N, vb, vn, bs, ins, nds, ndi, rfl, lg, hp, hB, hI, hN, pb, pn, b4, sz, n9, ld, po, qn, qc, qo⟩ := h
    have RN := RN0.mono (show 1 ≤ 42 by omega)
    have AS := AS0.mono (show 10 ≤ 42 by omega)
    have LN := LN0.mono (show 1 ≤ 42 by omega)
    have LE := LE0.mono (show 1 ≤ 42 by omega)
    have BP := BP0.mono (show 35 ≤ 42 by omega)
    have LV := LV0.mono (show 1 ≤ 42 by omega)
    have WN := WN0.mono (show 1 ≤ 42 by omega)
    have vnl := Paired.length pn
    refine goL ⟨_, (L3.cons (L3.ex (L3.ownX passX RN hr gExP_refuse_no_nodes (L3.k (L3.v 0) (L3.k (L3.lst (L3.k (L3.v 1) L3.n)) L3.n))))
      (L3.cons (L3.ex (L3.ownX passX RE hr gExP_refuse_exchange (L3.k (L3.ix L3.ixT (L3.v 0) L3.int) (L3.k (L3.v 1) L3.n))))
      (L3.cons (L3.asg (L3.tup (L3.k (L3.callT L3.c_list gExP_list m_list (by decide +kernel) (L3.k (L3.ix L3.ixT (L3.v 0) L3.int) L3.n)) (L3.k (L3.own AS hr gExP_all_same (L3.k (L3.v 0) L3.n)) L3.n))) (L3.gtup 2 (L3.gsk (L3.gn 2 scExP.nd) (L3.gsk (L3.gn 3 scExP.nd) L3.gsn))))
      (L3.cons (L3.set 4 scExP.nd (L3.ix L3.ixT (L3.ix L3.ixL (L3.v 2) (L3.v 1)) L3.int))
      (L3.cons (L3.asg (L3.tup (L3.k (L3.ix L3.ixL (L3.v 2) (L3.v 1)) (L3.k (L3.ix L3.ixL (L3.v 2) (L3.v 4)) L3.n))) (L3.gtup 2 (L3.gsk (L3.gn 5 scExP.nd) (L3.gsk (L3.gn 6 scExP.nd) L3.gsn))))
      (L3.cons (L3.asg (L3.own LN hr gExP_led_anew (L3.k (L3.v 6) (L3.k (L3.lst (L3.k (L3.v 4) L3.n)) L3.n))) (L3.gsetN (L3.v 2) (L3.v 1)))
      (L3.cons (L3.asg (L3.own LN hr gExP_led_anew (L3.k (L3.v 5) (L3.k (L3.own LE hr gExP_leads_of (L3.k (L3.v 6) L3.n)) L3.n))) (L3.gsetN (L3.v 2) (L3.v 4)))
      (L3.cons (L3.slc (i := 7) [none, some 3, some 4, some 0, some 5, some 6] ["place", "same", "behind", "program", "first", "second"] (show CompScope _ (defScope sExP) from ⟨rfl, by decide +kernel, by decide +kernel, by decide +kernel⟩) (by rfl) (L3.iR gExP_range m_range (L3.k (L3.callB L3.c_len gExP_len m_len PySem.boot_len (L3.k (L3.v 2) L3.n)) L3.n)) (fun _ _ _ _ _ => ⟨(L3.gn 0 (show (["place", "same", "behind", "program", "first", "second"] : List Str).Nodup from by decide +kernel)), L3.if0, (L3.ifE (L3.cmp L3.o_eq (L3.v 0) (L3.v 2)) (L3.own BP hr (by rfl) (L3.k (L3.v 3) (L3.k (L3.v 4) (L3.k (L3.v 5) L3.n)))) (L3.v 1))⟩) scExP.nd)
      (L3.cons (L3.slc (i := 8) [none, none, some 0] ["place", "condition", "program"] (show CompScope _ (defScope sExP) from ⟨rfl, by decide +kernel, by decide +kernel, by decide +kernel⟩) (by rfl) (L3.iE gExP_enumerate m_enumerate (L3.k (L3.v 7) L3.n)) (fun _ _ _ _ _ => ⟨(L3.gtup 2 (L3.gsk (L3.gn 0 (show (["place", "condition", "program"] : List Str).Nodup from by decide +kernel)) (L3.gsk (L3.gn 1 (show (["place", "condition", "program"] : List Str).Nodup from by decide +kernel)) L3.gsn))), L3.if0, (L3.own LV hr (by rfl) (L3.k (L3.v 2) (L3.k (L3.v 0) (L3.k (L3.v 0) (L3.k (L3.v 1) L3.n)))))⟩) scExP.nd)
      (L3.one (L3.ret (L3.tup (L3.k (L3.own WN hr gExP_with_nodes (L3.k (L3.v 0) (L3.k (L3.v 2) L3.n))) (L3.k (L3.v 8) L3.n)))))))))))))), ?_⟩
    refine cut1 fun Rk kR => ?_
    refine ⟨_, rfl, _, rfl, (by show 1 ≤ sizeLine; decide), fun l0 hl0 => ?_⟩
    have s1 := same_new hl0 (.lst [.int ndi])
    have g1 : (upd H l0 (.lst [.int ndi])) l0 = some (.lst ([ndi].map V.int)) := upd_same
    generalize upd H l0 (.lst [.int ndi]) = H1 at s1 g1 ⊢
    refine ⟨p, l0, B, I, N, vn, [ndi], rfl, s1 _ _ hp, s1 _ _ hN, g1, (fun h hh => by rw [List.mem_singleton.mp hh]; exact lg), fun al => ?_, fun no => qn (fun z => no fun h hh => by rw [List.mem_singleton.mp hh, vnl]; exact z) _ s1⟩
    have nb := al ndi (List.mem_singleton.mpr rfl)
    rw [vnl] at nb
    obtain ⟨nd, rfl⟩ : ∃ nd : Nat, ndi = (nd : Int) := ⟨ndi.toNat, (Int.toNat_of_nonneg nb.1).symm⟩
    have ndl : nd < nds.length := by omega
    rw [Int.toNat_natCast] at qc qo
    refine kR _ _ ?_
    clear kR
    refine cut1 fun Rk kR => ?_
    refine ⟨_, rfl, p, _, _, _, rfl, rfl, SqT.of (s1 _ _ hp), rfl, _, rfl, N, vn, nds, nd, rfl, s1 _ _ hN, Paired.mapP pn fun _ _ z => NpAt.keep (Same.tk s1) z, ld, fun e he x s n z => (po e he x s n z).sum, ndl, n9, fun ex H2 s2 => ?_, fun no H2 s2 => qc nb.1 nb.2 no _ (same_trans s1 s2)⟩
    have qo := qo nb.1 nb.2 ex
    refine kR _ _ ?_
    clear kR
    cases ex with
    | @mk x y e e2 b b2 h1 h2 b0 bn co xy n1 n2 =>
    have s02 := same_trans s1 s2
    have p1o := po _ (List.mem_of_getElem? h1) x e b rfl
    have p2o := po _ (List.mem_of_getElem? h2) y e2 b2 rfl
    have bl := ld _ (List.mem_of_getElem? h1) b (List.mem_singleton.mpr rfl)
    have bln : b.toNat < nds.length := by omega
    have ebn : ((b.toNat : Nat) : Int) = b := Int.toNat_of_nonneg bl.1
    obtain ⟨v1, e1', hv1, he1, na1⟩ := node_at pn ndl
    cases h1.symm.trans he1
    obtain ⟨v2, e2', hv2, he2, na2⟩ := node_at pn bln
    cases h2.symm.trans he2
    have hat2 : atI vn b = some v2 := by
      have := atI_nat hv2
      rw [ebn] at this
      exact this
    refine cut1 fun Rk kR => ?_
    refine ⟨_, rfl, p, _, _, _, rfl, rfl, SqT.of (s02 _ _ hp), rfl, N, _, rfl, .inl (SqL.of (s02 _ _ hN)), fun M hM => ?_⟩
    have s3 := same_new hM (.lst vn)
    have g3 : (upd H2 M (.lst vn)) M = some (.lst vn) := upd_same
    generalize upd H2 M (.lst vn) = H3 at s3 g3 ⊢
    have s03 := same_trans s02 s3
    refine ⟨_, rfl, p, B, I, N, vb, bs, rfl, s03 _ _ hp, s03 _ _ hB, Paired.mapP pb fun _ _ z => Tp.keep (Same.tk s03) z, b4, fun sm se H4 s4 _ _ => ?_⟩
    refine ⟨(by show 2 ≤ sizeLine; decide), fun t0 ht0 => ?_⟩
    have s5 := same_new ht0 (.tup [.ref M, sm])
    have g5 : (upd H4 t0 (.tup [.ref M, sm])) t0 = some (.tup [.ref M, sm]) := upd_same
    generalize upd H4 t0 (.tup [.ref M, sm]) = H5 at s5 g5 ⊢
    refine ⟨t0, _, rfl, SqT.of g5, rfl, _, _, rfl, _, _, rfl, rfl, ?_⟩
    refine kR _ _ ?_
    clear kR
    refine normS [some (.ref p), some (.int (nd : Int)), some (.ref M), some sm, none, none, none, none, none] rfl ?_
    refine cut1 fun Rk kR => ?_
    have s35 := same_trans s4 s5
    have s05 := same_trans s03 s35
    have gM5 := s35 _ _ g3
    have na15 := NpAt.keep (Same.tk s05) na1
    have na25 := NpAt.keep (Same.tk s05) na2
    have nM : H M = none := none_of_same s02 hM
    obtain ⟨u1, ⟨p1, rfl, hp1⟩, eu1⟩ := id na15
    refine ⟨_, rfl, _, rfl, M, _, _, _, rfl, rfl, SqL.of gM5, atI_nat hv1, p1, _, _, _, rfl, rfl, SqT.of hp1, rfl, ?_⟩
    refine gn_go ?_
    refine kR _ _ ?_
    clear kR
    refine normS [some (.ref p), some (.int (nd : Int)), some (.ref M), some sm, some (.int b), none, none, none, none] rfl ?_
    refine cut1 fun Rk kR => ?_
    refine ⟨_, rfl, _, rfl, M, _, _, _, rfl, rfl, SqL.of gM5, atI_nat hv1, _, rfl, _, rfl, M, _, _, _, rfl, rfl, SqL.of gM5, hat2, (by show 2 ≤ sizeLine; decide), fun t1 ht1 => ?_⟩
    have s6 := same_new ht1 (.tup [.ref p1, v2])
    have g6 : (upd H5 t1 (.tup [.ref p1, v2])) t1 = some (.tup [.ref p1, v2]) := upd_same
    generalize upd H5 t1 (.tup [.ref p1, v2]) = H6 at s6 g6 ⊢
    refine ⟨t1, _, rfl, SqT.of g6, rfl, _, _, rfl, _, _, rfl, rfl, ?_⟩
    refine kR _ _ ?_
    clear kR
    refine normS [some (.ref p), some (.int (nd : Int)), some (.ref M), some sm, some (.int b), some (.ref p1), some v2, none, none] rfl ?_
    refine cut1 fun Rk kR => ?_
    have s06 := same_trans s05 s6
    have gM6 := s6 _ _ gM5
    refine ⟨_, rfl, _, rfl, (by show 1 ≤ sizeLine; decide), fun l1 hl1 => ?_⟩
    have s7 := same_new hl1 (.lst [.int b])
    have g7 : (upd H6 l1 (.lst [.int b])) l1 = some (.lst ([b].map V.int)) := upd_same
    generalize upd H6 l1 (.lst [.int b]) = H65 at s7 g7 ⊢
    refine ⟨v2, l1, _, [b], rfl, NpAt.keep (Same.tk (same_trans s6 s7)) na25, g7, rfl, fun w1 H66 s8 _ => ?_⟩
    have s68 := same_trans s7 s8
    have gM66 := s68 _ _ gM6
    refine ⟨_, rfl, _, rfl, M, _, _, nd, rfl, rfl, gM66, ?_, ?_⟩
    · show ixN vn.length (nd : Int) = some nd
      unfold ixN
      rw [if_pos (by omega), if_pos (by omega), Int.toNat_natCast]
    have t1 : Same H (upd H66 M (.lst (vn.set nd w1))) := same_put (same_trans s06 s68) nM
    have h1M : (upd H66 M (.lst (vn.set nd w1))) M = some (.lst (vn.set nd w1)) := upd_same
    generalize upd H66 M (.lst (vn.set nd w1)) = H7 at t1 h1M ⊢
    refine kR _ _ ?_
    clear kR
    refine cut1 fun Rk kR => ?_
    have na17 := NpAt.keep (Same.tk t1) na1
    have na27 := NpAt.keep (Same.tk t1) na2
    refine ⟨_, rfl, _, rfl, v2, _, rfl, na27, fun l2 H75 s9 gl2 => ?_⟩
    refine ⟨.ref p1, l2, _, [b2], rfl, NpAt.keep (Same.tk s9) na17, gl2, rfl, fun w2 H76 s10 _ => ?_⟩
    have s910 := same_trans s9 s10
    refine ⟨_, rfl, _, rfl, M, _, _, b.toNat, rfl, rfl, s910 _ _ h1M, ?_, ?_⟩
    · show ixN (vn.set nd w1).length b = some b.toNat
      unfold ixN
      rw [if_pos bl.1, if_pos (by rw [List.length_set]; omega)]
    have t2 : Same H (upd H76 M (.lst ((vn.set nd w1).set b.toNat w2))) := same_put (same_trans t1 s910) nM
    have h2M : (upd H76 M (.lst ((vn.set nd w1).set b.toNat w2))) M = some (.lst ((vn.set nd w1).set b.toNat w2)) := upd_same
    have hlen : ((vn.set nd w1).set b.toNat w2).length = vn.length := by rw [List.length_set, List.length_set]
    generalize (vn.set nd w1).set b.toNat w2 = vn2 at t2 h2M hlen ⊢
    generalize upd H76 M (.lst vn2) = H8 at t2 h2M ⊢
    refine kR _ _ ?_
    clear kR
    refine cut1 fun Rk kR => ?_
    have bt : ∀ Hx, Same H8 Hx → PutAt Hx (.ref p1) (bs.map (·.1)) x e b ∧ PutAt Hx v2 (bs.map (·.1)) y e2 b2 := fun Hx sx => ⟨⟨NpAt.keep (Same.tk (same_trans t2 sx)) na1, p1o.xin, p1o.is, p1o.ok, p1o.dp⟩, ⟨NpAt.keep (Same.tk (same_trans t2 sx)) na2, p2o.xin, p2o.is, p2o.ok, p2o.dp⟩⟩
    refine ⟨_, rfl, M, _, rfl, .inl (SqL.of h2M), (vn2.length : Int), rfl, by omega, by omega, fun D hD => ?_⟩
    rw [Int.toNat_natCast]
    refine comp_range (lo := 0) (n := vn2.length) (fun (i : Nat) (Hx : Hp) => Same H8 Hx ∧ ∃ ws, Hx D = some (.lst ws) ∧ ws.length = i) ⟨same_new hD _, [], upd_same, rfl⟩ (fun i Hx hi zz => ?_) (fun H9 zz => ?_)
    · obtain ⟨sx, ws, gD, wl⟩ := zz
      have t2x := same_trans t2 sx
      rw [Int.zero_add]
      refine gn_go ?_
      refine turn0 (A := fun H5 => mApp _ D _ H5 _) ?_
      refine ⟨_, rfl, _, rfl, rfl, _, rfl, ?_⟩
      refine ite2 (fun _ => ?_) (fun _ => ?_)
      · obtain ⟨pa1, pa2⟩ := bt Hx sx
        refine ⟨_, rfl, _, rfl, _, rfl, p, B, I, N, vb, bs, .ref p1, v2, x, y, e, e2, b, b2, rfl, t2x _ _ hp, t2x _ _ hB, Paired.mapP pb fun _ _ z => Tp.keep (Same.tk t2x) z, b4, sz, pa1, pa2, fun v' Hy sy => ?_⟩
        exact ⟨_, sy _ _ gD, small1000 (by omega), comp_end (Pv := fun (i : Nat) (Hx : Hp) => Same H8 Hx ∧ ∃ ws, Hx D = some (.lst ws) ∧ ws.length = i) (by repeat' constructor) hi ⟨same_put (same_trans sx sy) hD, _, upd_same, by rw [List.length_append, wl]; rfl⟩⟩
      · exact ⟨_, rfl, _, gD, small1000 (by omega), comp_end (Pv := fun (i : Nat) (Hx : Hp) => Same H8 Hx ∧ ∃ ws, Hx D = some (.lst ws) ∧ ws.length = i) (by repeat' constructor) hi ⟨same_put sx hD, _, upd_same, by rw [List.length_append, wl]; rfl⟩⟩
    obtain ⟨s9', ws, gD, wl⟩ := zz
    refine gn_go ?_
    refine kR _ _ ?_
    clear kR
    refine normS [some (.ref p), some (.int (nd : Int)), some (.ref M), some sm, some (.int b), some (.ref p1), some v2, some (.ref D), none] rfl ?_
    refine cut1 fun Rk kR => ?_
    have t9 := same_trans t2 s9'
    refine ⟨_, rfl, D, rfl, ⟨_, SqL.of gD⟩, fun D2 hD2 => ?_⟩
    refine comp_enum (xs := ws) (fun (i : Nat) (Hx : Hp) => Same H9 Hx ∧ ∃ ws2, Hx D2 = some (.lst ws2) ∧ ws2.length = i) ⟨same_new hD2 _, [], upd_same, rfl⟩ (fun i Hx _ zz => SqL.of (zz.1 _ _ gD)) (fun i x0 pp Hx hx zz hpp => ?_) (fun HA zz => ?_)
    · obtain ⟨sx, ws2, gD2, wl2⟩ := zz
      have hil := (List.getElem?_eq_some_iff.mp hx).1
      have sp := same_new hpp (.tup [.int (i : Int), x0])
      have gp : (upd Hx pp (.tup [.int (i : Int), x0])) pp = some (.tup [.int (i : Int), x0]) := upd_same
      generalize upd Hx pp (.tup [.int (i : Int), x0]) = Hy at sp gp ⊢
      have t9y := same_trans t9 (same_trans sx sp)
      obtain ⟨xi, ei, hxi, hei, nai⟩ := node_at pn (show i < nds.length by omega)
      refine ⟨pp, _, rfl, SqT.of gp, rfl, _, _, rfl, _, _, rfl, rfl, ?_⟩
      refine turn0 (A := fun H5 => mApp _ D2 _ H5 _) ?_
      refine ⟨_, rfl, _, rfl, _, rfl, _, rfl, p, B, I, N, vn, ei, i, (i : Int), x0, xi, rfl, t9y _ _ hp, t9y _ _ hN, hxi, NpAt.keep (Same.tk t9y) nai, fun w Hz sz2 _ => ?_⟩
      exact ⟨_, sz2 _ _ (sp _ _ gD2), small1000 (by omega), comp_end (Pv := fun (i : Nat) (Hx : Hp) => Same H9 Hx ∧ ∃ ws2, Hx D2 = some (.lst ws2) ∧ ws2.length = i) (by repeat' constructor) hil ⟨same_put (same_trans sx (same_trans sp sz2)) hD2, _, upd_same, by rw [List.length_append, wl2]; rfl⟩⟩
    obtain ⟨sA, ws2, gD2, wl2⟩ := zz
    refine gn_go ?_
    refine kR _ _ ?_
    clear kR
    refine normS [some (.ref p), some (.int (nd : Int)), some (.ref M), some sm, some (.int b), some (.ref p1), some v2, some (.ref D), some (.ref D2)] rfl ?_
    have tA := same_trans t9 sA
    refine ⟨_, rfl, _, rfl, p, M, B, I, N, vb, _, rfl, tA _ _ hp, tA _ _ hB, tA _ _ hI, fun p' B' I' HB sB _ _ _ _ _ _ => ?_⟩
    refine ⟨_, rfl, (by show 2 ≤ sizeLine; decide), fun q0 hq0 => ?_⟩
    exact qo _ _ (same_trans tA (same_add sB hq0))
theorem has_exP {cNN cNC tO : Addr} (s : Src K mg "exchanged_puts" sExP) (m_len : mg "len" = none) (m_list : mg "list" = none) (m_range : mg "range" = none) (m_enumerate : mg "enumerate" = none) (RN0 : HasX P w K mg base "refuse_no_nodes" ["program", "numbers"] 1 (spRNX cNN)) (RE : HasX P w K mg base "refuse_exchange" ["nodes", "node"] 42 (spReE cNC)) (AS0 : Has P w K mg base "all_same" ["program"] 10 (spAllS K)) (LN0 : Has P w K mg base "led_anew" ["node", "leads"] 1 spLedA) (LE0 : Has P w K mg base "leads_of" ["node"] 1 spLeads) (BP0 : Has P w K mg base "between_puts" ["program", "first", "second"] 35 spBtP) (LV0 : Has P w K mg base "level_entry" ["program", "place", "new_place", "condition"] 1 (spLevE tO)) (WN0 : Has P w K mg base "with_nodes" ["program", "nodes"] 1 spWithN) : HasX P w K mg base "exchanged_puts" ["program", "node"] 43 (spExP cNN cNC) :=
  let ⟨f, fd, F, m⟩ := s
  ⟨f, fd, ok_exP F m_len m_list m_range m_enumerate RN0 RE AS0 LN0 LE0 BP0 LV0 WN0, F.kp, bnd2 F fun _ _ _ _ _ _ _ _ => rfl, m⟩
abbrev sPla : Stmt := top 49
theorem Paired.setP {α β : Type} {R : α → β → Prop} {x : α} {y : β} (h : R x y) : ∀ {xs : List α} {ys : List β} (j : Nat), Paired R xs ys → Paired R (xs.set j x) (ys.set j y)
  | _, _, _, .nil => .nil
  | _, _, 0, .cons _ t => .cons h t
  | _, _, j + 1, .cons a t => .cons a (Paired.setP h j t)
theorem ixN_of {n : Nat} {k : Int} (h0 : 0 ≤ k) (h1 : k < (n : Int)) : ixN n k = some k.toNat := by unfold ixN; rw [if_pos h0, if_pos h1]
theorem er_of {l : List Str} {k : Nat} {x : Str} (nd : l.Nodup) (h : l[k]? = some x) : x ∉ l.eraseIdx k ∧ (l.eraseIdx k).Nodup ∧ (∀ y ∈ l.eraseIdx k, y ∈ l) ∧ (l.eraseIdx k).length + 1 = l.length := by
  have hk := (List.getElem?_eq_some_iff.mp h).1
  refine ⟨fun z => ?_, List.Nodup.sublist (List.eraseIdx_sublist l k) nd, fun y hy => List.mem_of_mem_eraseIdx hy, by rw [List.length_eraseIdx, if_pos hk]; omega⟩
  obtain ⟨i, hi, e⟩ := List.mem_eraseIdx_iff_getElem?.mp z
  obtain ⟨h1, e1⟩ := List.getElem?_eq_some_iff.mp e
  obtain ⟨h2, e2⟩ := List.getElem?_eq_some_iff.mp h
  have pw := List.pairwise_iff_getElem.mp nd
  rcases Nat.lt_trichotomy i k with w | w | w
  · exact pw i k h1 h2 w (e1.trans e2.symm)
  · exact hi w
  · exact pw k i h2 h1 w (e2.trans e1.symm)
theorem er_map {α β : Type} (f : α → β) : ∀ (l : List α) (k : Nat), (l.map f).eraseIdx k = (l.eraseIdx k).map f
  | [], _ => rfl
  | _ :: _, 0 => rfl
  | a :: l, k + 1 => congrArg (f a :: ·) (er_map f l k)
theorem mod_sh {s n : Int} (h0 : 0 ≤ s) (h1 : s < 2 * n) : s % n = s ∨ s % n = s - n := by
  by_cases c : s < n
  · exact .inl (Int.emod_eq_of_lt h0 c)
  · refine .inr ?_
    have e : s = (s - n) + n * 1 := by omega
    rw [e, Int.add_mul_emod_self_left, Int.emod_eq_of_lt (by omega) (by omega)]
    omega
theorem nm_no {ns : List Str} {y : Str} (hy : y ∉ ns) : ∀ {e : E}, e.okIn (bxN ns) → e.nm y = false := fun {e} h => by
  induction e with
  | num _ => rfl
  | box t x =>
    show (decide (t = "box") && decide (x = y)) = false
    rw [decide_eq_false (fun (z : x = y) => hy (z ▸ h.2)), Bool.and_false]
  | yes => rfl
  | nt a ih => rfl
  | two _ a b ia ib => show (a.nm y || b.nm y) = false; rw [ia h.1, ib h.2]; rfl
theorem oth_mem {nds : List Np} {nd : Nat} {e : Np} : ∀ {i : Nat}, e ∈ oth nds nd i → ∃ j, j ≠ nd ∧ nds[j]? = some e
  | 0, h => nomatch h
  | i + 1, h => by
    rcases List.mem_append.mp (show e ∈ oth nds nd i ++ _ from h) with z | z
    · exact oth_mem z
    · split at z
      · exact nomatch z
      · rename_i c
        exact ⟨i, c, by simpa using z⟩
def ownW (m bh nd : Nat) : List Int := ((List.range m).map fun i : Nat => (i : Int)).set bh (nd : Int)
theorem ownW_get {m bh nd j : Nat} (h : j < m) : (ownW m bh nd)[j]? = some (if j = bh then (nd : Int) else (j : Int)) := by
  unfold ownW
  rw [List.getElem?_set]
  split
  · rename_i c
    subst c
    rw [if_pos (by rw [List.length_map, List.length_range]; exact h), if_pos rfl]
  · rename_i c
    rw [List.getElem?_map, List.getElem?_range h, if_neg (fun z => c z.symm)]
    rfl
theorem led_leads : ∀ (e : Np) (ls : List Int), ls.length = e.leads.length → (e.led ls).leads = ls
  | .put _ _ _, [_], _ => rfl
  | .say _ _, [_], _ => rfl
  | .pick _ _, [_], _ => rfl
  | .test _ _ _, [_, _], _ => rfl
  | .fin, [], _ => rfl
def spPla : Sp := fun vs H Q _ => ∃ (r p B I N : Addr) (vb vn : List V) (bs : List (Str × Int)) (ins : List Str) (nds : List Np) (most longest : Int), vs = [.ref r, .ref p] ∧ Reel H r ∧ H p = some (.tup [.ref B, .ref I, .ref N]) ∧ PrD r H B I N vb vn bs ins nds ∧ PgOk most longest bs ins nds ∧ longest ≤ 40 ∧
  ((bs.length < 2 ∨ nds.length < 2) → ∀ (L : Addr) (H' : Hp), Rl r H H' → H' L = some (.lst [.ref p, .int 0]) → Q (.ref L) H') ∧
  (2 ≤ bs.length → 2 ≤ nds.length → ∀ (L p' F : Addr) (vn' : List V) (nds' : List Np) (nd : Nat) (H' : Hp), Rl r H H' → H' L = some (.lst [.ref p', .int (nd : Int)]) → H' p' = some (.tup [.ref B, .ref I, .ref F]) → PrD r H' B I F vb vn' bs ins nds' → PgOk most longest bs ins nds' → nds'.length = nds.length → nd < nds.length → ExOk nds' nd → Q (.ref L) H')
theorem scPla : FnScope ["pot", "program", "boxes", "inputs", "nodes", "many", "names", "first", "second", "behind", "node", "own", "found"] ["pot", "program"] (defScope sPla) := ⟨rfl, rfl, rfl, by decide +kernel, rfl, by decide +kernel, by decide +kernel⟩
theorem gPla_law_any_sum : GLB sPla "_law_any_sum" := by decide +kernel
theorem gPla_law_next : GLB sPla "_law_next" := by decide +kernel
theorem gPla_len : GLB sPla "len" := by decide +kernel
theorem gPla_list : GLB sPla "list" := by decide +kernel
theorem gPla_range : GLB sPla "range" := by decide +kernel
theorem led_isN : ∀ (a : Np) (ls : List Int), a.isN → (a.led ls).isN
  | .put _ _ _, _, h => h | .say _ _, _, h => h | .test _ _ _, _, h => h | .pick _ _, _, h => h | .fin, _, h => h
theorem led_tolds : ∀ (a : Np) (ls : List Int), (a.led ls).tolds = a.tolds
  | .put _ _ _, _ => rfl | .say _ _, _ => rfl | .test _ _ _, _ => rfl | .pick _ _, _ => rfl | .fin, _ => rfl
theorem seqIx {n k : Nat} (h : k < n) : seqIndex? (k : Int) n = some k := (ixN_seq (ixN_of (by omega) (by omega : (k : Int) < (n : Int)))).1.trans (by rw [Int.toNat_natCast])
def own1 (bh nd : Nat) (l : Int) : Int := if l = (bh : Int) then (nd : Int) else l
theorem own1_ne {bh nd : Nat} (h : nd ≠ bh) (l : Int) : own1 bh nd l ≠ (bh : Int) := by
  unfold own1
  split
  · intro z
    exact h (by omega)
  · assumption
def plF (bh nd : Nat) (e : Np) : Np := e.led (e.leads.map (own1 bh nd))
def plS (nds : List Np) (bh nd : Nat) (x y : Str) (e1 e2 : E) (b2 : Int) : List Np := ((nds.map (plF bh nd)).set nd (.put x e1 (bh : Int))).set bh (.put y e2 b2)
theorem plS_len (nds : List Np) (bh nd : Nat) (x y : Str) (e1 e2 : E) (b2 : Int) : (plS nds bh nd x y e1 e2 b2).length = nds.length := by
  unfold plS
  rw [List.length_set, List.length_set, List.length_map]
theorem plS_get {nds : List Np} {bh nd j : Nat} {x y : Str} {e1 e2 : E} {b2 : Int} {e : Np} (h : (plS nds bh nd x y e1 e2 b2)[j]? = some e) : (j = bh ∧ e = .put y e2 b2) ∨ (j = nd ∧ e = .put x e1 (bh : Int)) ∨ ∃ e0, nds[j]? = some e0 ∧ e = plF bh nd e0 := by
  unfold plS at h
  rw [List.getElem?_set] at h
  split at h
  · rename_i c
    split at h
    · cases h
      exact .inl ⟨c.symm, rfl⟩
    · cases h
  · rw [List.getElem?_set] at h
    split at h
    · rename_i c
      split at h
      · cases h
        exact .inr (.inl ⟨c.symm, rfl⟩)
      · cases h
    · rw [List.getElem?_map] at h
      obtain ⟨e0, h0, rfl⟩ := Option.map_eq_some_iff.mp h
      exact .inr (.inr ⟨e0, h0, rfl⟩)
theorem plF_leads (bh nd : Nat) (e : Np) : (plF bh nd e).leads = e.leads.map (own1 bh nd) := led_leads e _ (List.length_map _)
theorem pl_ok {nds : List Np} {bh nd : Nat} {x y : Str} {e1 e2 : E} {b2 : Int} (hb : bh < nds.length) (hn : nd < nds.length) (hb0 : bh ≠ 0) (hne : nd ≠ bh) (xy : x ≠ y) (n1 : e1.nm y = false) (n2 : e2.nm x = false) (hb2 : b2 ≠ (bh : Int)) : ExOk (plS nds bh nd x y e1 e2 b2) nd := by
  have lm : nd < (nds.map (plF bh nd)).length := by rw [List.length_map]; exact hn
  refine .mk (x := x) (y := y) (e := e1) (e2 := e2) (b := (bh : Int)) (b2 := b2) ?_ ?_ (by omega) (by omega) ?_ xy n1 n2
  · unfold plS
    rw [List.getElem?_set_ne hne.symm, List.getElem?_set_self lm]
  · unfold plS
    rw [Int.toNat_natCast, List.getElem?_set_self (by rw [List.length_set, List.length_map]; exact hb)]
  · unfold comesB
    rw [List.any_eq_false]
    intro e he
    obtain ⟨j, hj, hje⟩ := oth_mem he
    rw [decide_eq_true_iff]
    intro hm
    rcases plS_get hje with ⟨_, rfl⟩ | ⟨z, _⟩ | ⟨e0, _, rfl⟩
    · exact hb2 (List.mem_singleton.mp hm).symm
    · exact hj z
    · rw [plF_leads] at hm
      obtain ⟨l, _, hl⟩ := List.mem_map.mp hm
      exact own1_ne hne l hl
theorem own_list (m bh nd : Nat) : ((List.range m).map fun i : Nat => V.int (i : Int)).set bh (.int (nd : Int)) = (ownW m bh nd).map V.int := by
  unfold ownW
  rw [List.map_set, List.map_map]
  rfl
theorem pl_nodes {nds : List Np} {ns : List Str} {bh nd : Nat} {x y : Str} {e1 e2 : E} {b2 : Int} (ok : ∀ e ∈ nds, NpOk ns (nds.length : Int) e) (hb : bh < nds.length) (hn : nd < nds.length) (hx : x ∈ ns) (hy : y ∈ ns) (i1 : e1.isS) (i2 : e2.isS) (o1 : e1.okIn (bxN ns)) (o2 : e2.okIn (bxN ns)) (d1 : e1.dep ≤ 3) (d2 : e2.dep ≤ 3) (h0 : 0 ≤ b2) (h1 : b2 < (nds.length : Int)) : ∀ e ∈ plS nds bh nd x y e1 e2 b2, NpOk ns (nds.length : Int) e := fun e he => by
  obtain ⟨j, hj⟩ := List.mem_iff_getElem?.mp he
  rcases plS_get hj with ⟨_, rfl⟩ | ⟨_, rfl⟩ | ⟨e0, he0, rfl⟩
  · exact ⟨i2, all1 ⟨h0, h1⟩, all2 ⟨⟨rfl, hy⟩, Nat.zero_le _⟩ ⟨o2, d2⟩⟩
  · exact ⟨i1, all1 ⟨by omega, by omega⟩, all2 ⟨⟨rfl, hx⟩, Nat.zero_le _⟩ ⟨o1, d1⟩⟩
  · have k := ok e0 (List.mem_of_getElem? he0)
    refine ⟨led_isN e0 _ k.is, fun l hl => ?_, fun z hz => ?_⟩
    · rw [plF_leads] at hl
      obtain ⟨l0, hl0, rfl⟩ := List.mem_map.mp hl
      have := k.ld l0 hl0
      unfold own1
      split
      · exact ⟨by omega, by omega⟩
      · exact this
    · have : (plF bh nd e0).tolds = e0.tolds := led_tolds e0 _
      rw [this] at hz
      exact k.td z hz
theorem ok_pla {f : Addr} {fd : FuncData} (F : Fun K "_law_plant" "_law_plant" sPla f fd) (m_len : mg "len" = none) (m_list : mg "list" = none) (m_range : mg "range" = none) (NX0 : Has P w K mg base "_law_next" ["pot", "many"] 1 spNext) (SM : Has P w K mg base "_law_any_sum" ["pot", "names", "deep"] 6 (spSum 4)) (LD0 : Has P w K mg base "_law_led" ["node", "change"] 1 spLed) : FnOk P w K mg base CX0 7 f fd ["pot", "program"] spPla := by
 refine F.ok scPla (fun vs H Q E h => ?_) (fun cdv A outer s H vs Q E hr h => ?_)
 · obtain ⟨r, p, B, I, N, vb, vn, bs, ins, nds, most, longest, rfl, _⟩ := h
   rfl
 obtain ⟨r, p, B, I, N, vb, vn, bs, ins, nds, most, longest, rfl, hre, hp, pd, ok, lg, q0, q2⟩ := h
 have NX := NX0.mono (show 1 ≤ 6 by omega)
 have LD := LD0.mono (show 1 ≤ 6 by omega)
 have vnl := Paired.length pd.pn
 have vbl := Paired.length pd.pb
 have l4 := ok.bx.l4
 have n40 : nds.length ≤ 40 := by have := ok.few; omega
 have bigp : (900 : Int) < 2 ^ 110 := by decide
 have big : 1000 ≤ sizeLine := by decide
 refine goL ⟨_, (L3.cons (L3.asg (L3.v 1) (L3.gtup 3 (L3.gsk (L3.gn 2 scPla.nd) (L3.gsk (L3.gn 3 scPla.nd) (L3.gsk (L3.gn 4 scPla.nd) L3.gsn)))))
   (L3.cons (L3.set 5 scPla.nd (L3.callB L3.c_len gPla_len m_len PySem.boot_len (L3.k (L3.v 4) L3.n)))
   (L3.cons (L3.ifs (L3.tw (L3.or2 (L3.cmp L3.o_lt (L3.callB L3.c_len gPla_len m_len PySem.boot_len (L3.k (L3.v 2) L3.n)) L3.int) (L3.or1 (L3.cmp L3.o_lt (L3.v 5) L3.int)))) (L3.one (L3.ret (L3.lst (L3.k (L3.v 1) (L3.k L3.int L3.n))))) L3.nil)
   (L3.cons (L3.slc (i := 6) [none, none] ["name", "size"] (show CompScope _ (defScope sPla) from ⟨rfl, by decide +kernel, by decide +kernel, by decide +kernel⟩) (by rfl) (L3.iL (L3.v 2)) (fun _ _ _ _ _ => ⟨(L3.gtup 2 (L3.gsk (L3.gn 0 (show (["name", "size"] : List Str).Nodup from by decide +kernel)) (L3.gsk (L3.gn 1 (show (["name", "size"] : List Str).Nodup from by decide +kernel)) L3.gsn))), L3.if0, (L3.v 0)⟩) scPla.nd)
   (L3.cons (L3.set 7 scPla.nd (L3.popAt (L3.v 6) (L3.k (L3.own NX hr gPla_law_next (L3.k (L3.v 0) (L3.k (L3.callB L3.c_len gPla_len m_len PySem.boot_len (L3.k (L3.v 6) L3.n)) L3.n))) L3.n)))
   (L3.cons (L3.set 8 scPla.nd (L3.popAt (L3.v 6) (L3.k (L3.own NX hr gPla_law_next (L3.k (L3.v 0) (L3.k (L3.callB L3.c_len gPla_len m_len PySem.boot_len (L3.k (L3.v 6) L3.n)) L3.n))) L3.n)))
   (L3.cons (L3.set 9 scPla.nd (L3.op L3.o_add L3.int (L3.own NX hr gPla_law_next (L3.k (L3.v 0) (L3.k (L3.op L3.o_sub (L3.v 5) L3.int) L3.n)))))
   (L3.cons (L3.set 10 scPla.nd (L3.op L3.o_mod (L3.op L3.o_add (L3.op L3.o_add (L3.v 9) L3.int) (L3.own NX hr gPla_law_next (L3.k (L3.v 0) (L3.k (L3.op L3.o_sub (L3.v 5) L3.int) L3.n)))) (L3.v 5)))
   (L3.cons (L3.set 11 scPla.nd (L3.listrng gPla_list m_list gPla_range m_range (L3.k (L3.v 5) L3.n)))
   (L3.cons (L3.asg (L3.v 10) (L3.gsetN (L3.v 11) (L3.v 9)))
   (L3.cons (L3.slc (i := 12) [none, some 11] ["told", "own"] (show CompScope _ (defScope sPla) from ⟨rfl, by decide +kernel, by decide +kernel, by decide +kernel⟩) (by rfl) (L3.iL (L3.v 4)) (fun _ _ _ _ _ => ⟨(L3.gn 0 (show (["told", "own"] : List Str).Nodup from by decide +kernel)), L3.if0, (L3.own LD hr (by rfl) (L3.k (L3.v 0) (L3.k (L3.v 1) L3.n)))⟩) scPla.nd)
   (L3.cons (L3.asg (L3.tup (L3.k L3.str (L3.k (L3.v 7) (L3.k (L3.own SM hr gPla_law_any_sum (L3.k (L3.v 0) (L3.k (L3.op L3.o_cat (L3.v 6) (L3.lst (L3.k (L3.v 7) L3.n))) (L3.k L3.int L3.n)))) (L3.k (L3.v 9) L3.n))))) (L3.gsetN (L3.v 12) (L3.v 10)))
   (L3.cons (L3.asg (L3.tup (L3.k L3.str (L3.k (L3.v 8) (L3.k (L3.own SM hr gPla_law_any_sum (L3.k (L3.v 0) (L3.k (L3.op L3.o_cat (L3.v 6) (L3.lst (L3.k (L3.v 8) L3.n))) (L3.k L3.int L3.n)))) (L3.k (L3.ix L3.ixL (L3.v 11) (L3.own NX hr gPla_law_next (L3.k (L3.v 0) (L3.k (L3.v 5) L3.n)))) L3.n))))) (L3.gsetN (L3.v 12) (L3.v 9)))
   (L3.one (L3.ret (L3.lst (L3.k (L3.tup (L3.k (L3.v 2) (L3.k (L3.v 3) (L3.k (L3.v 12) L3.n)))) (L3.k (L3.v 10) L3.n)))))))))))))))))), ?_⟩
 refine cut1 fun Rk kR => ?_
 refine ⟨_, rfl, p, _, rfl, SqT.of hp, rfl, _, _, rfl, _, _, rfl, _, _, rfl, rfl, ?_⟩
 refine kR _ _ ?_
 clear kR
 refine normS [some (.ref r), some (.ref p), some (.ref B), some (.ref I), some (.ref N), none, none, none, none, none, none, none, none] rfl ?_
 refine cut1 fun Rk kR => ?_
 refine ⟨_, rfl, N, _, rfl, .inl (SqL.of pd.hN), ?_⟩
 rw [vnl]
 refine gn_go ?_
 refine kR _ _ ?_
 clear kR
 refine normS [some (.ref r), some (.ref p), some (.ref B), some (.ref I), some (.ref N), some (.int (nds.length : Int)), none, none, none, none, none, none, none] rfl ?_
 refine cut1 fun Rk kR => ?_
 refine ⟨_, rfl, B, _, rfl, .inl (SqL.of pd.hB), _, _, rfl, rfl, _, rfl, ?_⟩
 by_cases c1 : bs.length < 2
 · refine iteT' (decide_eq_true (show (vb.length : Int) < 2 by omega)) (iteT' (by decide) ?_)
   exact ⟨_, rfl, (by show 2 ≤ sizeLine; decide), fun L hL => q0 (.inl c1) L _ (Rl.new hre hL) upd_same⟩
 refine iteF' (decide_eq_false (show ¬ (vb.length : Int) < 2 by omega)) ?_
 refine ⟨_, rfl, _, _, rfl, rfl, _, rfl, ?_⟩
 by_cases c2 : nds.length < 2
 · refine iteT' (decide_eq_true (show (nds.length : Int) < 2 by omega)) ?_
   exact ⟨_, rfl, (by show 2 ≤ sizeLine; decide), fun L hL => q0 (.inr c2) L _ (Rl.new hre hL) upd_same⟩
 refine iteF' (decide_eq_false (show ¬ (nds.length : Int) < 2 by omega)) (kR _ _ ?_)
 clear kR q0
 have q2 := q2 (by omega) (by omega)
 refine cut1 fun Rk kR => ?_
 refine ⟨_, rfl, B, rfl, ⟨_, SqL.of pd.hB⟩, fun nl hnl => ?_⟩
 have nlr := hre.ne hnl
 refine comp_list (xs := vb) (fun (i : Nat) (Hx : Hp) => Same H Hx ∧ Hx nl = some (.lst (((bs.map (·.1)).take i).map V.str))) ⟨same_new hnl _, by rw [List.take_zero]; exact upd_same⟩ (fun i Hx _ zz => SqL.of (zz.1 _ _ pd.hB)) (fun i x0 Hx hx zz => ?_) (fun H1 zz => ?_)
 · obtain ⟨sx, gn⟩ := zz
   have hil := (List.getElem?_eq_some_iff.mp hx).1
   obtain ⟨b, hbi, pb0, rfl, hpb⟩ := Paired.get pd.pb hx
   refine ⟨pb0, _, rfl, SqT.of (sx _ _ hpb), rfl, _, _, rfl, _, _, rfl, rfl, ?_⟩
   refine turn0 (A := fun H5 => mApp _ nl _ H5 _) ?_
   refine ⟨_, rfl, _, gn, small1000 (by rw [List.length_map, List.length_take]; omega), comp_end (Pv := fun (i : Nat) (Hx : Hp) => Same H Hx ∧ Hx nl = some (.lst (((bs.map (·.1)).take i).map V.str))) (by repeat' constructor) hil ⟨same_put sx hnl, ?_⟩⟩
   have hb2 : (bs.map (·.1))[i]? = some b.1 := by rw [List.getElem?_map, hbi]; rfl
   rw [upd_same, List.take_add_one, hb2, List.map_append]
   rfl
 obtain ⟨s1, gn⟩ := zz
 rw [vbl, List.take_of_length_le (by rw [List.length_map]; exact Nat.le_refl _)] at gn
 obtain ⟨nms, enm⟩ : ∃ nms, nms = bs.map (·.1) := ⟨_, rfl⟩
 have nml : nms.length = bs.length := by rw [enm, List.length_map]
 have nmd : nms.Nodup := by rw [enm]; exact ok.bx.nd
 rw [← enm] at gn
 have l1 := Rl.of hre s1
 refine gn_go ?_
 refine kR _ _ ?_
 clear kR
 refine normS [some (.ref r), some (.ref p), some (.ref B), some (.ref I), some (.ref N), some (.int (nds.length : Int)), some (.ref nl), none, none, none, none, none, none] rfl ?_
 refine cut1 fun Rk kR => ?_
 refine ⟨_, rfl, .inl ⟨rfl, _, SqL.of gn⟩, _, rfl, _, rfl, nl, _, rfl, .inl (SqL.of gn), r, ((nms.map V.str).length : Int), rfl, l1.rl, by rw [List.length_map]; omega, by rw [List.length_map]; omega, fun k H2 k0 k1 l2 => ?_⟩
 rw [List.length_map] at k1
 obtain ⟨kn, rfl⟩ : ∃ kn : Nat, k = (kn : Int) := ⟨k.toNat, (Int.toNat_of_nonneg k0).symm⟩
 obtain ⟨x, hx⟩ : ∃ x, nms[kn]? = some x := ⟨nms[kn]'(by omega), List.getElem?_eq_getElem (by omega)⟩
 obtain ⟨x_no, nd1, in1, len1⟩ := er_of nmd hx
 have gn2 := l2.k _ _ nlr gn
 refine ⟨nl, _, _, kn, .str x, rfl, rfl, gn2, by omega, by omega, ?_, by rw [List.getElem?_map, hx]; rfl, ?_⟩
 · show seqIndex? (kn : Int) (nms.map V.str).length = some kn
   exact seqIx (by rw [List.length_map]; omega)
 have lH2 := l1.trans l2
 have e1 : (nms.map V.str).eraseIdx kn = (nms.eraseIdx kn).map V.str := er_map _ _ _
 rw [e1]
 have l3 : Rl r H (upd H2 nl (.lst ((nms.eraseIdx kn).map V.str))) := lH2.put nlr hnl
 have gn3 : (upd H2 nl (.lst ((nms.eraseIdx kn).map V.str))) nl = some (.lst ((nms.eraseIdx kn).map V.str)) := upd_same
 generalize upd H2 nl (.lst ((nms.eraseIdx kn).map V.str)) = H3 at l3 gn3 ⊢
 generalize nms.eraseIdx kn = ns1 at x_no nd1 in1 len1 gn3
 refine gn_go ?_
 refine kR _ _ ?_
 clear kR
 refine normS [some (.ref r), some (.ref p), some (.ref B), some (.ref I), some (.ref N), some (.int (nds.length : Int)), some (.ref nl), some (.str x), none, none, none, none, none] rfl ?_
 refine cut1 fun Rk kR => ?_
 refine ⟨_, rfl, .inl ⟨rfl, _, SqL.of gn3⟩, _, rfl, _, rfl, nl, _, rfl, .inl (SqL.of gn3), r, ((ns1.map V.str).length : Int), rfl, l3.rl, by rw [List.length_map]; omega, by rw [List.length_map]; omega, fun k2 H4 k20 k21 l4' => ?_⟩
 rw [List.length_map] at k21
 obtain ⟨kn2, rfl⟩ : ∃ kn : Nat, k2 = (kn : Int) := ⟨k2.toNat, (Int.toNat_of_nonneg k20).symm⟩
 obtain ⟨y, hy⟩ : ∃ y, ns1[kn2]? = some y := ⟨ns1[kn2]'(by omega), List.getElem?_eq_getElem (by omega)⟩
 obtain ⟨y_no, nd2, in2, len2⟩ := er_of nd1 hy
 have y_in : y ∈ ns1 := List.mem_of_getElem? hy
 have gn4 := l4'.k _ _ nlr gn3
 refine ⟨nl, _, _, kn2, .str y, rfl, rfl, gn4, by omega, by omega, ?_, by rw [List.getElem?_map, hy]; rfl, ?_⟩
 · show seqIndex? (kn2 : Int) (ns1.map V.str).length = some kn2
   exact seqIx (by rw [List.length_map]; omega)
 have e2 : (ns1.map V.str).eraseIdx kn2 = (ns1.eraseIdx kn2).map V.str := er_map _ _ _
 rw [e2]
 have l5 : Rl r H (upd H4 nl (.lst ((ns1.eraseIdx kn2).map V.str))) := (l3.trans l4').put nlr hnl
 have gn5 : (upd H4 nl (.lst ((ns1.eraseIdx kn2).map V.str))) nl = some (.lst ((ns1.eraseIdx kn2).map V.str)) := upd_same
 generalize upd H4 nl (.lst ((ns1.eraseIdx kn2).map V.str)) = H5 at l5 gn5 ⊢
 generalize ns1.eraseIdx kn2 = ns2 at y_no nd2 in2 len2 gn5
 have x_no2 : x ∉ ns2 := fun z => x_no (in2 x z)
 have xy : x ≠ y := fun z => x_no (z ▸ y_in)
 refine gn_go ?_
 refine kR _ _ ?_
 clear kR
 refine normS [some (.ref r), some (.ref p), some (.ref B), some (.ref I), some (.ref N), some (.int (nds.length : Int)), some (.ref nl), some (.str x), some (.str y), none, none, none, none] rfl ?_
 refine cut1 fun Rk kR => ?_
 refine ⟨_, rfl, _, rfl, _, _, rfl, rfl, r, (nds.length : Int) - 1, rfl, l5.rl, by omega, by omega, fun k3 H6 k30 k31 l6 => ⟨_, _, rfl, rfl, ?_⟩⟩
 obtain ⟨bh, ebh⟩ : ∃ bh : Nat, 1 + k3 = (bh : Int) := ⟨(1 + k3).toNat, (Int.toNat_of_nonneg (by omega)).symm⟩
 have bh1 : 1 ≤ bh := by omega
 have bhl : bh < nds.length := by omega
 have l56 := l5.trans l6
 refine gn_go ?_
 refine kR _ _ ?_
 clear kR
 refine normS [some (.ref r), some (.ref p), some (.ref B), some (.ref I), some (.ref N), some (.int (nds.length : Int)), some (.ref nl), some (.str x), some (.str y), some (.int (bh : Int)), none, none, none] (by rw [← ebh]; rfl) ?_
 refine cut1 fun Rk kR => ?_
 have m0 : (0 : Int) < (nds.length : Int) := by omega
 refine ⟨_, rfl, _, _, rfl, rfl, _, rfl, _, rfl, _, _, rfl, rfl, r, (nds.length : Int) - 1, rfl, l56.rl, by omega, by omega, fun k4 H7 k40 k41 l7 => ⟨_, _, rfl, rfl, _, rfl, _, _, rfl, rfl, m0, ?_⟩⟩
 obtain ⟨nd, endd⟩ : ∃ nd : Nat, ((bh : Int) + 1 + k4) % (nds.length : Int) = (nd : Int) := ⟨_, (Int.toNat_of_nonneg (mod_lo m0)).symm⟩
 have ndl : nd < nds.length := by
   have := mod_hi (k := (bh : Int) + 1 + k4) m0
   omega
 have ndne : nd ≠ bh := by
   rcases mod_sh (s := (bh : Int) + 1 + k4) (n := (nds.length : Int)) (by omega) (by omega) with z | z
   · omega
   · omega
 have l57 := l56.trans l7
 refine gn_go ?_
 refine kR _ _ ?_
 clear kR
 refine normS [some (.ref r), some (.ref p), some (.ref B), some (.ref I), some (.ref N), some (.int (nds.length : Int)), some (.ref nl), some (.str x), some (.str y), some (.int (bh : Int)), some (.int (nd : Int)), none, none] (by rw [← endd]; rfl) ?_
 refine cut1 fun Rk kR => ?_
 refine ⟨_, rfl, nds.length, rfl, by omega, fun O hO => ?_⟩
 have Or := l57.rl.ne hO
 have nO := l57.no Or hO
 have l8 : Rl r H (upd H7 O (.lst ((List.range nds.length).map fun i : Nat => V.int (i : Int)))) := l57.put Or nO
 have g8 : (upd H7 O (.lst ((List.range nds.length).map fun i : Nat => V.int (i : Int)))) O = some (.lst ((List.range nds.length).map fun i : Nat => V.int (i : Int))) := upd_same
 have gn8 : (upd H7 O (.lst ((List.range nds.length).map fun i : Nat => V.int (i : Int)))) nl = some (.lst (ns2.map V.str)) := by
   have z := (l6.trans l7).k _ _ nlr gn5
   rw [upd_ne (ne_of_none z hO)]
   exact z
 generalize upd H7 O (.lst ((List.range nds.length).map fun i : Nat => V.int (i : Int))) = H8 at l8 g8 gn8 ⊢
 refine gn_go ?_
 refine kR _ _ ?_
 clear kR
 refine normS [some (.ref r), some (.ref p), some (.ref B), some (.ref I), some (.ref N), some (.int (nds.length : Int)), some (.ref nl), some (.str x), some (.str y), some (.int (bh : Int)), some (.int (nd : Int)), some (.ref O), none] rfl ?_
 refine cut1 fun Rk kR => ?_
 refine ⟨_, rfl, _, rfl, _, rfl, O, _, _, bh, rfl, rfl, g8, by rw [List.length_map, List.length_range]; exact (ixN_of (by omega) (by omega)).trans (by rw [Int.toNat_natCast]), ?_⟩
 rw [own_list]
 have nlO : nl ≠ O := ne_of gn8 g8 (fun z => by
   injection z with z
   have z2 := congrArg List.head? z
   cases ns2 with
   | nil =>
     have z3 := congrArg List.length z
     rw [List.length_map, List.length_map, List.length_range] at z3
     have : 0 = nds.length := z3
     omega
   | cons a l =>
     obtain ⟨m, hm⟩ : ∃ m, nds.length = m + 1 := ⟨nds.length - 1, by omega⟩
     rw [hm, List.range_succ_eq_map] at z2
     exact nomatch z2)
 have l9 : Rl r H (upd H8 O (.lst ((ownW nds.length bh nd).map V.int))) := l8.put Or nO
 have gO9 : (upd H8 O (.lst ((ownW nds.length bh nd).map V.int))) O = some (.lst ((ownW nds.length bh nd).map V.int)) := upd_same
 have gn9 : (upd H8 O (.lst ((ownW nds.length bh nd).map V.int))) nl = some (.lst (ns2.map V.str)) := by rw [upd_ne nlO]; exact gn8
 generalize upd H8 O (.lst ((ownW nds.length bh nd).map V.int)) = H9 at l9 gO9 gn9 ⊢
 refine kR _ _ ?_
 clear kR
 refine cut1 fun Rk kR => ?_
 have pd9 := pd.go hre l9
 refine ⟨_, rfl, N, rfl, ⟨_, SqL.of pd9.hN⟩, fun F hF => ?_⟩
 have Fr := l9.rl.ne hF
 have nF := l9.no Fr hF
 refine comp_list (xs := vn) (fun (i : Nat) (Hx : Hp) => Same H9 Hx ∧ ∃ us, Hx F = some (.lst us) ∧ us.length = i ∧ Paired (NpAt Hx) us ((nds.take i).map (plF bh nd))) ⟨same_new hF _, [], upd_same, rfl, by rw [List.take_zero]; exact .nil⟩ (fun i Hx _ zz => SqL.of (zz.1 _ _ pd9.hN)) (fun i x0 Hx hxi zz => ?_) (fun Ha zz => ?_)
 · obtain ⟨sx, us, gF, ul, pu⟩ := zz
   have hil := (List.getElem?_eq_some_iff.mp hxi).1
   obtain ⟨e, he, na⟩ := Paired.get pd9.pn hxi
   have eok := ok.nd e (List.mem_of_getElem? he)
   refine gn_go ?_
   refine turn0 (A := fun H5 => mApp _ F _ H5 _) ?_
   refine ⟨_, rfl, _, rfl, x0, O, e, ownW nds.length bh nd, e.leads.map (own1 bh nd), rfl, NpAt.keep (Same.tk sx) na, eok.is, sx _ _ gO9, List.length_map _, fun j a b h1 h2 => ?_, fun v' Hy sy nv => ?_⟩
   · have lb := eok.ld a (List.mem_of_getElem? h1)
     refine ⟨lb.1, ?_⟩
     rw [List.getElem?_map, h1] at h2
     cases h2
     rw [ownW_get (by omega)]
     unfold own1
     congr 1
     by_cases c : a = (bh : Int)
     · rw [if_pos (by omega), if_pos c]
     · rw [if_neg (by omega), if_neg c, Int.toNat_of_nonneg lb.1]
   · have gFy := sy _ _ gF
     have tkF : TK Hy (upd Hy F (.lst (us ++ [v']))) := TW.TK.lst gFy
     refine ⟨_, gFy, small1000 (by omega), comp_end (Pv := fun (i : Nat) (Hx : Hp) => Same H9 Hx ∧ ∃ us, Hx F = some (.lst us) ∧ us.length = i ∧ Paired (NpAt Hx) us ((nds.take i).map (plF bh nd))) (by repeat' constructor) hil ⟨same_put (same_trans sx sy) hF, us ++ [v'], upd_same, by rw [List.length_append, ul]; rfl, ?_⟩⟩
     rw [List.take_add_one, he, List.map_append]
     exact Paired.snoc (Paired.mapP pu fun _ _ z => NpAt.keep ((Same.tk sy).trans tkF) z) (NpAt.keep tkF nv)
 obtain ⟨sa, us, gF, ul, pu⟩ := zz
 rw [vnl, List.take_length] at pu
 refine gn_go ?_
 refine kR _ _ ?_
 clear kR
 refine normS [some (.ref r), some (.ref p), some (.ref B), some (.ref I), some (.ref N), some (.int (nds.length : Int)), some (.ref nl), some (.str x), some (.str y), some (.int (bh : Int)), some (.int (nd : Int)), some (.ref O), some (.ref F)] rfl ?_
 refine cut1 fun Rk kR => ?_
 have la := l9.trans (Rl.of l9.rl sa)
 have gna := sa _ _ gn9
 have gOa := sa _ _ gO9
 have FO : F ≠ O := (ne_of_none gO9 hF).symm
 have Fnl : F ≠ nl := (ne_of_none gn9 hF).symm
 refine ⟨_, rfl, _, rfl, _, rfl, _, rfl, (by show 1 ≤ sizeLine; decide), fun m1 hm1 => ?_⟩
 have c11 := same_new hm1 (.lst [.str x])
 have d11 : (upd Ha m1 (.lst [.str x])) m1 = some (.lst [.str x]) := upd_same
 generalize upd Ha m1 (.lst [.str x]) = Hc1 at c11 d11 ⊢
 refine ⟨nl, m1, _, _, rfl, rfl, c11 _ _ gna, d11, (by rw [List.length_map]; show _ + 1 ≤ _; omega), fun w1 hw1 => ?_⟩
 have e1 : ns2.map V.str ++ [V.str x] = (ns2 ++ [x]).map V.str := by rw [List.map_append]; rfl
 rw [e1]
 have c12 := same_new hw1 (.lst ((ns2 ++ [x]).map V.str))
 have d12 : (upd Hc1 w1 (.lst ((ns2 ++ [x]).map V.str))) w1 = some (.lst ((ns2 ++ [x]).map V.str)) := upd_same
 generalize upd Hc1 w1 (.lst ((ns2 ++ [x]).map V.str)) = Hd1 at c12 d12 ⊢
 have cN12 := same_trans c11 c12
 have l12 := Rl.of la.rl cN12
 have wr1 : w1 ≠ r := (la.rl.same c11).ne hw1
 refine ⟨r, w1, 3, ns2 ++ [x], rfl, ⟨l12.rl, wr1, d12, by rw [List.length_append]; show _ + 1 ≤ 4; omega⟩, by decide, by decide, fun v1 e1 He1 l13 ev1 i1 o1 dp1 => ?_⟩
 have l14 := l12.trans l13
 have d1 : e1.dep ≤ 3 := dp1
 refine ⟨_, rfl, (by show 4 ≤ sizeLine; decide), fun tp1 htp1 => ?_⟩
 have lNf := l14
 have t1 := same_new htp1 (.tup [.str "put", .str x, v1, .int (bh : Int)])
 have gt1 : (upd He1 tp1 (.tup [.str "put", .str x, v1, .int (bh : Int)])) tp1 = some (.tup [.str "put", .str x, v1, .int (bh : Int)]) := upd_same
 generalize upd He1 tp1 (.tup [.str "put", .str x, v1, .int (bh : Int)]) = Hg1 at t1 gt1 ⊢
 have l15 := lNf.trans (Rl.of lNf.rl t1)
 have gF1 := l15.k _ _ Fr gF
 refine ⟨_, rfl, _, rfl, F, _, _, nd, rfl, rfl, gF1, (ixN_of (by omega) (by rw [ul, vnl]; omega)).trans (by rw [Int.toNat_natCast]), ?_⟩
 have tk1 : TK Hg1 (upd Hg1 F (.lst (us.set nd (.ref tp1)))) := TW.TK.lst gF1
 have gFs1 : (upd Hg1 F (.lst (us.set nd (.ref tp1)))) F = some (.lst (us.set nd (.ref tp1))) := upd_same
 have ls1 : Rl r H (upd Hg1 F (.lst (us.set nd (.ref tp1)))) := (la.trans l15).put Fr nF
 have ev12 : EAt Hg1 v1 e1 := ev1.keep (Same.tk t1)
 have pu1 := Paired.setP (R := NpAt (upd Hg1 F (.lst (us.set nd (.ref tp1))))) (x := .ref tp1) (y := .put x e1 (bh : Int)) ⟨v1, ⟨tp1, rfl, tk1 _ _ gt1⟩, ev12.keep tk1⟩ nd (Paired.mapP pu fun _ _ z => NpAt.keep ((Rl.tk la.rl l15).trans tk1) z)
 have gns1 : (upd Hg1 F (.lst (us.set nd (.ref tp1)))) nl = some (.lst (ns2.map V.str)) := by rw [upd_ne Fnl.symm]; exact l15.k _ _ nlr gna
 have gOs1 : (upd Hg1 F (.lst (us.set nd (.ref tp1)))) O = some (.lst ((ownW nds.length bh nd).map V.int)) := by rw [upd_ne FO.symm]; exact l15.k _ _ Or gOa
 generalize upd Hg1 F (.lst (us.set nd (.ref tp1))) = Hs1 at gFs1 ls1 pu1 gns1 gOs1 ⊢
 refine kR _ _ ?_
 clear kR
 refine cut1 fun Rk kR => ?_
 refine ⟨_, rfl, _, rfl, _, rfl, _, rfl, (by show 1 ≤ sizeLine; decide), fun m2 hm2 => ?_⟩
 have c21 := same_new hm2 (.lst [.str y])
 have d21 : (upd Hs1 m2 (.lst [.str y])) m2 = some (.lst [.str y]) := upd_same
 generalize upd Hs1 m2 (.lst [.str y]) = Hc2 at c21 d21 ⊢
 refine ⟨nl, m2, _, _, rfl, rfl, c21 _ _ gns1, d21, (by rw [List.length_map]; show _ + 1 ≤ _; omega), fun w2 hw2 => ?_⟩
 have e2 : ns2.map V.str ++ [V.str y] = (ns2 ++ [y]).map V.str := by rw [List.map_append]; rfl
 rw [e2]
 have c22 := same_new hw2 (.lst ((ns2 ++ [y]).map V.str))
 have d22 : (upd Hc2 w2 (.lst ((ns2 ++ [y]).map V.str))) w2 = some (.lst ((ns2 ++ [y]).map V.str)) := upd_same
 generalize upd Hc2 w2 (.lst ((ns2 ++ [y]).map V.str)) = Hd2 at c22 d22 ⊢
 have cN12 := same_trans c21 c22
 have l22 := Rl.of ls1.rl cN12
 have wr2 : w2 ≠ r := (ls1.rl.same c21).ne hw2
 refine ⟨r, w2, 3, ns2 ++ [y], rfl, ⟨l22.rl, wr2, d22, by rw [List.length_append]; show _ + 1 ≤ 4; omega⟩, by decide, by decide, fun v2 e2 He2 l23 ev2 i2 o2 dp2 => ?_⟩
 have l24 := l22.trans l23
 have d2 : e2.dep ≤ 3 := dp2
 refine ⟨_, rfl, _, rfl, _, rfl, r, (nds.length : Int), rfl, l24.rl, by omega, by omega, fun k5 Hf2 k50 k51 l5n => ?_⟩
 have lNf := l24.trans l5n
 have gO5 := lNf.k _ _ Or gOs1
 obtain ⟨b2, eb2, b20, b21, b2n⟩ : ∃ b2 : Int, b2 = (if k5.toNat = bh then (nd : Int) else (k5.toNat : Int)) ∧ 0 ≤ b2 ∧ b2 < (nds.length : Int) ∧ b2 ≠ (bh : Int) := by
   refine ⟨_, rfl, ?_, ?_, ?_⟩
   · split <;> omega
   · split <;> omega
   · split <;> omega
 have hat5 : atI ((ownW nds.length bh nd).map V.int) k5 = some (.int b2) := by
   have := atI_nat (xs := (ownW nds.length bh nd).map V.int) (j := k5.toNat) (v := .int b2) (by rw [List.getElem?_map, ownW_get (show k5.toNat < nds.length by omega), eb2]; rfl)
   rw [Int.toNat_of_nonneg k50] at this
   exact this
 refine ⟨O, _, _, _, rfl, rfl, SqL.of gO5, hat5, (by show 4 ≤ sizeLine; decide), fun tp2 htp2 => ?_⟩
 have t2 := same_new htp2 (.tup [.str "put", .str y, v2, .int b2])
 have gt2 : (upd Hf2 tp2 (.tup [.str "put", .str y, v2, .int b2])) tp2 = some (.tup [.str "put", .str y, v2, .int b2]) := upd_same
 generalize upd Hf2 tp2 (.tup [.str "put", .str y, v2, .int b2]) = Hg2 at t2 gt2 ⊢
 have l25 := lNf.trans (Rl.of lNf.rl t2)
 have gF2 := l25.k _ _ Fr gFs1
 refine ⟨_, rfl, _, rfl, F, _, _, bh, rfl, rfl, gF2, (ixN_of (by omega) (by rw [List.length_set, ul, vnl]; omega)).trans (by rw [Int.toNat_natCast]), ?_⟩
 have tk2 : TK Hg2 (upd Hg2 F (.lst ((us.set nd (.ref tp1)).set bh (.ref tp2)))) := TW.TK.lst gF2
 have gFs2 : (upd Hg2 F (.lst ((us.set nd (.ref tp1)).set bh (.ref tp2)))) F = some (.lst ((us.set nd (.ref tp1)).set bh (.ref tp2))) := upd_same
 have ls2 : Rl r H (upd Hg2 F (.lst ((us.set nd (.ref tp1)).set bh (.ref tp2)))) := (ls1.trans l25).put Fr nF
 have ev22 : EAt Hg2 v2 e2 := ev2.keep ((Rl.tk l24.rl l5n).trans (Same.tk t2))
 have pu2 := Paired.setP (R := NpAt (upd Hg2 F (.lst ((us.set nd (.ref tp1)).set bh (.ref tp2))))) (x := .ref tp2) (y := .put y e2 b2) ⟨v2, ⟨tp2, rfl, tk2 _ _ gt2⟩, ev22.keep tk2⟩ bh (Paired.mapP pu1 fun _ _ z => NpAt.keep ((Rl.tk ls1.rl l25).trans tk2) z)
 have gns2 : (upd Hg2 F (.lst ((us.set nd (.ref tp1)).set bh (.ref tp2)))) nl = some (.lst (ns2.map V.str)) := by rw [upd_ne Fnl.symm]; exact l25.k _ _ nlr gns1
 have gOs2 : (upd Hg2 F (.lst ((us.set nd (.ref tp1)).set bh (.ref tp2)))) O = some (.lst ((ownW nds.length bh nd).map V.int)) := by rw [upd_ne FO.symm]; exact l25.k _ _ Or gOs1
 generalize upd Hg2 F (.lst ((us.set nd (.ref tp1)).set bh (.ref tp2))) = Hs2 at gFs2 ls2 pu2 gns2 gOs2 ⊢
 refine kR _ _ ?_
 clear kR
 refine ⟨_, rfl, _, rfl, _, rfl, (by show 3 ≤ sizeLine; decide), fun p' hp' => ?_⟩
 have lp : Rl r H (upd Hs2 p' (.tup [.ref B, .ref I, .ref F])) := ls2.trans (Rl.new ls2.rl hp')
 have gp' : (upd Hs2 p' (.tup [.ref B, .ref I, .ref F])) p' = some (.tup [.ref B, .ref I, .ref F]) := upd_same
 have sp' : Same Hs2 (upd Hs2 p' (.tup [.ref B, .ref I, .ref F])) := same_new hp' _
 generalize upd Hs2 p' (.tup [.ref B, .ref I, .ref F]) = Hp9 at lp gp' sp' ⊢
 refine ⟨_, rfl, (by show 2 ≤ sizeLine; decide), fun L hL => ?_⟩
 have sL := same_new hL (.lst [.ref p', .int (nd : Int)])
 have lL := lp.trans (Rl.of lp.rl sL)
 have pdL := pd.go hre lL
 have sub1 : ∀ z ∈ ns2, z ∈ bs.map (·.1) := fun z hz => by rw [← enm]; exact in1 z (in2 z hz)
 have xin : x ∈ bs.map (·.1) := by rw [← enm]; exact List.mem_of_getElem? hx
 have yin : y ∈ bs.map (·.1) := by rw [← enm]; exact in1 y y_in
 have o1' : e1.okIn (bxN (bs.map (·.1))) := okIn_mono (fun t z hz => ⟨hz.1, by rcases List.mem_append.mp hz.2 with w | w; exact sub1 z w; rw [List.mem_singleton.mp w]; exact xin⟩) o1
 have o2' : e2.okIn (bxN (bs.map (·.1))) := okIn_mono (fun t z hz => ⟨hz.1, by rcases List.mem_append.mp hz.2 with w | w; exact sub1 z w; rw [List.mem_singleton.mp w]; exact yin⟩) o2
 have nmy : e1.nm y = false := nm_no (fun z => by rcases List.mem_append.mp z with w | w; exact y_no w; exact xy (List.mem_singleton.mp w).symm) o1
 have nmx : e2.nm x = false := nm_no (fun z => by rcases List.mem_append.mp z with w | w; exact x_no2 w; exact xy (List.mem_singleton.mp w)) o2
 have plen := plS_len nds bh nd x y e1 e2 b2
 have nodes := pl_nodes (x := x) (y := y) (bh := bh) (nd := nd) ok.nd bhl ndl xin yin i1 i2 o1' o2' d1 d2 b20 b21
 refine q2 L p' F _ (plS nds bh nd x y e1 e2 b2) nd _ lL upd_same (sL _ _ gp') ⟨pdL.hB, pdL.hI, sL _ _ (sp' _ _ gFs2), pdL.pb, Paired.mapP pu2 fun _ _ z => NpAt.keep (Same.tk (same_trans sp' sL)) z, pd.nB, pd.nI, Fr⟩ ⟨ok.bx, ok.ind, ok.sub, by rw [plen]; exact ok.one, by rw [plen]; exact ok.few, fun e he => by rw [plen]; exact nodes e he⟩ plen ndl (pl_ok bhl ndl (by omega) ndne xy nmy nmx b2n)
theorem has_pla (s : Src K mg "_law_plant" sPla) (m_len : mg "len" = none) (m_list : mg "list" = none) (m_range : mg "range" = none) (NX0 : Has P w K mg base "_law_next" ["pot", "many"] 1 spNext) (SM : Has P w K mg base "_law_any_sum" ["pot", "names", "deep"] 6 (spSum 4)) (LD0 : Has P w K mg base "_law_led" ["node", "change"] 1 spLed) : Has P w K mg base "_law_plant" ["pot", "program"] 7 spPla :=
  let ⟨f, fd, F, m⟩ := s
  ⟨f, fd, ok_pla F m_len m_list m_range NX0 SM LD0, F.kp, bnd2 F fun _ _ _ _ _ _ _ _ => rfl, m⟩
end
end TW
namespace TW
open PySem L2
def TupC (K : PySem.W.Frag) (mg : Str → Option Value) (x : Str) (xs : List Str) : Prop := ∃ t, mg x = some (.ref t) ∧ ∀ H : Hp, SqT K H t (xs.map V.str)
theorem clsMro_of {K : PySem.W.Frag} {C : Addr} {cd : ClassData} {l : List Value} (h : PySem.W.clsIn K C = some cd) (m : cd.mro = l) : clsMro K C = some l := by
  unfold PySem.W.clsIn at h
  unfold clsMro
  split at h
  · rename_i e
    cases h
    rw [e, ← m]
  · cases h
structure Rfs (K : PySem.W.Frag) (mg : Str → Option Value) (T cNoNode cNoChange dNoForm dNoneYet dNoPair dNoPaper dNoPicks dNoProgram dNoRow dNoWorths dTooMany : Addr) : Prop where
  t : Xc K mg "TwinError" T vE
  x_NoNode : Xc K mg "NoNode" cNoNode (.ref T :: vE)
  k_NoNode : XcK K cNoNode
  o_NoNode : PySem.W.kitAny K (.ref cNoNode) [.ref dNoForm, .ref dNoneYet, .ref dNoPair, .ref dNoPaper, .ref dNoPicks, .ref dNoProgram, .ref dNoRow, .ref dNoWorths, .ref dTooMany] = some false
  v_NoNode : PySem.W.kitOne K (.ref cNoNode) (.type "ValueError") = some true
  i_NoNode_NoNode : PySem.W.kitOne K (.ref cNoNode) (.ref cNoNode) = some true
  i_NoNode_NoChange : PySem.W.kitOne K (.ref cNoNode) (.ref cNoChange) = some false
  x_NoChange : Xc K mg "NoChange" cNoChange (.ref T :: vE)
  k_NoChange : XcK K cNoChange
  o_NoChange : PySem.W.kitAny K (.ref cNoChange) [.ref dNoForm, .ref dNoneYet, .ref dNoPair, .ref dNoPaper, .ref dNoPicks, .ref dNoProgram, .ref dNoRow, .ref dNoWorths, .ref dTooMany] = some false
  v_NoChange : PySem.W.kitOne K (.ref cNoChange) (.type "ValueError") = some true
  i_NoChange_NoNode : PySem.W.kitOne K (.ref cNoChange) (.ref cNoNode) = some false
  i_NoChange_NoChange : PySem.W.kitOne K (.ref cNoChange) (.ref cNoChange) = some true
  m_NoForm : mg "NoForm" = some (.ref dNoForm)
  m_NoneYet : mg "NoneYet" = some (.ref dNoneYet)
  m_NoPair : mg "NoPair" = some (.ref dNoPair)
  m_NoPaper : mg "NoPaper" = some (.ref dNoPaper)
  m_NoPicks : mg "NoPicks" = some (.ref dNoPicks)
  m_NoProgram : mg "NoProgram" = some (.ref dNoProgram)
  m_NoRow : mg "NoRow" = some (.ref dNoRow)
  m_NoWorths : mg "NoWorths" = some (.ref dNoWorths)
  m_TooMany : mg "TooMany" = some (.ref dTooMany)
theorem xc_mk {K : PySem.W.Frag} {h : Heap} {mg : Str → Option Value} {x : Str} {C : Addr} {cd : ClassData} {tl : List Value} (X : K.In h) (G : h.Ns mainGlobals mg) (a : PySem.W.nsIn K mainGlobals x = some (some (.ref C))) (e : PySem.W.excIn K C vE "ValueError.__new__" = true) (l : PySem.W.clsIn K C = some cd) (m : cd.mro = .ref C :: tl) : Xc K mg x C tl := ⟨PySem.W.mg_of X G a, e, clsMro_of l m⟩
theorem xck_mk {K : PySem.W.Frag} {C : Addr} {cd : ClassData} (ga : PySem.W.findIn K (.ref C) "__getattribute__" = some (some (.builtin "BaseException.__getattribute__"))) (gn : PySem.W.findIn K (.ref C) "__getattr__" = some none) (ha : PySem.W.findIn K (.ref C) "__class__" = some (some (.builtin "object.__class__"))) (hn : PySem.W.specialIn K (.builtin "object.__class__") "__get__" = some (some (.builtin "getset_descriptor.__get__"))) (htk : PySem.W.takesIn K (.builtin "object.__class__") = some true) (hm : PySem.W.mroIn K C (.type "object") = some true) (hb : PySem.W.mroIn K C (.type "BaseException") = some true) (l : PySem.W.clsIn K C = some cd) : XcK K C := ⟨ga, gn, ha, hn, htk, hm, hb, by rw [l]; rfl⟩
theorem tupC_mk {K : PySem.W.Frag} {h : Heap} {mg : Str → Option Value} {x : Str} {t : Addr} {od : Option Addr} {sl : Array (Option Value)} {n : Nat} {us : Array Value} {xs : List Str} (X : K.In h) (G : h.Ns mainGlobals mg) (a : PySem.W.nsIn K mainGlobals x = some (some (.ref t))) (l : K.lookup t = some ⟨.type "tuple", od, .seq us n, sl⟩) (b : us.size ≤ sizeLine) (e : us.toList.length = xs.length) (r : Vals (xs.map V.str) us.toList) : TupC K mg x xs := ⟨_, PySem.W.mg_of X G a, fun _ => .inr ⟨_, _, _, l, rfl, rfl, b, r⟩⟩
theorem src_mk {K : PySem.W.Frag} {h : Heap} {mg : Str → Option Value} {x : Str} {st : Stmt} {od an : Option Addr} {sl : Array (Option Value)} {oc kV dc pm cd ct : Value} {f : Addr} (X : K.In h) (G : h.Ns mainGlobals mg) (a : PySem.W.nsIn K mainGlobals x = some (some (.ref f)))
    (l : K.lookup f = some ⟨oc, od, .func (PySem.W.fnOf x x (defArgs st) (defBody st) (defScope st) .none kV dc pm an cd ct), sl⟩) (c : PySem.W.codeIn K cd x = true) (k : PySem.W.keepIn K (.ref f) = true) : Src K mg x st := ⟨_, _, fun_mk l c k, PySem.W.mg_of X G a⟩
theorem tw_mk {K : PySem.W.Frag} {t : Addr} {vs : List V} {n2 : Nat} {od : Option Addr} {sl : Array (Option Value)} {us : Array Value} (lt : K.lookup t = some ⟨.type "tuple", od, .seq us n2, sl⟩) (b : us.size ≤ sizeLine) (r : Vals vs us.toList) : ∀ H : Hp, SqT K H t vs := fun _ => .inr ⟨_, _, _, lt, rfl, rfl, b, r⟩
def TupW (K : PySem.W.Frag) (mg : Str → Option Value) (x : Str) (vs : List V) : Prop := ∃ t, mg x = some (.ref t) ∧ ∀ H : Hp, SqT K H t vs
structure Tops (w : World) (K : PySem.W.Frag) (mg : Str → Option Value) : Prop where
  s_leads_of : Src K mg "leads_of" (top 15)
  s_joined_by : Src K mg "joined_by" (top 18)
  s_all_of : Src K mg "all_of" (top 19)
  s_any_of : Src K mg "any_of" (top 20)
  s_refuse_no_nodes : Src K mg "refuse_no_nodes" (top 23)
  s_led_anew : Src K mg "led_anew" (top 24)
  s_with_nodes : Src K mg "with_nodes" (top 25)
  s_boxes_same : Src K mg "boxes_same" (top 26)
  s_all_same : Src K mg "all_same" (top 27)
  s_level_entry : Src K mg "level_entry" (top 28)
  s_split_node : Src K mg "split_node" (top 29)
  s_told_over : Src K mg "told_over" (top 30)
  s_names_box : Src K mg "names_box" (top 31)
  s_refuse_exchange : Src K mg "refuse_exchange" (top 32)
  s_exchanged_puts : Src K mg "exchanged_puts" (top 33)
  s_between_puts : Src K mg "between_puts" (top 34)
  s_put_made : Src K mg "put_made" (top 35)
  s_small_sum : Src K mg "small_sum" (top 36)
  s_small_part : Src K mg "small_part" (top 37)
  s_parts_of : Src K mg "parts_of" (top 38)
  s_law_next : Src K mg "_law_next" (top 40)
  s_law_pots : Src K mg "_law_pots" (top 41)
  s_law_some_boxes : Src K mg "_law_some_boxes" (top 42)
  s_law_any_sum : Src K mg "_law_any_sum" (top 43)
  s_law_any_condition : Src K mg "_law_any_condition" (top 44)
  s_law_one_node : Src K mg "_law_one_node" (top 45)
  s_law_some_program : Src K mg "_law_some_program" (top 46)
  s_law_copy : Src K mg "_law_copy" (top 47)
  s_law_led : Src K mg "_law_led" (top 48)
  s_law_plant : Src K mg "_law_plant" (top 49)
  s_law_refused : Src K mg "_law_refused" (top 50)
  s_law_no_node : Src K mg "_law_no_node" (top 51)
  s_law_deep : Src K mg "_law_deep" (top 52)
  s_law_spoilt : Src K mg "_law_spoilt" (top 53)
  s_law_no_change : Src K mg "_law_no_change" (top 54)
  s_law : Src K mg "law" (top 55)
  c_PARTED : TupC K mg "PARTED" ["plus", "less", "same", "under", "not", "both"]
  c_YES : TupC K mg "YES" ["yes"]
  c_NOUGHT : TupW K mg "NOUGHT" [.str "number", .int 0]
  cl : ∃ T cNoNode cNoChange dNoForm dNoneYet dNoPair dNoPaper dNoPicks dNoProgram dNoRow dNoWorths dTooMany, Rfs K mg T cNoNode cNoChange dNoForm dNoneYet dNoPair dNoPaper dNoPicks dNoProgram dNoRow dNoWorths dTooMany
  m_len : mg "len" = none
  m_list : mg "list" = none
  m_range : mg "range" = none
  m_dict : mg "dict" = none
  m_int : mg "int" = none
  m_isinstance : mg "isinstance" = none
  m_tuple : mg "tuple" = none
  m_max : mg "max" = none
  m_min : mg "min" = none
  m_enumerate : mg "enumerate" = none
  m_any : mg "any" = none
  m_ValueError : mg "ValueError" = none
end TW
namespace TW
open PySem L2
section
variable {P : Program} {w : World} {K : PySem.W.Frag} {mg : Str → Option Value} {base : Heap}
abbrev sSpX : Stmt := top 29
abbrev sToX : Stmt := top 30
abbrev sRefd : Stmt := top 50
theorem off {X : Cx} {rest : List Stmt} : L3.SL X rest (fun _ _ _ => False) := ⟨fun _ _ _ _ _ _ h => h.elim⟩
theorem scSpX : FnScope ["program", "node", "named", "nodes", "same", "copied", "told", "number", "old", "leads", "paper"] ["program", "node", "named"] (defScope sSpX) := ⟨rfl, rfl, rfl, by decide +kernel, rfl, by decide +kernel, by decide +kernel⟩
theorem gSpX_refuse_no_nodes : GLB sSpX "refuse_no_nodes" := by decide +kernel
theorem scToX : FnScope ["program", "head", "times", "many", "same", "told", "paper", "turn", "own", "behind", "place", "node", "leads"] ["program", "head", "times"] (defScope sToX) := ⟨rfl, rfl, rfl, by decide +kernel, rfl, by decide +kernel, by decide +kernel⟩
theorem gToX_refuse_no_nodes : GLB sToX "refuse_no_nodes" := by decide +kernel
def spSpX (C : Addr) : Sp := fun vs H Q X => ∃ (p l B I N : Addr) (vn : List V) (nd : Int) (named : List Int), vs = [.ref p, .int nd, .ref l] ∧ H p = some (.tup [.ref B, .ref I, .ref N]) ∧ H N = some (.lst vn) ∧ H l = some (.lst (named.map V.int)) ∧ named.length ≤ 900 ∧ (∀ h ∈ nd :: named, h.natAbs.log2 < 1920) ∧ ¬ (∀ h ∈ nd :: named, 0 ≤ h ∧ h < (vn.length : Int)) ∧ ∀ H', Same H H' → X (.ref C) none H'
def spToX (C : Addr) : Sp := fun vs H Q X => ∃ (p B I N : Addr) (vn : List V) (nd : Int) (k : V), vs = [.ref p, .int nd, k] ∧ H p = some (.tup [.ref B, .ref I, .ref N]) ∧ H N = some (.lst vn) ∧ nd.natAbs.log2 < 1920 ∧ ¬ (0 ≤ nd ∧ nd < (vn.length : Int)) ∧ ∀ H', Same H H' → X (.ref C) none H'
theorem ok_spX {C : Addr} {f : Addr} {fd : FuncData} (F : Fun K "split_node" "split_node" sSpX f fd) (RN : HasX P w K mg base "refuse_no_nodes" ["program", "numbers"] 1 (spRNX C)) : FnOk P w K mg base (CX1 P w base) 2 f fd ["program", "node", "named"] (spSpX C) := by
  refine F.okX scSpX (fun vs H Q E h => ?_) (fun cdv A outer s H vs Q E hr h => ?_)
  · obtain ⟨p, l, B, I, N, vn, nd, named, rfl, _⟩ := h
    rfl
  · obtain ⟨p, l, B, I, N, vn, nd, named, rfl, hp, hN, hl, nl, lg, no, qx⟩ := h
    refine goL ⟨_, (L3.cons (L3.ex (L3.ownX passX RN hr gSpX_refuse_no_nodes (L3.k (L3.v 0) (L3.k (L3.op L3.o_cat (L3.lst (L3.k (L3.v 1) L3.n)) (L3.v 2)) L3.n)))) off), ?_⟩
    refine ⟨_, rfl, _, rfl, (by show 1 ≤ sizeLine; decide), fun l1 hl1 => ?_⟩
    have s1 := same_new hl1 (.lst [.int nd])
    have g1 : (upd H l1 (.lst [.int nd])) l1 = some (.lst [.int nd]) := upd_same
    generalize upd H l1 (.lst [.int nd]) = H1 at s1 g1 ⊢
    have big : 1000 ≤ sizeLine := by decide
    refine ⟨_, rfl, l1, l, _, _, rfl, rfl, g1, s1 _ _ hl, (by rw [List.length_map]; show 1 + _ ≤ _; omega), fun l2 hl2 => ?_⟩
    have s2 := same_new hl2 (.lst ([.int nd] ++ named.map V.int))
    have g2 : (upd H1 l2 (.lst ([.int nd] ++ named.map V.int))) l2 = some (.lst ((nd :: named).map V.int)) := upd_same
    generalize upd H1 l2 (.lst ([.int nd] ++ named.map V.int)) = H2 at s2 g2 ⊢
    have s12 := same_trans s1 s2
    exact ⟨p, l2, B, I, N, vn, nd :: named, rfl, s12 _ _ hp, s12 _ _ hN, g2, lg, fun z => absurd z no, fun _ => qx _ s12⟩
theorem has_spX {C : Addr} (s : Src K mg "split_node" sSpX) (RN : HasX P w K mg base "refuse_no_nodes" ["program", "numbers"] 1 (spRNX C)) : HasX P w K mg base "split_node" ["program", "node", "named"] 2 (spSpX C) :=
  let ⟨f, fd, F, m⟩ := s
  ⟨f, fd, ok_spX F RN, F.kp, bnd3 F fun _ _ _ _ _ _ _ _ _ => rfl, m⟩
theorem ok_toX {C : Addr} {f : Addr} {fd : FuncData} (F : Fun K "told_over" "told_over" sToX f fd) (RN : HasX P w K mg base "refuse_no_nodes" ["program", "numbers"] 1 (spRNX C)) : FnOk P w K mg base (CX1 P w base) 2 f fd ["program", "head", "times"] (spToX C) := by
  refine F.okX scToX (fun vs H Q E h => ?_) (fun cdv A outer s H vs Q E hr h => ?_)
  · obtain ⟨p, B, I, N, vn, nd, k, rfl, _⟩ := h
    rfl
  · obtain ⟨p, B, I, N, vn, nd, k, rfl, hp, hN, lg, no, qx⟩ := h
    refine goL ⟨_, (L3.cons (L3.ex (L3.ownX passX RN hr gToX_refuse_no_nodes (L3.k (L3.v 0) (L3.k (L3.lst (L3.k (L3.v 1) L3.n)) L3.n)))) off), ?_⟩
    refine ⟨_, rfl, _, rfl, (by show 1 ≤ sizeLine; decide), fun l1 hl1 => ?_⟩
    have s1 := same_new hl1 (.lst [.int nd])
    have g1 : (upd H l1 (.lst [.int nd])) l1 = some (.lst ([nd].map V.int)) := upd_same
    generalize upd H l1 (.lst [.int nd]) = H1 at s1 g1 ⊢
    exact ⟨p, l1, B, I, N, vn, [nd], rfl, s1 _ _ hp, s1 _ _ hN, g1, (fun h hh => by rw [List.mem_singleton.mp hh]; exact lg), fun z => absurd (z nd (List.mem_singleton.mpr rfl)) no, fun _ => qx _ s1⟩
theorem has_toX {C : Addr} (s : Src K mg "told_over" sToX) (RN : HasX P w K mg base "refuse_no_nodes" ["program", "numbers"] 1 (spRNX C)) : HasX P w K mg base "told_over" ["program", "head", "times"] 2 (spToX C) :=
  let ⟨f, fd, F, m⟩ := s
  ⟨f, fd, ok_toX F RN, F.kp, bnd3 F fun _ _ _ _ _ _ _ _ _ => rfl, m⟩
theorem scRefd : FnScope ["way", "program", "node", "named", "told", "e", "others"] ["way", "program", "node", "named"] (defScope sRefd) := ⟨rfl, rfl, rfl, by decide +kernel, rfl, by decide +kernel, by decide +kernel⟩
theorem gRefd_NoChange : GLB sRefd "NoChange" := by decide +kernel
theorem gRefd_NoForm : GLB sRefd "NoForm" := by decide +kernel
theorem gRefd_NoNode : GLB sRefd "NoNode" := by decide +kernel
theorem gRefd_NoPair : GLB sRefd "NoPair" := by decide +kernel
theorem gRefd_NoPaper : GLB sRefd "NoPaper" := by decide +kernel
theorem gRefd_NoPicks : GLB sRefd "NoPicks" := by decide +kernel
theorem gRefd_NoProgram : GLB sRefd "NoProgram" := by decide +kernel
theorem gRefd_NoRow : GLB sRefd "NoRow" := by decide +kernel
theorem gRefd_NoWorths : GLB sRefd "NoWorths" := by decide +kernel
theorem gRefd_NoneYet : GLB sRefd "NoneYet" := by decide +kernel
theorem gRefd_TooMany : GLB sRefd "TooMany" := by decide +kernel
theorem gRefd_TwinError : GLB sRefd "TwinError" := by decide +kernel
theorem gRefd_ValueError : GLB sRefd "ValueError" := by decide +kernel
theorem gRefd_exchanged_puts : GLB sRefd "exchanged_puts" := by decide +kernel
theorem gRefd_int : GLB sRefd "int" := by decide +kernel
theorem gRefd_isinstance : GLB sRefd "isinstance" := by decide +kernel
theorem gRefd_split_node : GLB sRefd "split_node" := by decide +kernel
theorem gRefd_told_over : GLB sRefd "told_over" := by decide +kernel
structure PgX (H : Hp) (p : Addr) (bs : List (Str × Int)) (nds : List Np) : Prop where
  ex : ∃ (B I N : Addr) (vb vn : List V) (ins : List Str), H p = some (.tup [.ref B, .ref I, .ref N]) ∧ H B = some (.lst vb) ∧ H I = some (.lst (ins.map V.str)) ∧ H N = some (.lst vn) ∧ Paired (BoxAt H) vb bs ∧ Paired (NpAt H) vn nds
  b4 : bs.length ≤ 4
  sz : ∀ b ∈ bs, 1 ≤ b.2 ∧ b.2 ≤ 16
  n9 : nds.length ≤ 900
  ld : ∀ e ∈ nds, ∀ b ∈ e.leads, 0 ≤ b ∧ b < (nds.length : Int)
  po : ∀ e ∈ nds, ∀ x s n, e = .put x s n → PutOk (bs.map (·.1)) x s
def spRefd : Sp := fun vs H Q _ => ∃ (way nd : Int) (p l : Addr) (bs : List (Str × Int)) (nds : List Np) (named : List Int), vs = [.int way, .ref p, .int nd, .ref l] ∧ PgX H p bs nds ∧ H l = some (.lst (named.map V.int)) ∧ named.length ≤ 900 ∧ (∀ h ∈ nd :: named, h.natAbs.log2 < 1920) ∧
  ((way < 2 ∧ ¬ (∀ h ∈ nd :: named, 0 ≤ h ∧ h < (nds.length : Int)) ∧ ∀ H', Same H H' → Q (.int 1) H') ∨ (way = 2 ∧ ¬ (0 ≤ nd ∧ nd < (nds.length : Int)) ∧ ∀ H', Same H H' → Q (.int 1) H') ∨
   (way = 3 ∧ (¬ (0 ≤ nd ∧ nd < (nds.length : Int)) → ∀ H', Same H H' → Q (.int 1) H') ∧ (0 ≤ nd → nd < (nds.length : Int) → ¬ ExOk nds nd.toNat → ∀ H', Same H H' → Q (.int 2) H') ∧ (0 ≤ nd → nd < (nds.length : Int) → ExOk nds nd.toNat → ∀ H', Same H H' → Q (.int 0) H')))
theorem ok_refd {T cNoNode cNoChange dNoForm dNoneYet dNoPair dNoPaper dNoPicks dNoProgram dNoRow dNoWorths dTooMany : Addr} {f : Addr} {fd : FuncData} (F : Fun K "_law_refused" "_law_refused" sRefd f fd) (R : Rfs K mg T cNoNode cNoChange dNoForm dNoneYet dNoPair dNoPaper dNoPicks dNoProgram dNoRow dNoWorths dTooMany) (m_isinstance : mg "isinstance" = none) (m_ValueError : mg "ValueError" = none) (m_int : mg "int" = none) (SN0 : HasX P w K mg base "split_node" ["program", "node", "named"] 2 (spSpX cNoNode)) (TO0 : HasX P w K mg base "told_over" ["program", "head", "times"] 2 (spToX cNoNode)) (EX : HasX P w K mg base "exchanged_puts" ["program", "node"] 43 (spExP cNoNode cNoChange)) : FnOk P w K mg base CX0 44 f fd ["way", "program", "node", "named"] spRefd := by
 refine F.ok scRefd (fun vs H Q E h => ?_) (fun cdv A outer s H vs Q E hr h => ?_)
 · obtain ⟨way, nd, p, l, bs, nds, named, rfl, _⟩ := h
   rfl
 obtain ⟨way, nd, p, l, bs, nds, named, rfl, pg, hl, nl, lg, cs⟩ := h
 obtain ⟨B, I, N, vb, vn, ins, hp, hB, hI, hN, pb, pn⟩ := pg.ex
 have vnl := Paired.length pn
 have SN := SN0.mono (show 2 ≤ 43 by omega)
 have TO := TO0.mono (show 2 ≤ 43 by omega)
 refine goL ⟨_, (L3.cons (L3.set 4 scRefd.nd L3.int)
   (L3.cons (L3.try2 5 scRefd.nd R.t gRefd_TwinError (fun W pn Ex hp => (L3.one (L3.ifs (L3.cmp L3.o_lt (L3.v 0) L3.int) (L3.one (L3.ex (L3.ownX hp SN hr gRefd_split_node (L3.k (L3.v 1) (L3.k (L3.v 2) (L3.k (L3.v 3) L3.n)))))) (L3.one (L3.ifs (L3.cmp L3.o_eq (L3.v 0) L3.int) (L3.one (L3.ex (L3.ownX hp TO hr gRefd_told_over (L3.k (L3.v 1) (L3.k (L3.v 2) (L3.k L3.int L3.n)))))) (L3.one (L3.ex (L3.ownX hp EX hr gRefd_exchanged_puts (L3.k (L3.v 1) (L3.k (L3.v 2) L3.n)))))))))) (fun ea => (L3.cons (L3.set 6 scRefd.nd (L3.callB L3.c_isX gRefd_isinstance m_isinstance (by decide +kernel) (L3.k (L3.v 5) (L3.k (L3.tup (L3.k (L3.glob (w := .ref dNoForm) gRefd_NoForm R.m_NoForm rfl) (L3.k (L3.glob (w := .ref dNoneYet) gRefd_NoneYet R.m_NoneYet rfl) (L3.k (L3.glob (w := .ref dNoPair) gRefd_NoPair R.m_NoPair rfl) (L3.k (L3.glob (w := .ref dNoPaper) gRefd_NoPaper R.m_NoPaper rfl) (L3.k (L3.glob (w := .ref dNoPicks) gRefd_NoPicks R.m_NoPicks rfl) (L3.k (L3.glob (w := .ref dNoProgram) gRefd_NoProgram R.m_NoProgram rfl) (L3.k (L3.glob (w := .ref dNoRow) gRefd_NoRow R.m_NoRow rfl) (L3.k (L3.glob (w := .ref dNoWorths) gRefd_NoWorths R.m_NoWorths rfl) (L3.k (L3.glob (w := .ref dTooMany) gRefd_TooMany R.m_TooMany rfl) L3.n)))))))))) L3.n))))
   (L3.cons (L3.set 4 scRefd.nd (L3.op L3.o_add (L3.callT L3.c_int gRefd_int m_int (by decide +kernel) (L3.k (L3.callB L3.c_isX gRefd_isinstance m_isinstance (by decide +kernel) (L3.k (L3.v 5) (L3.k (L3.glob (w := .ref cNoNode) gRefd_NoNode R.x_NoNode.m rfl) L3.n))) L3.n)) (L3.op L3.o_mul L3.int (L3.callT L3.c_int gRefd_int m_int (by decide +kernel) (L3.k (L3.callB L3.c_isX gRefd_isinstance m_isinstance (by decide +kernel) (L3.k (L3.v 5) (L3.k (L3.glob (w := .ref cNoChange) gRefd_NoChange R.x_NoChange.m rfl) L3.n))) L3.n)))))
   (L3.one (L3.set 4 scRefd.nd (L3.op L3.o_add (L3.v 4) (L3.op L3.o_mul L3.int (L3.callT L3.c_int gRefd_int m_int (by decide +kernel) (L3.k (L3.orE2 (L3.v 6) (L3.oneE (L3.ntE (L3.callB L3.c_isX gRefd_isinstance m_isinstance (by decide +kernel) (L3.k (L3.v 5) (L3.k (L3.bltn (w := .ty "ValueError") gRefd_ValueError m_ValueError (by decide +kernel) rfl) L3.n)))))) L3.n))))))))))
   (L3.one (L3.ret (L3.v 4))))), ?_⟩
 refine cut1 fun Rk0 kR0 => ?_
 refine gn_go ?_
 refine kR0 _ _ ?_
 refine normS [some (.int way), some (.ref p), some (.int nd), some (.ref l), some (.int 0), none, none] rfl ?_
 refine cut1 fun Rk0 kR0 => ?_
 refine ⟨_, rfl, _, _, rfl, rfl, _, rfl, ?_⟩
 rcases cs with ⟨w2, no, qq⟩ | ⟨rfl, no, qq⟩ | ⟨rfl, q1, q2, q0⟩
 · refine iteT' (decide_eq_true w2) ?_
   refine ⟨_, rfl, _, rfl, _, rfl, p, l, B, I, N, vn, nd, named, rfl, hp, hN, hl, nl, lg, by rw [vnl]; exact no, fun H3 s3 => ?_⟩
   refine ⟨_, _, _, rfl, R.x_NoNode, (by simp), fun ea hea => ?_⟩
   obtain ⟨h0, eh0⟩ : ∃ h0, h0 = upd H3 ea (exO ea cNoNode) := ⟨_, rfl⟩
   have E0 : h0 ea = some (exO ea cNoNode) := by rw [eh0]; exact upd_same
   have sh0 : Same H3 h0 := by rw [eh0]; exact same_new hea _
   rw [← eh0]
   refine normS [none, none, none, none, none, some (.ref ea), none] rfl ?_
   refine cut1 fun Rk kR => ?_
   refine ⟨_, rfl, (by show 9 ≤ sizeLine; decide), fun tp htp => ?_⟩
   have s1 := same_new htp (.tup [.ref dNoForm, .ref dNoneYet, .ref dNoPair, .ref dNoPaper, .ref dNoPicks, .ref dNoProgram, .ref dNoRow, .ref dNoWorths, .ref dTooMany])
   have g1 : (upd h0 tp (.tup [.ref dNoForm, .ref dNoneYet, .ref dNoPair, .ref dNoPaper, .ref dNoPicks, .ref dNoProgram, .ref dNoRow, .ref dNoWorths, .ref dTooMany])) tp = some (.tup ([dNoForm, dNoneYet, dNoPair, dNoPaper, dNoPicks, dNoProgram, dNoRow, dNoWorths, dTooMany].map V.ref)) := upd_same
   generalize upd h0 tp (.tup [.ref dNoForm, .ref dNoneYet, .ref dNoPair, .ref dNoPaper, .ref dNoPicks, .ref dNoProgram, .ref dNoRow, .ref dNoWorths, .ref dTooMany]) = h1 at s1 g1 ⊢
   have E1 := s1 _ _ E0
   refine ⟨ea, cNoNode, false, E1, R.k_NoNode, .inr (.inr ⟨tp, [dNoForm, dNoneYet, dNoPair, dNoPaper, dNoPicks, dNoProgram, dNoRow, dNoWorths, dTooMany], rfl, g1, R.o_NoNode⟩), ?_⟩
   refine gn_go ?_
   refine kR _ _ ?_
   clear kR
   refine normS [none, none, none, none, none, some (.ref ea), some (.bl false)] rfl ?_
   refine cut1 fun Rk kR => ?_
   refine ⟨_, rfl, ea, cNoNode, true, E1, R.k_NoNode, .inl ⟨_, rfl, R.i_NoNode_NoNode⟩, .inr ⟨_, rfl, _, rfl, ea, cNoNode, false, E1, R.k_NoNode, .inl ⟨_, rfl, R.i_NoNode_NoChange⟩, .inr ⟨_, rfl, _, _, rfl, rfl, .inl ⟨by decide, by decide⟩, _, _, rfl, rfl, ?_⟩⟩⟩
   refine gn_go ?_
   refine kR _ _ ?_
   clear kR
   refine normS [none, none, none, none, some (.int 1), some (.ref ea), some (.bl false)] rfl ?_
   refine ⟨_, rfl, _, rfl, _, rfl, iteF' rfl ⟨_, rfl, ea, cNoNode, true, E1, R.k_NoNode, .inr (.inl ⟨_, rfl, R.v_NoNode⟩), true, rfl, .inr ⟨_, rfl, _, _, rfl, rfl, .inl ⟨by decide, by decide⟩, _, _, rfl, rfl, ?_⟩⟩⟩
   refine gn_go ?_
   refine kR0 _ _ ?_
   exact ⟨_, rfl, qq _ (same_trans s3 (same_trans sh0 s1))⟩
 · refine iteF' (by decide) ?_
   refine ⟨_, rfl, rfl, _, rfl, iteT' (by decide) ?_⟩
   refine ⟨_, rfl, _, rfl, p, B, I, N, vn, nd, _, rfl, hp, hN, lg nd (List.mem_cons.mpr (.inl rfl)), by rw [vnl]; exact no, fun H3 s3 => ?_⟩
   refine ⟨_, _, _, rfl, R.x_NoNode, (by simp), fun ea hea => ?_⟩
   obtain ⟨h0, eh0⟩ : ∃ h0, h0 = upd H3 ea (exO ea cNoNode) := ⟨_, rfl⟩
   have E0 : h0 ea = some (exO ea cNoNode) := by rw [eh0]; exact upd_same
   have sh0 : Same H3 h0 := by rw [eh0]; exact same_new hea _
   rw [← eh0]
   refine normS [none, none, none, none, none, some (.ref ea), none] rfl ?_
   refine cut1 fun Rk kR => ?_
   refine ⟨_, rfl, (by show 9 ≤ sizeLine; decide), fun tp htp => ?_⟩
   have s1 := same_new htp (.tup [.ref dNoForm, .ref dNoneYet, .ref dNoPair, .ref dNoPaper, .ref dNoPicks, .ref dNoProgram, .ref dNoRow, .ref dNoWorths, .ref dTooMany])
   have g1 : (upd h0 tp (.tup [.ref dNoForm, .ref dNoneYet, .ref dNoPair, .ref dNoPaper, .ref dNoPicks, .ref dNoProgram, .ref dNoRow, .ref dNoWorths, .ref dTooMany])) tp = some (.tup ([dNoForm, dNoneYet, dNoPair, dNoPaper, dNoPicks, dNoProgram, dNoRow, dNoWorths, dTooMany].map V.ref)) := upd_same
   generalize upd h0 tp (.tup [.ref dNoForm, .ref dNoneYet, .ref dNoPair, .ref dNoPaper, .ref dNoPicks, .ref dNoProgram, .ref dNoRow, .ref dNoWorths, .ref dTooMany]) = h1 at s1 g1 ⊢
   have E1 := s1 _ _ E0
   refine ⟨ea, cNoNode, false, E1, R.k_NoNode, .inr (.inr ⟨tp, [dNoForm, dNoneYet, dNoPair, dNoPaper, dNoPicks, dNoProgram, dNoRow, dNoWorths, dTooMany], rfl, g1, R.o_NoNode⟩), ?_⟩
   refine gn_go ?_
   refine kR _ _ ?_
   clear kR
   refine normS [none, none, none, none, none, some (.ref ea), some (.bl false)] rfl ?_
   refine cut1 fun Rk kR => ?_
   refine ⟨_, rfl, ea, cNoNode, true, E1, R.k_NoNode, .inl ⟨_, rfl, R.i_NoNode_NoNode⟩, .inr ⟨_, rfl, _, rfl, ea, cNoNode, false, E1, R.k_NoNode, .inl ⟨_, rfl, R.i_NoNode_NoChange⟩, .inr ⟨_, rfl, _, _, rfl, rfl, .inl ⟨by decide, by decide⟩, _, _, rfl, rfl, ?_⟩⟩⟩
   refine gn_go ?_
   refine kR _ _ ?_
   clear kR
   refine normS [none, none, none, none, some (.int 1), some (.ref ea), some (.bl false)] rfl ?_
   refine ⟨_, rfl, _, rfl, _, rfl, iteF' rfl ⟨_, rfl, ea, cNoNode, true, E1, R.k_NoNode, .inr (.inl ⟨_, rfl, R.v_NoNode⟩), true, rfl, .inr ⟨_, rfl, _, _, rfl, rfl, .inl ⟨by decide, by decide⟩, _, _, rfl, rfl, ?_⟩⟩⟩
   refine gn_go ?_
   refine kR0 _ _ ?_
   exact ⟨_, rfl, qq _ (same_trans s3 (same_trans sh0 s1))⟩
 · refine iteF' (by decide) ?_
   refine ⟨_, rfl, rfl, _, rfl, iteF' (by decide) ?_⟩
   refine ⟨_, rfl, _, rfl, p, B, I, N, vb, vn, bs, ins, nds, nd, rfl, lg nd (List.mem_cons.mpr (.inl rfl)), hp, hB, hI, hN, pb, pn, pg.b4, pg.sz, pg.n9, pg.ld, pg.po, fun no H3 s3 => ?_, fun n0 n1 no H3 s3 => ?_, fun n0 n1 ex v H3 s3 => ?_⟩
   · refine ⟨_, _, _, rfl, R.x_NoNode, (by simp), fun ea hea => ?_⟩
     obtain ⟨h0, eh0⟩ : ∃ h0, h0 = upd H3 ea (exO ea cNoNode) := ⟨_, rfl⟩
     have E0 : h0 ea = some (exO ea cNoNode) := by rw [eh0]; exact upd_same
     have sh0 : Same H3 h0 := by rw [eh0]; exact same_new hea _
     rw [← eh0]
     refine normS [none, none, none, none, none, some (.ref ea), none] rfl ?_
     refine cut1 fun Rk kR => ?_
     refine ⟨_, rfl, (by show 9 ≤ sizeLine; decide), fun tp htp => ?_⟩
     have s1 := same_new htp (.tup [.ref dNoForm, .ref dNoneYet, .ref dNoPair, .ref dNoPaper, .ref dNoPicks, .ref dNoProgram, .ref dNoRow, .ref dNoWorths, .ref dTooMany])
     have g1 : (upd h0 tp (.tup [.ref dNoForm, .ref dNoneYet, .ref dNoPair, .ref dNoPaper, .ref dNoPicks, .ref dNoProgram, .ref dNoRow, .ref dNoWorths, .ref dTooMany])) tp = some (.tup ([dNoForm, dNoneYet, dNoPair, dNoPaper, dNoPicks, dNoProgram, dNoRow, dNoWorths, dTooMany].map V.ref)) := upd_same
     generalize upd h0 tp (.tup [.ref dNoForm, .ref dNoneYet, .ref dNoPair, .ref dNoPaper, .ref dNoPicks, .ref dNoProgram, .ref dNoRow, .ref dNoWorths, .ref dTooMany]) = h1 at s1 g1 ⊢
     have E1 := s1 _ _ E0
     refine ⟨ea, cNoNode, false, E1, R.k_NoNode, .inr (.inr ⟨tp, [dNoForm, dNoneYet, dNoPair, dNoPaper, dNoPicks, dNoProgram, dNoRow, dNoWorths, dTooMany], rfl, g1, R.o_NoNode⟩), ?_⟩
     refine gn_go ?_
     refine kR _ _ ?_
     clear kR
     refine normS [none, none, none, none, none, some (.ref ea), some (.bl false)] rfl ?_
     refine cut1 fun Rk kR => ?_
     refine ⟨_, rfl, ea, cNoNode, true, E1, R.k_NoNode, .inl ⟨_, rfl, R.i_NoNode_NoNode⟩, .inr ⟨_, rfl, _, rfl, ea, cNoNode, false, E1, R.k_NoNode, .inl ⟨_, rfl, R.i_NoNode_NoChange⟩, .inr ⟨_, rfl, _, _, rfl, rfl, .inl ⟨by decide, by decide⟩, _, _, rfl, rfl, ?_⟩⟩⟩
     refine gn_go ?_
     refine kR _ _ ?_
     clear kR
     refine normS [none, none, none, none, some (.int 1), some (.ref ea), some (.bl false)] rfl ?_
     refine ⟨_, rfl, _, rfl, _, rfl, iteF' rfl ⟨_, rfl, ea, cNoNode, true, E1, R.k_NoNode, .inr (.inl ⟨_, rfl, R.v_NoNode⟩), true, rfl, .inr ⟨_, rfl, _, _, rfl, rfl, .inl ⟨by decide, by decide⟩, _, _, rfl, rfl, ?_⟩⟩⟩
     refine gn_go ?_
     refine kR0 _ _ ?_
     exact ⟨_, rfl, q1 no _ (same_trans s3 (same_trans sh0 s1))⟩
   · refine ⟨_, _, _, rfl, R.x_NoChange, (by simp), fun ea hea => ?_⟩
     obtain ⟨h0, eh0⟩ : ∃ h0, h0 = upd H3 ea (exO ea cNoChange) := ⟨_, rfl⟩
     have E0 : h0 ea = some (exO ea cNoChange) := by rw [eh0]; exact upd_same
     have sh0 : Same H3 h0 := by rw [eh0]; exact same_new hea _
     rw [← eh0]
     refine normS [none, none, none, none, none, some (.ref ea), none] rfl ?_
     refine cut1 fun Rk kR => ?_
     refine ⟨_, rfl, (by show 9 ≤ sizeLine; decide), fun tp htp => ?_⟩
     have s1 := same_new htp (.tup [.ref dNoForm, .ref dNoneYet, .ref dNoPair, .ref dNoPaper, .ref dNoPicks, .ref dNoProgram, .ref dNoRow, .ref dNoWorths, .ref dTooMany])
     have g1 : (upd h0 tp (.tup [.ref dNoForm, .ref dNoneYet, .ref dNoPair, .ref dNoPaper, .ref dNoPicks, .ref dNoProgram, .ref dNoRow, .ref dNoWorths, .ref dTooMany])) tp = some (.tup ([dNoForm, dNoneYet, dNoPair, dNoPaper, dNoPicks, dNoProgram, dNoRow, dNoWorths, dTooMany].map V.ref)) := upd_same
     generalize upd h0 tp (.tup [.ref dNoForm, .ref dNoneYet, .ref dNoPair, .ref dNoPaper, .ref dNoPicks, .ref dNoProgram, .ref dNoRow, .ref dNoWorths, .ref dTooMany]) = h1 at s1 g1 ⊢
     have E1 := s1 _ _ E0
     refine ⟨ea, cNoChange, false, E1, R.k_NoChange, .inr (.inr ⟨tp, [dNoForm, dNoneYet, dNoPair, dNoPaper, dNoPicks, dNoProgram, dNoRow, dNoWorths, dTooMany], rfl, g1, R.o_NoChange⟩), ?_⟩
     refine gn_go ?_
     refine kR _ _ ?_
     clear kR
     refine normS [none, none, none, none, none, some (.ref ea), some (.bl false)] rfl ?_
     refine cut1 fun Rk kR => ?_
     refine ⟨_, rfl, ea, cNoChange, false, E1, R.k_NoChange, .inl ⟨_, rfl, R.i_NoChange_NoNode⟩, .inr ⟨_, rfl, _, rfl, ea, cNoChange, true, E1, R.k_NoChange, .inl ⟨_, rfl, R.i_NoChange_NoChange⟩, .inr ⟨_, rfl, _, _, rfl, rfl, .inl ⟨by decide, by decide⟩, _, _, rfl, rfl, ?_⟩⟩⟩
     refine gn_go ?_
     refine kR _ _ ?_
     clear kR
     refine normS [none, none, none, none, some (.int 2), some (.ref ea), some (.bl false)] rfl ?_
     refine ⟨_, rfl, _, rfl, _, rfl, iteF' rfl ⟨_, rfl, ea, cNoChange, true, E1, R.k_NoChange, .inr (.inl ⟨_, rfl, R.v_NoChange⟩), true, rfl, .inr ⟨_, rfl, _, _, rfl, rfl, .inl ⟨by decide, by decide⟩, _, _, rfl, rfl, ?_⟩⟩⟩
     refine gn_go ?_
     refine kR0 _ _ ?_
     exact ⟨_, rfl, q2 n0 n1 no _ (same_trans s3 (same_trans sh0 s1))⟩
   · refine kR0 _ _ ?_
     exact ⟨_, rfl, q0 n0 n1 ex _ s3⟩
theorem has_refd {T cNoNode cNoChange dNoForm dNoneYet dNoPair dNoPaper dNoPicks dNoProgram dNoRow dNoWorths dTooMany : Addr} (s : Src K mg "_law_refused" sRefd) (R : Rfs K mg T cNoNode cNoChange dNoForm dNoneYet dNoPair dNoPaper dNoPicks dNoProgram dNoRow dNoWorths dTooMany) (m_isinstance : mg "isinstance" = none) (m_ValueError : mg "ValueError" = none) (m_int : mg "int" = none) (SN0 : HasX P w K mg base "split_node" ["program", "node", "named"] 2 (spSpX cNoNode)) (TO0 : HasX P w K mg base "told_over" ["program", "head", "times"] 2 (spToX cNoNode)) (EX : HasX P w K mg base "exchanged_puts" ["program", "node"] 43 (spExP cNoNode cNoChange)) : Has P w K mg base "_law_refused" ["way", "program", "node", "named"] 44 spRefd :=
  let ⟨f, fd, F, m⟩ := s
  ⟨f, fd, ok_refd F R m_isinstance m_ValueError m_int SN0 TO0 EX, F.kp, bnd4 F fun _ _ _ _ _ _ _ _ _ _ => rfl, m⟩
abbrev sNoN : Stmt := top 51
theorem et_all {K : PySem.W.Frag} {H : Hp} {n : Nat} {a b : Addr} {xs : List V} (ha : H a = some (.lst xs)) (hb : H b = some (.lst xs)) (h : ∀ x ∈ xs, flatV x = true ∨ ∃ c, x = .ref c) : ET K H (n + 1) (.ref a) (.ref b) := ET.lst (SqL.of ha) (SqL.of hb) rfl fun j x y hx hy => by
  rw [hx] at hy
  cases hy
  exact ET.refl (h x (List.mem_of_getElem? hx))
theorem paired_refs {α : Type} {R : V → α → Prop} (hr : ∀ v a, R v a → ∃ c, v = .ref c) : ∀ {xs : List V} {ys : List α}, Paired R xs ys → ∀ x ∈ xs, flatV x = true ∨ ∃ c, x = .ref c
  | _, _, .nil, _, h => nomatch h
  | _, _, .cons r t, x, h => by
    rcases List.mem_cons.mp h with rfl | h
    · exact .inr (hr _ _ r)
    · exact paired_refs hr t x h
theorem np_isref {H : Hp} : ∀ (v : V) (e : Np), NpAt H v e → ∃ c, v = .ref c
  | _, .put _ _ _, ⟨_, ⟨p, e, _⟩, _⟩ => ⟨p, e⟩
  | _, .say _ _, ⟨_, ⟨p, e, _⟩, _⟩ => ⟨p, e⟩
  | _, .test _ _ _, ⟨_, ⟨p, e, _⟩, _⟩ => ⟨p, e⟩
  | _, .pick _ _, ⟨p, e, _⟩ => ⟨p, e⟩
  | _, .fin, ⟨p, e, _⟩ => ⟨p, e⟩
theorem copy_rb {K : PySem.W.Frag} {H : Hp} {f p B I N B' I' N' : Addr} {vb vn : List V} {bs : List (Str × Int)} {ins : List Str} {nds : List Np} (hf : H f = some (.tup [.ref B, .ref I, .ref N])) (hp : H p = some (.tup [.ref B', .ref I', .ref N'])) (h1 : H B = some (.lst vb)) (h2 : H I = some (.lst (ins.map V.str))) (h3 : H N = some (.lst vn)) (k1 : H B' = some (.lst vb)) (k2 : H I' = some (.lst (ins.map V.str))) (k3 : H N' = some (.lst vn)) (pb : Paired (BoxAt H) vb bs) (pn : Paired (NpAt H) vn nds) : RB K H 1 (.ref f) (.ref p) true :=
  RB.tup (SqT.of hf) (SqT.of hp) rfl fun j x y hx hy => by
    match j, hx, hy with
    | 0, hx, hy => cases hx; cases hy; exact et_all h1 k1 (paired_refs (fun v a ⟨c, e, _⟩ => ⟨c, e⟩) pb)
    | 1, hx, hy => cases hx; cases hy; exact et_all h2 k2 (fun x hx => by obtain ⟨s, _, rfl⟩ := List.mem_map.mp hx; exact .inl rfl)
    | 2, hx, hy => cases hx; cases hy; exact et_all h3 k3 (paired_refs np_isref pn)
theorem lg_small {h : Int} (h0 : -(2 ^ 64) < h) (h1 : h < 2 ^ 64) : h.natAbs.log2 < 1920 := by
  by_cases c : h.natAbs = 0
  · rw [c]
    decide
  · have : h.natAbs < 2 ^ 64 := by omega
    have := (Nat.log2_lt c).mpr this
    omega
theorem pgx_of {r : Addr} {H : Hp} {p B I N : Addr} {vb vn : List V} {bs : List (Str × Int)} {ins : List Str} {nds : List Np} {most longest : Int} (hp : H p = some (.tup [.ref B, .ref I, .ref N])) (hB : H B = some (.lst vb)) (hI : H I = some (.lst (ins.map V.str))) (hN : H N = some (.lst vn)) (pb : Paired (BoxAt H) vb bs) (pn : Paired (NpAt H) vn nds) (ok : PgOk most longest bs ins nds) (lg : longest ≤ 40) : PgX H p bs nds :=
  ⟨⟨B, I, N, vb, vn, ins, hp, hB, hI, hN, pb, pn⟩, ok.bx.l4, ok.bx.sz, by have := ok.few; omega, fun e he => (ok.nd e he).ld, fun e he x s n z => by
    have k := ok.nd e he
    subst z
    have t1 := k.td (.box "box" x) (List.mem_cons.mpr (.inl rfl))
    have t2 := k.td s (List.mem_cons.mpr (.inr (List.mem_cons.mpr (.inl rfl))))
    exact ⟨t1.1.2, k.is, t2.1, by have := t2.2; omega⟩⟩
def spNoN : Sp := fun vs H Q _ => ∃ (r p B I N : Addr) (vb vn : List V) (bs : List (Str × Int)) (ins : List Str) (nds : List Np) (most longest : Int), vs = [.ref r, .ref p] ∧ Reel H r ∧ H p = some (.tup [.ref B, .ref I, .ref N]) ∧ PrD r H B I N vb vn bs ins nds ∧ PgOk most longest bs ins nds ∧ longest ≤ 40 ∧ ∀ H', Rl r H H' → Q (.bl true) H'
theorem scNoN : FnScope ["pot", "program", "many", "strange", "way", "node", "named", "given", "handed"] ["pot", "program"] (defScope sNoN) := ⟨rfl, rfl, rfl, by decide +kernel, rfl, by decide +kernel, by decide +kernel⟩
theorem gNoN_law_copy : GLB sNoN "_law_copy" := by decide +kernel
theorem gNoN_law_next : GLB sNoN "_law_next" := by decide +kernel
theorem gNoN_law_refused : GLB sNoN "_law_refused" := by decide +kernel
theorem gNoN_len : GLB sNoN "len" := by decide +kernel
theorem gNoN_list : GLB sNoN "list" := by decide +kernel
theorem gNoN_range : GLB sNoN "range" := by decide +kernel
theorem ok_noN {f : Addr} {fd : FuncData} (F : Fun K "_law_no_node" "_law_no_node" sNoN f fd) (m_len : mg "len" = none) (m_list : mg "list" = none) (m_range : mg "range" = none) (NX0 : Has P w K mg base "_law_next" ["pot", "many"] 1 spNext) (CP0 : Has P w K mg base "_law_copy" ["program"] 1 spCopy) (RF : Has P w K mg base "_law_refused" ["way", "program", "node", "named"] 44 spRefd) : FnOk P w K mg base CX0 45 f fd ["pot", "program"] spNoN := by
 refine F.ok scNoN (fun vs H Q E h => ?_) (fun cdv A outer s H vs Q E hr h => ?_)
 · obtain ⟨r, p, B, I, N, vb, vn, bs, ins, nds, most, longest, rfl, _⟩ := h
   rfl
 obtain ⟨r, p, B, I, N, vb, vn, bs, ins, nds, most, longest, rfl, hre, hp, pd, ok, lg, q⟩ := h
 have NX := NX0.mono (show 1 ≤ 44 by omega)
 have CP := CP0.mono (show 1 ≤ 44 by omega)
 have vnl := Paired.length pd.pn
 have n1 := ok.one
 have n40 : nds.length ≤ 40 := by have := ok.few; omega
 have bigp : (2000000000 : Int) < 2 ^ 110 := by decide
 have big : 1000 ≤ sizeLine := by decide
 refine goL ⟨_, (L3.cons (L3.set 2 scNoN.nd (L3.callB L3.c_len gNoN_len m_len PySem.boot_len (L3.k (L3.ix L3.ixT (L3.v 1) L3.int) L3.n)))
   (L3.cons (L3.set 3 scNoN.nd (L3.ix L3.ixL (L3.lst (L3.k (L3.v 2) (L3.k (L3.op L3.o_add (L3.v 2) (L3.own NX hr gNoN_law_next (L3.k (L3.v 0) (L3.k (L3.op L3.o_pow L3.int L3.int) L3.n)))) (L3.k (L3.neg L3.int) (L3.k (L3.op L3.o_sub (L3.neg L3.int) (L3.own NX hr gNoN_law_next (L3.k (L3.v 0) (L3.k (L3.op L3.o_pow L3.int L3.int) L3.n)))) (L3.k (L3.op L3.o_sub L3.int (L3.v 2)) L3.n)))))) (L3.own NX hr gNoN_law_next (L3.k (L3.v 0) (L3.k L3.int L3.n)))))
   (L3.cons (L3.set 4 scNoN.nd (L3.own NX hr gNoN_law_next (L3.k (L3.v 0) (L3.k L3.int L3.n))))
   (L3.cons (L3.set 5 scNoN.nd (L3.v 3))
   (L3.cons (L3.slc (i := 6) [none, some 0] ["number", "pot"] (show CompScope _ (defScope sNoN) from ⟨rfl, by decide +kernel, by decide +kernel, by decide +kernel⟩) (by rfl) (L3.iR gNoN_range m_range (L3.k (L3.v 2) L3.n)) (fun _ _ _ _ _ => ⟨(L3.gn 0 (show (["number", "pot"] : List Str).Nodup from by decide +kernel)), (L3.if1 (L3.cmp L3.o_eq (L3.own NX hr (by rfl) (L3.k (L3.v 1) (L3.k L3.int L3.n))) L3.int)), (L3.v 0)⟩) scNoN.nd)
   (L3.cons (L3.ifs (L3.cmp L3.o_eq (L3.v 4) L3.int) (L3.cons (L3.set 5 scNoN.nd (L3.own NX hr gNoN_law_next (L3.k (L3.v 0) (L3.k (L3.v 2) L3.n))))
   (L3.one (L3.ex (L3.insert (L3.v 6) (L3.k (L3.own NX hr gNoN_law_next (L3.k (L3.v 0) (L3.k (L3.op L3.o_add (L3.callB L3.c_len gNoN_len m_len PySem.boot_len (L3.k (L3.v 6) L3.n)) L3.int) L3.n))) (L3.k (L3.v 3) L3.n)))))) L3.nil)
   (L3.cons (L3.set 7 scNoN.nd (L3.own CP hr gNoN_law_copy (L3.k (L3.v 1) L3.n)))
   (L3.cons (L3.set 8 scNoN.nd (L3.callT L3.c_list gNoN_list m_list (by decide +kernel) (L3.k (L3.v 6) L3.n)))
   (L3.one (L3.ret (L3.andE2 (L3.cmpE L3.o_eq (L3.own RF hr gNoN_law_refused (L3.k (L3.v 4) (L3.k (L3.v 7) (L3.k (L3.v 5) (L3.k (L3.v 8) L3.n))))) L3.int) (L3.andE2 (L3.cmpE (L3.o_eqD (m := 1) (up_ne hr _ (by decide))) (L3.v 7) (L3.v 1)) (L3.oneE (L3.cmpE (L3.o_eqD (m := 1) (up_ne hr _ (by decide))) (L3.v 8) (L3.v 6))))))))))))))), ?_⟩
 refine cut1 fun Rk kR => ?_
 refine ⟨_, rfl, p, _, _, _, rfl, rfl, SqT.of hp, rfl, N, _, rfl, .inl (SqL.of pd.hN), ?_⟩
 rw [vnl]
 refine gn_go ?_
 refine kR _ _ ?_
 clear kR
 refine normS [some (.ref r), some (.ref p), some (.int (nds.length : Int)), none, none, none, none, none, none] rfl ?_
 refine cut1 fun Rk kR => ?_
 have e9 : (10 : Int) ^ (9 : Int).toNat = 1000000000 := by decide
 refine ⟨_, rfl, _, rfl, _, rfl, _, _, rfl, rfl, ⟨by decide, by decide, by decide⟩, r, 10 ^ (9 : Int).toNat, rfl, hre, by rw [e9]; decide, by rw [e9]; omega, fun a1 H1 a10 a11 l1 => ⟨_, _, rfl, rfl, _, rfl, _, rfl, _, rfl, _, _, rfl, rfl, ⟨by decide, by decide, by decide⟩, r, 10 ^ (9 : Int).toNat, rfl, l1.rl, by rw [e9]; decide, by rw [e9]; omega, fun a2 H2 a20 a21 l2 => ⟨_, _, rfl, rfl, _, rfl, _, _, rfl, rfl, (by show 5 ≤ sizeLine; decide), fun sl hsl => ?_⟩⟩⟩
 rw [e9] at a11 a21
 have l12 := l1.trans l2
 have slr := l12.rl.ne hsl
 obtain ⟨sv, esv⟩ : ∃ sv : List Int, sv = [(nds.length : Int), (nds.length : Int) + a1, -1, -1 - a2, 0 - (nds.length : Int)] := ⟨_, rfl⟩
 have gsl : (upd H2 sl (.lst [.int (nds.length : Int), .int ((nds.length : Int) + a1), .int (-1), .int (-1 - a2), .int (0 - (nds.length : Int))])) sl = some (.lst (sv.map V.int)) := by rw [upd_same, esv]; rfl
 have l3 : Rl r H2 (upd H2 sl (.lst [.int (nds.length : Int), .int ((nds.length : Int) + a1), .int (-1), .int (-1 - a2), .int (0 - (nds.length : Int))])) := Rl.new l12.rl hsl
 refine ⟨_, rfl, r, 5, rfl, l3.rl, by decide, by decide, fun k5 H4 k50 k51 l4' => ?_⟩
 have l04 := l12.trans (l3.trans l4')
 obtain ⟨stg, hst⟩ : ∃ stg, sv[k5.toNat]? = some stg := ⟨sv[k5.toNat]'(by rw [esv]; show k5.toNat < 5; omega), List.getElem?_eq_getElem _⟩
 have hat : atI (sv.map V.int) k5 = some (.int stg) := by
   have := atI_nat (xs := sv.map V.int) (j := k5.toNat) (v := .int stg) (by rw [List.getElem?_map, hst]; rfl)
   rw [Int.toNat_of_nonneg k50] at this
   exact this
 have sno : ¬ (0 ≤ stg ∧ stg < (nds.length : Int)) ∧ -2000000000 < stg ∧ stg < 2000000000 := by
   have hm := List.mem_of_getElem? hst
   rw [esv] at hm
   simp only [List.mem_cons, List.not_mem_nil, or_false] at hm
   omega
 refine ⟨sl, _, _, _, rfl, rfl, SqL.of (l4'.k _ _ slr gsl), hat, ?_⟩
 refine gn_go ?_
 refine kR _ _ ?_
 clear kR
 refine normS [some (.ref r), some (.ref p), some (.int (nds.length : Int)), some (.int stg), none, none, none, none, none] rfl ?_
 refine cut1 fun Rk kR => ?_
 refine ⟨_, rfl, r, 4, rfl, l04.rl, by decide, by decide, fun way H5 w0 w1 l5 => ?_⟩
 have l05 := l04.trans l5
 refine gn_go ?_
 refine kR _ _ ?_
 clear kR
 refine normS [some (.ref r), some (.ref p), some (.int (nds.length : Int)), some (.int stg), some (.int way), none, none, none, none] rfl ?_
 refine cut1 fun Rk kR => ?_
 refine ⟨_, rfl, ?_⟩
 refine gn_go ?_
 refine kR _ _ ?_
 clear kR
 refine normS [some (.ref r), some (.ref p), some (.int (nds.length : Int)), some (.int stg), some (.int way), some (.int stg), none, none, none] rfl ?_
 refine cut1 fun Rk kR => ?_
 refine ⟨_, rfl, (nds.length : Int), rfl, by omega, by omega, fun nm hnm => ?_⟩
 have nmr := l05.rl.ne hnm
 have nnm := l05.no nmr hnm
 rw [Int.toNat_natCast]
 refine comp_range (lo := 0) (n := nds.length) (fun (i : Nat) (Hx : Hp) => Rl r H5 Hx ∧ ∃ nam : List Int, Hx nm = some (.lst (nam.map V.int)) ∧ nam.length ≤ i ∧ ∀ h ∈ nam, 0 ≤ h ∧ h < (nds.length : Int)) ⟨Rl.new l05.rl hnm, [], upd_same, Nat.le_refl _, (fun h hh => nomatch hh)⟩ (fun i Hx hi zz => ?_) (fun H6 zz => ?_)
 · obtain ⟨lx, nam, gx, nal, nab⟩ := zz
   rw [Int.zero_add]
   refine gn_go ?_
   refine ⟨_, rfl, r, 3, rfl, lx.rl, by decide, by decide, fun k3 Hy k30 k31 ly => ⟨rfl, _, rfl, ?_⟩⟩
   have gy := ly.k _ _ nmr gx
   have lxy := lx.trans ly
   refine ite2 (fun _ => ?_) (fun _ => ?_)
   · refine ⟨_, rfl, _, gy, small1000 (by rw [List.length_map]; omega), comp_end (Pv := fun (i : Nat) (Hx : Hp) => Rl r H5 Hx ∧ ∃ nam : List Int, Hx nm = some (.lst (nam.map V.int)) ∧ nam.length ≤ i ∧ ∀ h ∈ nam, 0 ≤ h ∧ h < (nds.length : Int)) (by repeat' constructor) hi ⟨Rl.put lxy nmr hnm, nam ++ [(i : Int)], by rw [upd_same, List.map_append]; rfl, by rw [List.length_append]; show _ + 1 ≤ _; omega, fun h hh => ?_⟩⟩
     rcases List.mem_append.mp hh with w | w
     · exact nab h w
     · rw [List.mem_singleton.mp w]
       exact ⟨by omega, by omega⟩
   · exact comp_end (Pv := fun (i : Nat) (Hx : Hp) => Rl r H5 Hx ∧ ∃ nam : List Int, Hx nm = some (.lst (nam.map V.int)) ∧ nam.length ≤ i ∧ ∀ h ∈ nam, 0 ≤ h ∧ h < (nds.length : Int)) (by repeat' constructor) hi ⟨lxy, nam, gy, by omega, nab⟩
 obtain ⟨l6, nam, gnm, nal, nab⟩ := zz
 have l06 := l05.trans l6
 refine gn_go ?_
 refine kR _ _ ?_
 clear kR
 refine normS [some (.ref r), some (.ref p), some (.int (nds.length : Int)), some (.int stg), some (.int way), some (.int stg), some (.ref nm), none, none] rfl ?_
 refine cut1 fun Rk kR => ?_
 have fin : ∀ (nd : Int) (nam : List Int) (Hc : Hp), Rl r H Hc → Hc nm = some (.lst (nam.map V.int)) → nam.length ≤ 900 → (∀ h ∈ nd :: nam, h.natAbs.log2 < 1920) → (¬ (∀ h ∈ nd :: nam, 0 ≤ h ∧ h < (nds.length : Int))) → (way = 1 ∨ ¬ (0 ≤ nd ∧ nd < (nds.length : Int))) → Rk [some (.ref r), some (.ref p), some (.int (nds.length : Int)), some (.int stg), some (.int way), some (.int nd), some (.ref nm), none, none] Hc := fun nd nam Hc lc gnc nlc lgc no nd1 => by
   refine kR _ _ ?_
   clear kR
   refine cut1 fun Rk kR => ?_
   have pdc := pd.go hre lc
   have hpc := Rl.tk hre lc _ _ hp
   refine ⟨_, rfl, p, B, I, N, vb, _, vn, rfl, hpc, pdc.hB, pdc.hI, pdc.hN, fun p1 B1 I1 N1 Hd sd gp1 gB1 gI1 gN1 _ _ _ => ?_⟩
   refine gn_go ?_
   refine kR _ _ ?_
   clear kR
   refine normS [some (.ref r), some (.ref p), some (.int (nds.length : Int)), some (.int stg), some (.int way), some (.int nd), some (.ref nm), some (.ref p1), none] rfl ?_
   refine cut1 fun Rk kR => ?_
   refine ⟨_, rfl, nm, _, rfl, .inl (SqL.of (sd _ _ gnc)), fun hd nhd => ?_⟩
   have sh := same_new nhd (.lst (nam.map V.int))
   have gh : (upd Hd hd (.lst (nam.map V.int))) hd = some (.lst (nam.map V.int)) := upd_same
   generalize upd Hd hd (.lst (nam.map V.int)) = He at sh gh ⊢
   refine gn_go ?_
   refine kR _ _ ?_
   clear kR
   refine normS [some (.ref r), some (.ref p), some (.int (nds.length : Int)), some (.int stg), some (.int way), some (.int nd), some (.ref nm), some (.ref p1), some (.ref hd)] rfl ?_
   have sde := same_trans sd sh
   have pbe : Paired (BoxAt He) vb bs := Paired.mapP pdc.pb fun _ _ z => Tp.keep (Same.tk sde) z
   have pne : Paired (NpAt He) vn nds := Paired.mapP pdc.pn fun _ _ z => NpAt.keep (Same.tk sde) z
   have px : PgX He p1 bs nds := pgx_of (r := r) (sh _ _ gp1) (sh _ _ gB1) (sh _ _ gI1) (sh _ _ gN1) pbe pne ok lg
   have last : ∀ Hf, Same He Hf → ∃ v1, (fun x => x) (V.int 1) = v1 ∧ v1 = V.int 1 ∧ (∃ b, RB K Hf 1 (.ref p1) (.ref p) b ∧ b = true) ∧ (∃ b, RB K Hf 1 (.ref hd) (.ref nm) b ∧ b = true) := fun Hf sf => by
     have sdf := same_trans sde sf
     refine ⟨_, rfl, rfl, ⟨true, copy_rb ((same_trans sh sf) _ _ gp1) (sdf _ _ hpc) ((same_trans sh sf) _ _ gB1) ((same_trans sh sf) _ _ gI1) ((same_trans sh sf) _ _ gN1) (sdf _ _ pdc.hB) (sdf _ _ pdc.hI) (sdf _ _ pdc.hN) (Paired.mapP pbe fun _ _ z => Tp.keep (Same.tk sf) z) (Paired.mapP pne fun _ _ z => NpAt.keep (Same.tk sf) z), rfl⟩, true, ?_, rfl⟩
     have := RB.ints (K := K) (n := 1) (sf _ _ gh) (sdf _ _ gnc)
     rwa [decide_eq_true rfl] at this
   have done : ∀ Hf, Same He Hf → Q (.bl true) Hf := fun Hf sf => q _ (lc.trans (Rl.of lc.rl (same_trans sde sf)))
   refine ⟨_, rfl, _, rfl, _, rfl, _, rfl, way, nd, p1, hd, bs, nds, nam, rfl, px, gh, nlc, lgc, ?_⟩
   rcases Int.lt_or_le way 2 with w2 | w2
   · refine .inl ⟨w2, no, fun Hf sf => ?_⟩
     obtain ⟨_, _, _, ⟨_, r1, rfl⟩, _, r2, rfl⟩ := last Hf sf
     refine ⟨rfl, _, rfl, iteT' (by decide) ⟨_, rfl, _, rfl, true, r1, _, rfl, iteT ⟨_, rfl, _, rfl, true, r2, done Hf sf⟩⟩⟩
   · rcases nd1 with w3 | nd1
     · omega
     by_cases c3 : way = 2
     · refine .inr (.inl ⟨c3, nd1, fun Hf sf => ?_⟩)
       obtain ⟨_, _, _, ⟨_, r1, rfl⟩, _, r2, rfl⟩ := last Hf sf
       refine ⟨rfl, _, rfl, iteT' (by decide) ⟨_, rfl, _, rfl, true, r1, _, rfl, iteT ⟨_, rfl, _, rfl, true, r2, done Hf sf⟩⟩⟩
     · refine .inr (.inr ⟨by omega, fun _ Hf sf => ?_, fun n0 n1 => absurd ⟨n0, n1⟩ nd1, fun n0 n1 => absurd ⟨n0, n1⟩ nd1⟩)
       obtain ⟨_, _, _, ⟨_, r1, rfl⟩, _, r2, rfl⟩ := last Hf sf
       refine ⟨rfl, _, rfl, iteT' (by decide) ⟨_, rfl, _, rfl, true, r1, _, rfl, iteT ⟨_, rfl, _, rfl, true, r2, done Hf sf⟩⟩⟩
 refine ⟨_, rfl, rfl, _, rfl, ?_⟩
 refine ite2 (fun c => ?_) (fun c => ?_)
 · have c : way = 1 := by
     have := of_decide_eq_true c
     injection this
   refine cut1 fun Rk2 kR2 => ?_
   refine ⟨_, rfl, _, rfl, r, (nds.length : Int), rfl, l06.rl, by omega, by omega, fun nd H7 nd0 nd1 l7 => ?_⟩
   refine gn_go ?_
   refine kR2 _ _ ?_
   clear kR2
   refine normS [some (.ref r), some (.ref p), some (.int (nds.length : Int)), some (.int stg), some (.int way), some (.int nd), some (.ref nm), none, none] rfl ?_
   have gnm7 := l7.k _ _ nmr gnm
   have lm : (nam.map V.int).length = nam.length := List.length_map _
   refine ⟨_, rfl, .inl ⟨rfl, _, SqL.of gnm7⟩, _, rfl, _, rfl, nm, _, rfl, .inl (SqL.of gnm7), _, _, rfl, rfl, r, ((nam.map V.int).length : Int) + 1, rfl, (l06.trans l7).rl, by omega, by omega, fun x H8 x0 x1 l8 => ?_⟩
   have g8 := l8.k _ _ nmr gnm7
   refine ⟨_, rfl, nm, _, _, x, rfl, rfl, g8, x0, by omega, by omega, ?_⟩
   have enm : (nam.map V.int).take x.toNat ++ V.int stg :: (nam.map V.int).drop x.toNat = (nam.take x.toNat ++ stg :: nam.drop x.toNat).map V.int := by rw [List.map_append, List.map_cons, List.map_take, List.map_drop]
   rw [enm]
   refine fin nd _ _ ((l06.trans (l7.trans l8)).put nmr nnm) upd_same ?_ (fun h hh => ?_) (fun z => ?_) (.inl c)
   · rw [List.length_append, List.length_cons, List.length_take, List.length_drop]
     omega
   · rcases List.mem_cons.mp hh with rfl | hh
     · exact lg_small (by omega) (by omega)
     · rcases List.mem_append.mp hh with w | w
       · have := nab h (List.mem_of_mem_take w)
         exact lg_small (by omega) (by omega)
       · rcases List.mem_cons.mp w with rfl | w
         · exact lg_small (by omega) (by omega)
         · have := nab h (List.mem_of_mem_drop w)
           exact lg_small (by omega) (by omega)
   · exact sno.1 (z stg (List.mem_cons.mpr (.inr (List.mem_append.mpr (.inr (List.mem_cons.mpr (.inl rfl)))))))
 · refine fin stg nam H6 l06 gnm (by omega) (fun h hh => ?_) (fun z => sno.1 (z stg (List.mem_cons.mpr (.inl rfl)))) (.inr sno.1)
   rcases List.mem_cons.mp hh with rfl | hh
   · exact lg_small (by omega) (by omega)
   · have := nab h hh
     exact lg_small (by omega) (by omega)
theorem has_noN (s : Src K mg "_law_no_node" sNoN) (m_len : mg "len" = none) (m_list : mg "list" = none) (m_range : mg "range" = none) (NX0 : Has P w K mg base "_law_next" ["pot", "many"] 1 spNext) (CP0 : Has P w K mg base "_law_copy" ["program"] 1 spCopy) (RF : Has P w K mg base "_law_refused" ["way", "program", "node", "named"] 44 spRefd) : Has P w K mg base "_law_no_node" ["pot", "program"] 45 spNoN :=
  let ⟨f, fd, F, m⟩ := s
  ⟨f, fd, ok_noN F m_len m_list m_range NX0 CP0 RF, F.kp, bnd2 F fun _ _ _ _ _ _ _ _ => rfl, m⟩
abbrev sDee : Stmt := top 52
abbrev sSpo : Stmt := top 53
def spDee : Sp := fun vs H Q _ => ∃ (r : Addr) (v : V) (e : E) (ns : List Str) (x : Str), vs = [.ref r, v] ∧ Reel H r ∧ EAt H v e ∧ e.isS ∧ e.okIn (bxN ns) ∧ e.nm x = true ∧ e.dep = 0 ∧ ∀ (v' : V) (e' : E) (H' : Hp), Rl r H H' → EAt H' v' e' → e'.isS → e'.okIn (bxN ns) → e'.nm x = true → e'.dep ≤ 20 → Q v' H'
theorem scDee : FnScope ["pot", "told", "turn", "more", "word"] ["pot", "told"] (defScope sDee) := ⟨rfl, rfl, rfl, by decide +kernel, rfl, by decide +kernel, by decide +kernel⟩
theorem gDee_law_next : GLB sDee "_law_next" := by decide +kernel
theorem gDee_range : GLB sDee "range" := by decide +kernel
theorem k9ok {k : Int} {ns : List Str} (h0 : 0 ≤ k) (h1 : k < 9) : (E.num k).okIn (bxN ns) := by
  show k.natAbs < 2 ^ 100
  have : (9 : Nat) < 2 ^ 100 := by decide
  omega
theorem ok_dee {f : Addr} {fd : FuncData} (F : Fun K "_law_deep" "_law_deep" sDee f fd) (m_range : mg "range" = none) (NX : Has P w K mg base "_law_next" ["pot", "many"] 1 spNext) : FnOk P w K mg base CX0 2 f fd ["pot", "told"] spDee := by
 refine F.ok scDee (fun vs H Q E h => ?_) (fun cdv A outer s H vs Q E hr h => ?_)
 · obtain ⟨r, v, e, ns, x, rfl, _⟩ := h
   rfl
 obtain ⟨r, v, e, ns, x, rfl, hre, ev, is, ok, nm, dp, q⟩ := h
 refine goL ⟨_, (L3.cons (L3.for_ (L3.iR gDee_range m_range (L3.k (L3.own NX hr gDee_law_next (L3.k (L3.v 0) (L3.k (L3.ix L3.ixL (L3.lst (L3.k L3.int (L3.k L3.int L3.n))) (L3.own NX hr gDee_law_next (L3.k (L3.v 0) (L3.k L3.int L3.n)))) L3.n))) L3.n)) (L3.gn 2 scDee.nd) (L3.cons (L3.set 3 scDee.nd (L3.tup (L3.k L3.str (L3.k (L3.own NX hr gDee_law_next (L3.k (L3.v 0) (L3.k L3.int L3.n))) L3.n))))
   (L3.cons (L3.set 4 scDee.nd (L3.ix L3.ixL (L3.lst (L3.k L3.str (L3.k L3.str L3.n))) (L3.own NX hr gDee_law_next (L3.k (L3.v 0) (L3.k L3.int L3.n)))))
   (L3.one (L3.ifs (L3.cmp L3.o_eq (L3.own NX hr gDee_law_next (L3.k (L3.v 0) (L3.k L3.int L3.n))) L3.int) (L3.one (L3.set 1 scDee.nd (L3.tup (L3.k (L3.v 4) (L3.k (L3.v 1) (L3.k (L3.v 3) L3.n)))))) (L3.one (L3.set 1 scDee.nd (L3.tup (L3.k (L3.v 4) (L3.k (L3.v 3) (L3.k (L3.v 1) L3.n)))))))))))
   (L3.one (L3.ret (L3.v 1)))), ?_⟩
 refine cut1 fun Rk kR => ?_
 refine ⟨_, rfl, (by show 2 ≤ sizeLine; decide), fun l0 hl0 => ?_⟩
 have l0r := hre.ne hl0
 have l1 : Rl r H (upd H l0 (.lst [.int 3, .int 20])) := Rl.new hre hl0
 have g1 : (upd H l0 (.lst [.int 3, .int 20])) l0 = some (.lst [.int 3, .int 20]) := upd_same
 generalize upd H l0 (.lst [.int 3, .int 20]) = H1 at l1 g1 ⊢
 refine ⟨_, rfl, r, 2, rfl, l1.rl, by decide, by decide, fun k H2 k0 k1 l2 => ?_⟩
 obtain ⟨m, hm, m0, m1⟩ : ∃ m : Int, atI ([.int 3, .int 20] : List V) k = some (.int m) ∧ 0 < m ∧ m ≤ 20 := by
   rcases (show k = 0 ∨ k = 1 by omega) with rfl | rfl
   · exact ⟨3, rfl, by decide, by decide⟩
   · exact ⟨20, rfl, by decide, by decide⟩
 have l12 := l1.trans l2
 have bigp : (900 : Int) < 2 ^ 110 := by decide
 refine ⟨l0, _, _, _, rfl, rfl, SqL.of (l2.k _ _ l0r g1), hm, r, m, rfl, l12.rl, m0, by omega, fun kc H3 kc0 kc1 l3 => ?_⟩
 have l13 := l12.trans l3
 refine ⟨kc, rfl, by omega, by omega, ?_⟩
 refine for_range (lo := 0) (n := kc.toNat) (fun (i : Nat) (σ : List (Option V)) (Hx : Hp) => (∃ v o2 o3 o4, σ = [some (.ref r), some v, o2, o3, o4] ∧ ∃ e : TW.E, EAt Hx v e ∧ e.isS ∧ e.okIn (bxN ns) ∧ e.nm x = true ∧ e.dep ≤ i) ∧ Rl r H Hx) ⟨⟨v, _, _, _, rfl, e, ev.keep (Rl.tk hre l13), is, ok, nm, by omega⟩, l13⟩ (fun i σ Hx hi zz => ?_) (fun σ Hx zz => ?_)
 · obtain ⟨⟨v1, o2, o3, o4, rfl, e1, ev1, is1, ok1, nm1, dp1⟩, lx⟩ := zz
   refine gn_go ?_
   refine normS [some (.ref r), some v1, some (.int (0 + (i : Int))), o3, o4] rfl ?_
   refine cut1 fun Rk2 kR2 => ?_
   refine ⟨_, rfl, r, 9, rfl, lx.rl, by decide, by decide, fun k9 Ha k90 k91 la => ⟨(by show 2 ≤ sizeLine; decide), fun t1 ht1 => ?_⟩⟩
   have s1 := same_new ht1 (.tup [.str "number", .int k9])
   have gt1 : (upd Ha t1 (.tup [.str "number", .int k9])) t1 = some (.tup [.str "number", .int k9]) := upd_same
   generalize upd Ha t1 (.tup [.str "number", .int k9]) = Hb at s1 gt1 ⊢
   have lxb := lx.trans (la.trans (Rl.of la.rl s1))
   have ev2 := ev1.keep (Rl.tk lx.rl (la.trans (Rl.of la.rl s1)))
   have en : EAt Hb (.ref t1) (.num k9) := ⟨t1, rfl, gt1⟩
   refine gn_go ?_
   refine kR2 _ _ ?_
   clear kR2
   refine normS [some (.ref r), some v1, some (.int (0 + (i : Int))), some (.ref t1), o4] rfl ?_
   refine cut1 fun Rk2 kR2 => ?_
   refine ⟨(by show 2 ≤ sizeLine; decide), fun l2 hl2 => ?_⟩
   have l2r := lxb.rl.ne hl2
   have s2 := same_new hl2 (.lst [.str "plus", .str "less"])
   have g2 : (upd Hb l2 (.lst [.str "plus", .str "less"])) l2 = some (.lst [.str "plus", .str "less"]) := upd_same
   generalize upd Hb l2 (.lst [.str "plus", .str "less"]) = Hc at s2 g2 ⊢
   have lxc := lxb.trans (Rl.of lxb.rl s2)
   refine ⟨_, rfl, r, 2, rfl, lxc.rl, by decide, by decide, fun kw Hd kw0 kw1 ld => ?_⟩
   obtain ⟨kk, hk, kkc⟩ := pick2 (a := .plus) (b := .less) kw0 kw1
   refine ⟨l2, _, _, _, rfl, rfl, SqL.of (ld.k _ _ l2r g2), hk, ?_⟩
   have lxd := lxc.trans ld
   have tkd := (Same.tk s2).trans (Rl.tk lxc.rl ld)
   have ev3 := ev2.keep tkd
   have en3 := en.keep tkd
   refine gn_go ?_
   refine kR2 _ _ ?_
   clear kR2
   refine normS [some (.ref r), some v1, some (.int (0 + (i : Int))), some (.ref t1), some (.str kk.str)] rfl ?_
   have two : ∀ (a b : TW.E), a.isS → b.isS → a.okIn (bxN ns) → b.okIn (bxN ns) → (a.nm x = true ∨ b.nm x = true) → a.dep ≤ i → b.dep ≤ i → (TW.E.two kk a b).isS ∧ (TW.E.two kk a b).okIn (bxN ns) ∧ (TW.E.two kk a b).nm x = true ∧ (TW.E.two kk a b).dep ≤ i + 1 := fun a b ia ib oa ob nn da db => by
     refine ⟨?_, ⟨oa, ob⟩, ?_, ?_⟩
     · rcases kkc with rfl | rfl
       · exact ⟨ia, ib⟩
       · exact ⟨ia, ib⟩
     · show (a.nm x || b.nm x) = true
       rcases nn with w | w
       · rw [w, Bool.true_or]
       · rw [w, Bool.or_true]
     · show max a.dep b.dep + 1 ≤ i + 1
       omega
   refine ⟨_, rfl, r, 2, rfl, lxd.rl, by decide, by decide, fun kz He kz0 kz1 le => ⟨rfl, _, rfl, ?_⟩⟩
   have lxe := lxd.trans le
   have tke := Rl.tk lxd.rl le
   have ev4 := ev3.keep tke
   have en4 := en3.keep tke
   refine ite2 (fun _ => ?_) (fun _ => ?_)
   · refine ⟨_, rfl, _, rfl, _, rfl, (by show 3 ≤ sizeLine; decide), fun t2 ht2 => ?_⟩
     have s9 := same_new ht2 (.tup [.str kk.str, v1, .ref t1])
     have w := two e1 (.num k9) is1 trivial ok1 (k9ok k90 k91) (.inl nm1) dp1 (Nat.zero_le _)
     refine gn_go ?_
     exact ⟨⟨_, _, _, _, rfl, .two kk e1 (.num k9), ⟨v1, .ref t1, ⟨t2, rfl, upd_same⟩, ev4.keep (Same.tk s9), en4.keep (Same.tk s9)⟩, w.1, w.2.1, w.2.2.1, w.2.2.2⟩, lxe.trans (Rl.of lxe.rl s9)⟩
   · refine ⟨_, rfl, _, rfl, _, rfl, (by show 3 ≤ sizeLine; decide), fun t2 ht2 => ?_⟩
     have s9 := same_new ht2 (.tup [.str kk.str, .ref t1, v1])
     have w := two (.num k9) e1 trivial is1 (k9ok k90 k91) ok1 (.inr nm1) (Nat.zero_le _) dp1
     refine gn_go ?_
     exact ⟨⟨_, _, _, _, rfl, .two kk (.num k9) e1, ⟨.ref t1, v1, ⟨t2, rfl, upd_same⟩, en4.keep (Same.tk s9), ev4.keep (Same.tk s9)⟩, w.1, w.2.1, w.2.2.1, w.2.2.2⟩, lxe.trans (Rl.of lxe.rl s9)⟩
 obtain ⟨⟨v1, o2, o3, o4, rfl, e1, ev1, is1, ok1, nm1, dp1⟩, lx⟩ := zz
 refine kR _ _ ?_
 exact ⟨_, rfl, q v1 e1 _ lx ev1 is1 ok1 nm1 (by omega)⟩
theorem has_dee (s : Src K mg "_law_deep" sDee) (m_range : mg "range" = none) (NX : Has P w K mg base "_law_next" ["pot", "many"] 1 spNext) : Has P w K mg base "_law_deep" ["pot", "told"] 2 spDee :=
  let ⟨f, fd, F, m⟩ := s
  ⟨f, fd, ok_dee F m_range NX, F.kp, bnd2 F fun _ _ _ _ _ _ _ _ => rfl, m⟩
theorem exInv {nds : List Np} {nd : Nat} (h : ExOk nds nd) : ∃ (x y : Str) (e e2 : E) (b b2 : Int), nds[nd]? = some (.put x e b) ∧ nds[b.toNat]? = some (.put y e2 b2) ∧ b ≠ 0 ∧ b ≠ (nd : Int) ∧ comesB nds nd b = false ∧ x ≠ y ∧ e.nm y = false ∧ e2.nm x = false := by
  cases h with
  | mk h1 h2 b0 bn co xy n1 n2 => exact ⟨_, _, _, _, _, _, h1, h2, b0, bn, co, xy, n1, n2⟩
theorem mem_oth {nds : List Np} {nd j : Nat} {e : Np} (hj : j ≠ nd) (h : nds[j]? = some e) : ∀ {i : Nat}, j < i → e ∈ oth nds nd i
  | 0, hi => absurd hi (Nat.not_lt_zero _)
  | i + 1, hi => by
    show e ∈ oth nds nd i ++ _
    by_cases c : j < i
    · exact List.mem_append.mpr (.inl (mem_oth hj h c))
    · have : j = i := by omega
      subst this
      rw [if_neg hj, h]
      exact List.mem_append.mpr (.inr (List.mem_singleton.mpr rfl))
theorem comes_of {nds : List Np} {nd j : Nat} {e : Np} {b : Int} (hj : j ≠ nd) (h : nds[j]? = some e) (hb : b ∈ e.leads) : comesB nds nd b = true := by
  unfold comesB
  exact List.any_eq_true.mpr ⟨e, mem_oth hj h (List.getElem?_eq_some_iff.mp h).1, decide_eq_true hb⟩
structure Bad (bs : List (Str × Int)) (nd : Nat) (nds' : List Np) : Prop where
  ld : ∀ e ∈ nds', ∀ b ∈ e.leads, 0 ≤ b ∧ b < (nds'.length : Int)
  po : ∀ e ∈ nds', ∀ x s n, e = .put x s n → PutOk (bs.map (·.1)) x s
  n41 : nds'.length ≤ 41
  lt : nd < nds'.length
  no : ¬ ExOk nds' nd
structure Pair2 (bs : List (Str × Int)) (nds : List Np) (nd : Nat) (x y : Str) (e1 e2 : E) (b b2 : Int) : Prop where
  h1 : nds[nd]? = some (.put x e1 b)
  h2 : nds[b.toNat]? = some (.put y e2 b2)
  bn : b ≠ (nd : Int)
  ld : ∀ e ∈ nds, ∀ b ∈ e.leads, 0 ≤ b ∧ b < (nds.length : Int)
  po : ∀ e ∈ nds, ∀ x s n, e = .put x s n → PutOk (bs.map (·.1)) x s
  n40 : nds.length ≤ 40
theorem Pair2.b0 {bs : List (Str × Int)} {nds : List Np} {nd : Nat} {x y : Str} {e1 e2 : E} {b b2 : Int} (h : Pair2 bs nds nd x y e1 e2 b b2) : 0 ≤ b ∧ b < (nds.length : Int) := h.ld _ (List.mem_of_getElem? h.h1) b (List.mem_singleton.mpr rfl)
theorem Pair2.b20 {bs : List (Str × Int)} {nds : List Np} {nd : Nat} {x y : Str} {e1 e2 : E} {b b2 : Int} (h : Pair2 bs nds nd x y e1 e2 b b2) : 0 ≤ b2 ∧ b2 < (nds.length : Int) := h.ld _ (List.mem_of_getElem? h.h2) b2 (List.mem_singleton.mpr rfl)
theorem Pair2.nl {bs : List (Str × Int)} {nds : List Np} {nd : Nat} {x y : Str} {e1 e2 : E} {b b2 : Int} (h : Pair2 bs nds nd x y e1 e2 b b2) : nd < nds.length := (List.getElem?_eq_some_iff.mp h.h1).1
theorem Pair2.bl {bs : List (Str × Int)} {nds : List Np} {nd : Nat} {x y : Str} {e1 e2 : E} {b b2 : Int} (h : Pair2 bs nds nd x y e1 e2 b b2) : b.toNat < nds.length := (List.getElem?_eq_some_iff.mp h.h2).1
theorem Pair2.ne {bs : List (Str × Int)} {nds : List Np} {nd : Nat} {x y : Str} {e1 e2 : E} {b b2 : Int} (h : Pair2 bs nds nd x y e1 e2 b b2) : b.toNat ≠ nd := by
  have := h.bn
  have := h.b0
  omega
theorem bad_set {bs : List (Str × Int)} {nds : List Np} {nd j : Nat} {x y : Str} {e1 e2 : E} {b b2 : Int} {new : Np} (h : Pair2 bs nds nd x y e1 e2 b b2) (ld : ∀ l ∈ new.leads, 0 ≤ l ∧ l < (nds.length : Int)) (po : ∀ x s n, new = .put x s n → PutOk (bs.map (·.1)) x s) (no : ¬ ExOk (nds.set j new) nd) : Bad bs nd (nds.set j new) := by
  have n40 := h.n40
  refine ⟨fun e he l hl => ?_, fun e he x s n z => ?_, by rw [List.length_set]; omega, by rw [List.length_set]; exact h.nl, no⟩
  · rw [List.length_set]
    rcases List.mem_or_eq_of_mem_set he with w | w
    · exact h.ld e w l hl
    · subst w
      exact ld l hl
  · rcases List.mem_or_eq_of_mem_set he with w | w
    · exact h.po e w x s n z
    · subst w
      exact po x s n z
section
variable {bs : List (Str × Int)} {nds : List Np} {nd : Nat} {x y : Str} {e1 e2 : E} {b b2 : Int}
theorem no_nd (h : Pair2 bs nds nd x y e1 e2 b b2) {new : Np} (hn : ∀ x' s n, new = .put x' s n → n = (nd : Int) ∨ (n = b ∧ x' = x ∧ s.nm y = true)) : ¬ ExOk (nds.set nd new) nd := fun z => by
  obtain ⟨x', y', s, s2, c, c2, g1, g2, c0, cn, co, xy, m1, m2⟩ := exInv z
  rw [List.getElem?_set_self h.nl] at g1
  cases g1
  rcases hn x' s c rfl with w | ⟨rfl, rfl, w⟩
  · exact cn w
  · rw [List.getElem?_set_ne h.ne.symm, h.h2] at g2
    cases g2
    rw [w] at m1
    cases m1
theorem no_b (h : Pair2 bs nds nd x y e1 e2 b b2) {new : Np} (hn : ∀ y' s n, new = .put y' s n → n = b ∨ y' = x ∨ s.nm x = true) : ¬ ExOk (nds.set b.toNat new) nd := fun z => by
  obtain ⟨x', y', s, s2, c, c2, g1, g2, c0, cn, co, xy, m1, m2⟩ := exInv z
  rw [List.getElem?_set_ne h.ne, h.h1] at g1
  cases g1
  have g3 := g2
  rw [List.getElem?_set_self h.bl] at g2
  cases g2
  rcases hn y' s2 c2 rfl with w | w | w
  · subst w
    rw [comes_of h.ne g3 (List.mem_singleton.mpr rfl)] at co
    cases co
  · exact xy w.symm
  · rw [w] at m2
    cases m2
theorem no_j (h : Pair2 bs nds nd x y e1 e2 b b2) {j : Nat} {new : Np} (jn : j ≠ nd) (jb : j ≠ b.toNat) (jl : j < nds.length) (hb : b ∈ new.leads) : ¬ ExOk (nds.set j new) nd := fun z => by
  obtain ⟨x', y', s, s2, c, c2, g1, g2, c0, cn, co, xy, m1, m2⟩ := exInv z
  rw [List.getElem?_set_ne jn, h.h1] at g1
  cases g1
  rw [comes_of jn (List.getElem?_set_self jl) hb] at co
  cases co
theorem bad_app (h : Pair2 bs nds nd x y e1 e2 b b2) {new : Np} (ld : ∀ l ∈ new.leads, 0 ≤ l ∧ l < (nds.length : Int)) (np : ∀ x s n, new ≠ .put x s n) (hb : b ∈ new.leads) : Bad bs nd (nds ++ [new]) := by
  have n40 := h.n40
  have nl := h.nl
  have el : (nds ++ [new]).length = nds.length + 1 := by rw [List.length_append]; rfl
  refine ⟨fun e he l hl => ?_, fun e he x s n z => ?_, by rw [el]; omega, by rw [el]; omega, fun z => ?_⟩
  · rw [el]
    rcases List.mem_append.mp he with w | w
    · have := h.ld e w l hl
      exact ⟨this.1, by omega⟩
    · rw [List.mem_singleton.mp w] at hl
      have := ld l hl
      exact ⟨this.1, by omega⟩
  · rcases List.mem_append.mp he with w | w
    · exact h.po e w x s n z
    · rw [List.mem_singleton.mp w] at z
      exact absurd z (np x s n)
  · obtain ⟨x', y', s, s2, c, c2, g1, g2, c0, cn, co, xy, m1, m2⟩ := exInv z
    rw [List.getElem?_append_left nl, h.h1] at g1
    cases g1
    rw [comes_of (j := nds.length) (by omega) (by rw [List.getElem?_append_right (Nat.le_refl _), Nat.sub_self]; rfl) hb] at co
    cases co
end
def spSpo : Sp := fun vs H Q _ => ∃ (r l : Addr) (vn : List V) (bs : List (Str × Int)) (nds : List Np) (nd : Nat) (way : Int) (x y : Str) (e1 e2 : E) (b b2 : Int), vs = [.ref r, .ref l, .int (nd : Int), .int way] ∧ Reel H r ∧ H l = some (.lst vn) ∧ l ≠ r ∧ Paired (NpAt H) vn nds ∧ Pair2 bs nds nd x y e1 e2 b b2 ∧ 0 ≤ way ∧ way < 8 ∧ ∀ (F : Addr) (vn' : List V) (nds' : List Np) (H' : Hp), Rl r H H' → F ≠ r → H' F = some (.lst vn') → Paired (NpAt H') vn' nds' → Bad bs nd nds' → Q (.ref F) H'
def CurS (H : Hp) (r F : Addr) (vn : List V) (bs : List (Str × Int)) (nd : Nat) (way : Int) (k : Int) (Hc : Hp) : Prop := Rl r H Hc ∧ ((k ≤ way ∧ Hc F = some (.lst vn)) ∨ (way < k ∧ ∃ vn' nds', Hc F = some (.lst vn') ∧ Paired (NpAt Hc) vn' nds' ∧ Bad bs nd nds'))
theorem scSpo : FnScope ["pot", "nodes", "node", "way", "found", "here", "behind", "there", "left", "other"] ["pot", "nodes", "node", "way"] (defScope sSpo) := ⟨rfl, rfl, rfl, by decide +kernel, rfl, by decide +kernel, by decide +kernel⟩
theorem gSpo_law_deep : GLB sSpo "_law_deep" := by decide +kernel
theorem gSpo_law_next : GLB sSpo "_law_next" := by decide +kernel
theorem gSpo_len : GLB sSpo "len" := by decide +kernel
theorem gSpo_list : GLB sSpo "list" := by decide +kernel
theorem gSpo_range : GLB sSpo "range" := by decide +kernel
theorem nm_self {y : Str} : (E.box "box" y).nm y = true := by
  show (decide (("box" : Str) = "box") && decide (y = y)) = true
  rw [decide_eq_true rfl, decide_eq_true rfl]
  rfl
theorem num1_ok (ns : List Str) : (E.num 1).okIn (bxN ns) := by
  show (1 : Int).natAbs < 2 ^ 100
  decide
theorem gsetS {X : Cx} {a x y : Expr} {ta tb : TE} {pos p : Pos} (ho : L3.SE X a ta) (hi : L3.SE X (.Subscript x y p) tb) : L3.SG X (.Subscript a (.Subscript x y p) pos) (gSub ta tb rSetL) := ⟨pg_sub ho.h hi.h set_list (fun _ => rfl)⟩
theorem CurS.skip {Hc : Hp} {F : Addr} {vn : List V} {bs : List (Str × Int)} {nd : Nat} {way k : Int} (h : (k ≤ way ∧ Hc F = some (.lst vn)) ∨ (way < k ∧ ∃ vn' nds', Hc F = some (.lst vn') ∧ Paired (NpAt Hc) vn' nds' ∧ Bad bs nd nds')) (n : k ≠ way) : (k + 1 ≤ way ∧ Hc F = some (.lst vn)) ∨ (way < k + 1 ∧ ∃ vn' nds', Hc F = some (.lst vn') ∧ Paired (NpAt Hc) vn' nds' ∧ Bad bs nd nds') := by
  rcases h with ⟨a, b⟩ | ⟨a, b⟩
  · exact .inl ⟨by omega, b⟩
  · exact .inr ⟨by omega, b⟩
theorem ok_spo {f : Addr} {fd : FuncData} (F : Fun K "_law_spoilt" "_law_spoilt" sSpo f fd) (m_len : mg "len" = none) (m_list : mg "list" = none) (m_range : mg "range" = none) (NX0 : Has P w K mg base "_law_next" ["pot", "many"] 1 spNext) (DE : Has P w K mg base "_law_deep" ["pot", "told"] 43 spDee) : FnOk P w K mg base CX0 44 f fd ["pot", "nodes", "node", "way"] spSpo := by
 refine F.ok scSpo (fun vs H Q E h => ?_) (fun cdv A outer s H vs Q E hr h => ?_)
 · obtain ⟨r, l, vn, bs, nds, nd, way, x, y, e1, e2, b, b2, rfl, _⟩ := h
   rfl
 obtain ⟨r, l, vn, bs, nds, nd, way, x, y, e1, e2, b, b2, rfl, hre, hl, lr, pn, h2, w0, w1, q⟩ := h
 have NX := NX0.mono (show 1 ≤ 43 by omega)
 have vnl := Paired.length pn
 have n40 := h2.n40
 have nl := h2.nl
 have hb0 := h2.b0
 have bigp : (900 : Int) < 2 ^ 110 := by decide
 have big : 1000 ≤ sizeLine := by decide
 obtain ⟨x1, e1', hx1, he1, na1⟩ := node_at pn nl
 rw [h2.h1] at he1
 cases he1
 obtain ⟨u1, ⟨p1, rfl, hp1⟩, eu1⟩ := na1
 have eb : ((b.toNat : Nat) : Int) = b := Int.toNat_of_nonneg hb0.1
 obtain ⟨x2, e2', hx2, he2, na2⟩ := node_at pn h2.bl
 rw [h2.h2] at he2
 cases he2
 obtain ⟨u2, ⟨p2, rfl, hp2⟩, eu2⟩ := na2
 have hat2 : atI vn b = some (.ref p2) := by
   have := atI_nat hx2
   rw [eb] at this
   exact this
 refine goL ⟨_, (L3.cons (L3.set 4 scSpo.nd (L3.callT L3.c_list gSpo_list m_list (by decide +kernel) (L3.k (L3.v 1) L3.n)))
   (L3.cons (L3.set 5 scSpo.nd (L3.ix L3.ixL (L3.v 1) (L3.v 2)))
   (L3.cons (L3.set 6 scSpo.nd (L3.ix L3.ixT (L3.v 5) L3.int))
   (L3.cons (L3.set 7 scSpo.nd (L3.ix L3.ixL (L3.v 1) (L3.v 6)))
   (L3.cons (L3.ifs (L3.cmp L3.o_eq (L3.v 3) L3.int) (L3.one (L3.asg (L3.ix L3.ixL (L3.lst (L3.k (L3.tup (L3.k L3.str (L3.k (L3.ix L3.ixT (L3.v 5) L3.int) (L3.k (L3.v 6) L3.n)))) (L3.k (L3.tup (L3.k L3.str (L3.k (L3.tup (L3.k L3.str L3.n)) (L3.k (L3.v 6) (L3.k (L3.v 2) L3.n))))) (L3.k (L3.tup (L3.k L3.str L3.n)) L3.n)))) (L3.own NX hr gSpo_law_next (L3.k (L3.v 0) (L3.k L3.int L3.n)))) (L3.gsetN (L3.v 4) (L3.v 2)))) L3.nil)
   (L3.cons (L3.ifs (L3.cmp L3.o_eq (L3.v 3) L3.int) (L3.one (L3.asg (L3.ix L3.ixL (L3.lst (L3.k (L3.tup (L3.k L3.str (L3.k (L3.ix L3.ixT (L3.v 7) L3.int) (L3.k (L3.v 2) L3.n)))) (L3.k (L3.tup (L3.k L3.str (L3.k (L3.tup (L3.k L3.str L3.n)) (L3.k (L3.v 2) (L3.k (L3.v 2) L3.n))))) (L3.k (L3.tup (L3.k L3.str L3.n)) L3.n)))) (L3.own NX hr gSpo_law_next (L3.k (L3.v 0) (L3.k L3.int L3.n)))) (L3.gsetN (L3.v 4) (L3.v 6)))) L3.nil)
   (L3.cons (L3.ifs (L3.cmp L3.o_eq (L3.v 3) L3.int) (L3.one (L3.asg (L3.op L3.o_catT (L3.slT2 (L3.v 5) L3.int) (L3.tup (L3.k (L3.v 2) L3.n))) (L3.gsetN (L3.v 4) (L3.v 2)))) L3.nil)
   (L3.cons (L3.ifs (L3.cmp L3.o_eq (L3.v 3) L3.int) (L3.one (L3.asg (L3.op L3.o_catT (L3.slT2 (L3.v 7) L3.int) (L3.tup (L3.k (L3.v 6) L3.n))) (L3.gsetN (L3.v 4) (L3.v 6)))) L3.nil)
   (L3.cons (L3.ifs (L3.cmp L3.o_eq (L3.v 3) L3.int) (L3.one (L3.asg (L3.tup (L3.k L3.str (L3.k (L3.ix L3.ixT (L3.v 5) L3.int) (L3.k (L3.tup (L3.k L3.str (L3.k L3.int L3.n))) (L3.k (L3.ix L3.ixT (L3.v 7) L3.int) L3.n))))) (L3.gsetN (L3.v 4) (L3.v 6)))) L3.nil)
   (L3.cons (L3.ifs (L3.cmp L3.o_eq (L3.v 3) L3.int) (L3.one (L3.asg (L3.tup (L3.k L3.str (L3.k (L3.ix L3.ixT (L3.v 5) L3.int) (L3.k (L3.own DE hr gSpo_law_deep (L3.k (L3.v 0) (L3.k (L3.tup (L3.k L3.str (L3.k (L3.ix L3.ixT (L3.v 7) L3.int) L3.n))) L3.n))) (L3.k (L3.v 6) L3.n))))) (L3.gsetN (L3.v 4) (L3.v 2)))) L3.nil)
   (L3.cons (L3.ifs (L3.cmp L3.o_eq (L3.v 3) L3.int) (L3.one (L3.asg (L3.tup (L3.k L3.str (L3.k (L3.ix L3.ixT (L3.v 7) L3.int) (L3.k (L3.own DE hr gSpo_law_deep (L3.k (L3.v 0) (L3.k (L3.tup (L3.k L3.str (L3.k (L3.ix L3.ixT (L3.v 5) L3.int) L3.n))) L3.n))) (L3.k (L3.ix L3.ixT (L3.v 7) L3.int) L3.n))))) (L3.gsetN (L3.v 4) (L3.v 6)))) L3.nil)
   (L3.cons (L3.ifs (L3.cmp L3.o_eq (L3.v 3) L3.int) (L3.cons (L3.slc (i := 8) [none, some 2, some 6] ["number", "node", "behind"] (show CompScope _ (defScope sSpo) from ⟨rfl, by decide +kernel, by decide +kernel, by decide +kernel⟩) (by rfl) (L3.iR gSpo_range m_range (L3.k (L3.callB L3.c_len gSpo_len m_len PySem.boot_len (L3.k (L3.v 1) L3.n)) L3.n)) (fun _ _ _ _ _ => ⟨(L3.gn 0 (show (["number", "node", "behind"] : List Str).Nodup from by decide +kernel)), (L3.if1 (L3.cmp L3.o_notIn (L3.v 0) (L3.tup (L3.k (L3.v 1) (L3.k (L3.v 2) L3.n))) (by rfl))), (L3.v 0)⟩) scSpo.nd)
   (L3.cons (L3.set 9 scSpo.nd (L3.tup (L3.k L3.str (L3.k (L3.tup (L3.k L3.str L3.n)) (L3.k (L3.v 2) (L3.k (L3.v 6) L3.n))))))
   (L3.cons (L3.ifs (L3.cmp L3.o_eq (L3.own NX hr gSpo_law_next (L3.k (L3.v 0) (L3.k L3.int L3.n))) L3.int) (L3.one (L3.set 9 scSpo.nd (L3.tup (L3.k L3.str (L3.k (L3.tup (L3.k L3.str (L3.k L3.int L3.n))) (L3.k (L3.v 6) L3.n)))))) L3.nil)
   (L3.one (L3.ifs (L3.cmp (L3.o_eqD (m := 0) (up_ne hr _ (by decide))) (L3.v 8) (L3.lst L3.n)) (L3.one (L3.ex (L3.append (L3.v 4) (L3.k (L3.v 9) L3.n)))) (L3.one (L3.asg (L3.v 9) (gsetS (L3.v 4) (L3.ix L3.ixL (L3.v 8) (L3.own NX hr gSpo_law_next (L3.k (L3.v 0) (L3.k (L3.callB L3.c_len gSpo_len m_len PySem.boot_len (L3.k (L3.v 8) L3.n)) L3.n)))))))))))) L3.nil)
   (L3.one (L3.ret (L3.v 4))))))))))))))), ?_⟩
 refine cut1 fun Rk kR => ?_
 refine ⟨_, rfl, l, _, rfl, .inl (SqL.of hl), fun F hF => ?_⟩
 have Fr := hre.ne hF
 have s0 := same_new hF (.lst vn)
 have gF0 : (upd H F (.lst vn)) F = some (.lst vn) := upd_same
 generalize upd H F (.lst vn) = H0 at s0 gF0 ⊢
 have l0 := Rl.of hre s0
 refine gn_go ?_
 refine kR _ _ ?_
 clear kR
 refine normS [some (.ref r), some (.ref l), some (.int (nd : Int)), some (.int way), some (.ref F), none, none, none, none, none] rfl ?_
 refine cut1 fun Rk kR => ?_
 refine ⟨_, rfl, _, rfl, l, _, _, _, rfl, rfl, SqL.of (s0 _ _ hl), atI_nat hx1, ?_⟩
 refine gn_go ?_
 refine kR _ _ ?_
 clear kR
 refine normS [some (.ref r), some (.ref l), some (.int (nd : Int)), some (.int way), some (.ref F), some (.ref p1), none, none, none, none] rfl ?_
 refine cut1 fun Rk kR => ?_
 refine ⟨_, rfl, p1, _, _, _, rfl, rfl, SqT.of (s0 _ _ hp1), rfl, ?_⟩
 refine gn_go ?_
 refine kR _ _ ?_
 clear kR
 refine normS [some (.ref r), some (.ref l), some (.int (nd : Int)), some (.int way), some (.ref F), some (.ref p1), some (.int b), none, none, none] rfl ?_
 refine cut1 fun Rk kR => ?_
 refine ⟨_, rfl, _, rfl, l, _, _, _, rfl, rfl, SqL.of (s0 _ _ hl), hat2, ?_⟩
 refine gn_go ?_
 refine kR _ _ ?_
 clear kR
 refine normS [some (.ref r), some (.ref l), some (.int (nd : Int)), some (.int way), some (.ref F), some (.ref p1), some (.int b), some (.ref p2), none, none] rfl ?_
 have hcur : CurS H r F vn bs nd way 0 H0 := ⟨l0, .inl ⟨w0, gF0⟩⟩
 have nF : H F = none := hF
 clear s0 l0 gF0 hF
 revert hcur
 generalize H0 = Hc
 intro hcur
 refine cut1 fun Rk kR => ?_
 suffices nxt : ∀ Hc', CurS H r F vn bs nd way 1 Hc' → Rk [some (.ref r), some (.ref l), some (.int (nd : Int)), some (.int way), some (.ref F), some (.ref p1), some (.int b), some (.ref p2), none, none] Hc' by
   obtain ⟨lc, hc⟩ := hcur
   have tkc := Rl.tk hre lc
   refine ⟨_, rfl, rfl, _, rfl, ?_⟩
   refine ite2 (fun c => ?_) (fun c => ?_)
   · have c : way = 0 := int_eq c
     have gF : Hc F = some (.lst vn) := by
       rcases hc with ⟨_, z⟩ | ⟨z, _⟩
       · exact z
       · omega
     refine ⟨_, rfl, p1, _, _, _, rfl, rfl, SqT.of (tkc _ _ hp1), rfl, _, rfl, (by show 3 ≤ sizeLine; decide), fun a1 ha1 => ?_⟩
     have za1 := same_new ha1 (.tup [.str "say", u1, .int b])
     have ya1 : (upd Hc a1 (.tup [.str "say", u1, .int b])) a1 = some (.tup [.str "say", u1, .int b]) := upd_same
     generalize upd Hc a1 (.tup [.str "say", u1, .int b]) = K1 at za1 ya1 ⊢
     refine ⟨(by show 1 ≤ sizeLine; decide), fun a2 ha2 => ?_⟩
     have za2 := same_new ha2 (.tup [.str "yes"])
     have ya2 : (upd K1 a2 (.tup [.str "yes"])) a2 = some (.tup [.str "yes"]) := upd_same
     generalize upd K1 a2 (.tup [.str "yes"]) = K2 at za2 ya2 ⊢
     refine ⟨_, rfl, _, rfl, (by show 4 ≤ sizeLine; decide), fun a3 ha3 => ?_⟩
     have za3 := same_new ha3 (.tup [.str "test", .ref a2, .int b, .int (nd : Int)])
     have ya3 : (upd K2 a3 (.tup [.str "test", .ref a2, .int b, .int (nd : Int)])) a3 = some (.tup [.str "test", .ref a2, .int b, .int (nd : Int)]) := upd_same
     generalize upd K2 a3 (.tup [.str "test", .ref a2, .int b, .int (nd : Int)]) = K3 at za3 ya3 ⊢
     refine ⟨(by show 1 ≤ sizeLine; decide), fun a4 ha4 => ?_⟩
     have za4 := same_new ha4 (.tup [.str "end"])
     have ya4 : (upd K3 a4 (.tup [.str "end"])) a4 = some (.tup [.str "end"]) := upd_same
     generalize upd K3 a4 (.tup [.str "end"]) = K4 at za4 ya4 ⊢
     refine ⟨(by show 3 ≤ sizeLine; decide), fun a5 ha5 => ?_⟩
     have za5 := same_new ha5 (.lst [.ref a1, .ref a3, .ref a4])
     have ya5 : (upd K4 a5 (.lst [.ref a1, .ref a3, .ref a4])) a5 = some (.lst [.ref a1, .ref a3, .ref a4]) := upd_same
     generalize upd K4 a5 (.lst [.ref a1, .ref a3, .ref a4]) = K5 at za5 ya5 ⊢
     have sK := same_trans za1 (same_trans za2 (same_trans za3 (same_trans za4 za5)))
     have lK := lc.trans (Rl.of lc.rl sK)
     have a5r : a5 ≠ r := (((lc.rl.same za1).same za2).same za3).same za4 |>.ne ha5
     refine ⟨_, rfl, r, 3, rfl, lK.rl, by decide, by decide, fun k Hk k0 k1 lk => ?_⟩
     have lKk := lK.trans lk
     have tkk := (Same.tk sK).trans (Rl.tk lK.rl lk)
     have tk5 := Rl.tk lK.rl lk
     obtain ⟨vv, new, hat, na, hh, hld⟩ : ∃ (vv : V) (new : Np), atI ([.ref a1, .ref a3, .ref a4] : List V) k = some vv ∧ NpAt Hk vv new ∧ (∀ x s n, new ≠ .put x s n) ∧ ∀ q ∈ new.leads, 0 ≤ q ∧ q < (nds.length : Int) := by
       rcases (show k = 0 ∨ k = 1 ∨ k = 2 by omega) with rfl | rfl | rfl
       · exact ⟨_, .say e1 b, rfl, ⟨u1, ⟨a1, rfl, tk5 _ _ (za5 _ _ (za4 _ _ (za3 _ _ (za2 _ _ ya1))))⟩, (eu1.keep tkc).keep tkk⟩, (fun _ _ _ z => nomatch z), all1 h2.b0⟩
       · exact ⟨_, .test .yes b (nd : Int), rfl, ⟨.ref a2, ⟨a3, rfl, tk5 _ _ (za5 _ _ (za4 _ _ ya3))⟩, ⟨a2, rfl, tk5 _ _ (za5 _ _ (za4 _ _ (za3 _ _ ya2)))⟩⟩, (fun _ _ _ z => nomatch z), all2 h2.b0 ⟨by omega, by have := h2.nl; omega⟩⟩
       · exact ⟨_, .fin, rfl, ⟨a4, rfl, tk5 _ _ (za5 _ _ ya4)⟩, (fun _ _ _ z => nomatch z), (fun q hq => nomatch hq)⟩
     refine ⟨a5, _, _, _, rfl, rfl, SqL.of (lk.k _ _ a5r ya5), hat, ?_⟩
     have gFx := lk.k _ _ Fr (sK _ _ gF)
     refine ⟨_, rfl, _, rfl, F, _, _, nd, rfl, rfl, gFx, ((ixN_of (by omega) (by have := h2.nl; omega)).trans (by rw [Int.toNat_natCast])), ?_⟩
     have tkF : TK Hk (upd Hk F (.lst (vn.set nd vv))) := TW.TK.lst gFx
     refine nxt _ ⟨lKk.put Fr nF, .inr ⟨by omega, vn.set nd vv, nds.set nd new, upd_same, Paired.setP (NpAt.keep tkF na) nd (Paired.mapP pn fun _ _ z => NpAt.keep ((Rl.tk hre lKk).trans tkF) z), bad_set h2 hld (fun x s n z => absurd z (hh x s n)) (no_nd h2 fun x s n z => absurd z (hh x s n))⟩⟩
   · have c : way ≠ 0 := int_ne c
     exact nxt _ ⟨lc, CurS.skip hc (by omega)⟩
 intro Hc hcur
 refine kR _ _ ?_
 clear kR
 refine cut1 fun Rk kR => ?_
 suffices nxt : ∀ Hc', CurS H r F vn bs nd way 2 Hc' → Rk [some (.ref r), some (.ref l), some (.int (nd : Int)), some (.int way), some (.ref F), some (.ref p1), some (.int b), some (.ref p2), none, none] Hc' by
   obtain ⟨lc, hc⟩ := hcur
   have tkc := Rl.tk hre lc
   refine ⟨_, rfl, rfl, _, rfl, ?_⟩
   refine ite2 (fun c => ?_) (fun c => ?_)
   · have c : way = 1 := int_eq c
     have gF : Hc F = some (.lst vn) := by
       rcases hc with ⟨_, z⟩ | ⟨z, _⟩
       · exact z
       · omega
     refine ⟨_, rfl, p2, _, _, _, rfl, rfl, SqT.of (tkc _ _ hp2), rfl, _, rfl, (by show 3 ≤ sizeLine; decide), fun a1 ha1 => ?_⟩
     have za1 := same_new ha1 (.tup [.str "say", u2, .int (nd : Int)])
     have ya1 : (upd Hc a1 (.tup [.str "say", u2, .int (nd : Int)])) a1 = some (.tup [.str "say", u2, .int (nd : Int)]) := upd_same
     generalize upd Hc a1 (.tup [.str "say", u2, .int (nd : Int)]) = K1 at za1 ya1 ⊢
     refine ⟨(by show 1 ≤ sizeLine; decide), fun a2 ha2 => ?_⟩
     have za2 := same_new ha2 (.tup [.str "yes"])
     have ya2 : (upd K1 a2 (.tup [.str "yes"])) a2 = some (.tup [.str "yes"]) := upd_same
     generalize upd K1 a2 (.tup [.str "yes"]) = K2 at za2 ya2 ⊢
     refine ⟨_, rfl, _, rfl, (by show 4 ≤ sizeLine; decide), fun a3 ha3 => ?_⟩
     have za3 := same_new ha3 (.tup [.str "test", .ref a2, .int (nd : Int), .int (nd : Int)])
     have ya3 : (upd K2 a3 (.tup [.str "test", .ref a2, .int (nd : Int), .int (nd : Int)])) a3 = some (.tup [.str "test", .ref a2, .int (nd : Int), .int (nd : Int)]) := upd_same
     generalize upd K2 a3 (.tup [.str "test", .ref a2, .int (nd : Int), .int (nd : Int)]) = K3 at za3 ya3 ⊢
     refine ⟨(by show 1 ≤ sizeLine; decide), fun a4 ha4 => ?_⟩
     have za4 := same_new ha4 (.tup [.str "end"])
     have ya4 : (upd K3 a4 (.tup [.str "end"])) a4 = some (.tup [.str "end"]) := upd_same
     generalize upd K3 a4 (.tup [.str "end"]) = K4 at za4 ya4 ⊢
     refine ⟨(by show 3 ≤ sizeLine; decide), fun a5 ha5 => ?_⟩
     have za5 := same_new ha5 (.lst [.ref a1, .ref a3, .ref a4])
     have ya5 : (upd K4 a5 (.lst [.ref a1, .ref a3, .ref a4])) a5 = some (.lst [.ref a1, .ref a3, .ref a4]) := upd_same
     generalize upd K4 a5 (.lst [.ref a1, .ref a3, .ref a4]) = K5 at za5 ya5 ⊢
     have sK := same_trans za1 (same_trans za2 (same_trans za3 (same_trans za4 za5)))
     have lK := lc.trans (Rl.of lc.rl sK)
     have a5r : a5 ≠ r := (((lc.rl.same za1).same za2).same za3).same za4 |>.ne ha5
     refine ⟨_, rfl, r, 3, rfl, lK.rl, by decide, by decide, fun k Hk k0 k1 lk => ?_⟩
     have lKk := lK.trans lk
     have tkk := (Same.tk sK).trans (Rl.tk lK.rl lk)
     have tk5 := Rl.tk lK.rl lk
     obtain ⟨vv, new, hat, na, hh, hld⟩ : ∃ (vv : V) (new : Np), atI ([.ref a1, .ref a3, .ref a4] : List V) k = some vv ∧ NpAt Hk vv new ∧ (∀ x s n, new ≠ .put x s n) ∧ ∀ q ∈ new.leads, 0 ≤ q ∧ q < (nds.length : Int) := by
       rcases (show k = 0 ∨ k = 1 ∨ k = 2 by omega) with rfl | rfl | rfl
       · exact ⟨_, .say e2 (nd : Int), rfl, ⟨u2, ⟨a1, rfl, tk5 _ _ (za5 _ _ (za4 _ _ (za3 _ _ (za2 _ _ ya1))))⟩, (eu2.keep tkc).keep tkk⟩, (fun _ _ _ z => nomatch z), all1 ⟨by omega, by have := h2.nl; omega⟩⟩
       · exact ⟨_, .test .yes (nd : Int) (nd : Int), rfl, ⟨.ref a2, ⟨a3, rfl, tk5 _ _ (za5 _ _ (za4 _ _ ya3))⟩, ⟨a2, rfl, tk5 _ _ (za5 _ _ (za4 _ _ (za3 _ _ ya2)))⟩⟩, (fun _ _ _ z => nomatch z), all2 ⟨by omega, by have := h2.nl; omega⟩ ⟨by omega, by have := h2.nl; omega⟩⟩
       · exact ⟨_, .fin, rfl, ⟨a4, rfl, tk5 _ _ (za5 _ _ ya4)⟩, (fun _ _ _ z => nomatch z), (fun q hq => nomatch hq)⟩
     refine ⟨a5, _, _, _, rfl, rfl, SqL.of (lk.k _ _ a5r ya5), hat, ?_⟩
     have gFx := lk.k _ _ Fr (sK _ _ gF)
     refine ⟨_, rfl, _, rfl, F, _, _, b.toNat, rfl, rfl, gFx, (ixN_of h2.b0.1 (by have := h2.b0; omega)), ?_⟩
     have tkF : TK Hk (upd Hk F (.lst (vn.set b.toNat vv))) := TW.TK.lst gFx
     refine nxt _ ⟨lKk.put Fr nF, .inr ⟨by omega, vn.set b.toNat vv, nds.set b.toNat new, upd_same, Paired.setP (NpAt.keep tkF na) b.toNat (Paired.mapP pn fun _ _ z => NpAt.keep ((Rl.tk hre lKk).trans tkF) z), bad_set h2 hld (fun x s n z => absurd z (hh x s n)) (no_b h2 fun x s n z => absurd z (hh x s n))⟩⟩
   · have c : way ≠ 1 := int_ne c
     exact nxt _ ⟨lc, CurS.skip hc (by omega)⟩
 intro Hc hcur
 refine kR _ _ ?_
 clear kR
 refine cut1 fun Rk kR => ?_
 suffices nxt : ∀ Hc', CurS H r F vn bs nd way 3 Hc' → Rk [some (.ref r), some (.ref l), some (.int (nd : Int)), some (.int way), some (.ref F), some (.ref p1), some (.int b), some (.ref p2), none, none] Hc' by
   obtain ⟨lc, hc⟩ := hcur
   have tkc := Rl.tk hre lc
   refine ⟨_, rfl, rfl, _, rfl, ?_⟩
   refine ite2 (fun c => ?_) (fun c => ?_)
   · have c : way = 2 := int_eq c
     have gF : Hc F = some (.lst vn) := by
       rcases hc with ⟨_, z⟩ | ⟨z, _⟩
       · exact z
       · omega
     have hGET := h2.h1
     have hld : ∀ l ∈ (Np.put x e1 (nd : Int)).leads, 0 ≤ l ∧ l < (nds.length : Int) := all1 ⟨by omega, by omega⟩
     refine ⟨_, rfl, _, rfl, p1, _, rfl, SqT.of (tkc _ _ hp1), ?_, fun a1 ha1 => ?_⟩
     · rintro ⟨_, z⟩
       exact absurd (show HT.sIx 4 4 (some 3) = 4 from z) (by decide)
     rw [show (3 : Int) = ((3 : Nat) : Int) from rfl, cut_hi _ _ (by show 3 ≤ 4; decide)]
     have ecut : List.take 3 [V.str "put", .str x, u1, .int b] = [V.str "put", .str x, u1] := rfl
     rw [ecut]
     have za1 := same_new ha1 (.tup [.str "put", .str x, u1])
     have ya1 : (upd Hc a1 (.tup [.str "put", .str x, u1])) a1 = some (.tup [.str "put", .str x, u1]) := upd_same
     generalize upd Hc a1 (.tup [.str "put", .str x, u1]) = K1 at za1 ya1 ⊢
     refine ⟨_, rfl, (by show 1 ≤ sizeLine; decide), fun a2 ha2 => ?_⟩
     have za2 := same_new ha2 (.tup [.int (nd : Int)])
     have ya2 : (upd K1 a2 (.tup [.int (nd : Int)])) a2 = some (.tup [.int (nd : Int)]) := upd_same
     generalize upd K1 a2 (.tup [.int (nd : Int)]) = K2 at za2 ya2 ⊢
     refine ⟨a1, a2, _, _, rfl, rfl, SqT.of (za2 _ _ ya1), SqT.of ya2, (fun z => nomatch z), (by show 4 ≤ sizeLine; decide), (fun z => nomatch z), fun _ a3 ha3 => ?_⟩
     have za3 := same_new ha3 (.tup ([.str "put", .str x, u1] ++ [.int (nd : Int)]))
     have ya3 : (upd K2 a3 (.tup ([.str "put", .str x, u1] ++ [.int (nd : Int)]))) a3 = some (.tup ([.str "put", .str x, u1] ++ [.int (nd : Int)])) := upd_same
     generalize upd K2 a3 (.tup ([.str "put", .str x, u1] ++ [.int (nd : Int)])) = K3 at za3 ya3 ⊢
     have sK := same_trans za1 (same_trans za2 za3)
     have lK := lc.trans (Rl.of lc.rl sK)
     have na : NpAt K3 (.ref a3) (.put x e1 (nd : Int)) := ⟨u1, ⟨a3, rfl, ya3⟩, (eu1.keep tkc).keep (Same.tk sK)⟩
     have gFx := sK _ _ gF
     refine ⟨_, rfl, _, rfl, F, _, _, nd, rfl, rfl, gFx, ((ixN_of (by omega) (by have := h2.nl; omega)).trans (by rw [Int.toNat_natCast])), ?_⟩
     have tkF : TK K3 (upd K3 F (.lst (vn.set nd (.ref a3)))) := TW.TK.lst gFx
     refine nxt _ ⟨lK.put Fr nF, .inr ⟨by omega, vn.set nd (.ref a3), nds.set nd (.put x e1 (nd : Int)), upd_same, Paired.setP (NpAt.keep tkF na) nd (Paired.mapP pn fun _ _ z => NpAt.keep ((Rl.tk hre lK).trans tkF) z), bad_set h2 hld (fun x' s n z => by cases z; exact h2.po _ (List.mem_of_getElem? hGET) _ _ _ rfl) (no_nd h2 fun x' s n z => by cases z; exact .inl rfl)⟩⟩
   · have c : way ≠ 2 := int_ne c
     exact nxt _ ⟨lc, CurS.skip hc (by omega)⟩
 intro Hc hcur
 refine kR _ _ ?_
 clear kR
 refine cut1 fun Rk kR => ?_
 suffices nxt : ∀ Hc', CurS H r F vn bs nd way 4 Hc' → Rk [some (.ref r), some (.ref l), some (.int (nd : Int)), some (.int way), some (.ref F), some (.ref p1), some (.int b), some (.ref p2), none, none] Hc' by
   obtain ⟨lc, hc⟩ := hcur
   have tkc := Rl.tk hre lc
   refine ⟨_, rfl, rfl, _, rfl, ?_⟩
   refine ite2 (fun c => ?_) (fun c => ?_)
   · have c : way = 3 := int_eq c
     have gF : Hc F = some (.lst vn) := by
       rcases hc with ⟨_, z⟩ | ⟨z, _⟩
       · exact z
       · omega
     have hGET := h2.h2
     have hld : ∀ l ∈ (Np.put y e2 b).leads, 0 ≤ l ∧ l < (nds.length : Int) := all1 hb0
     refine ⟨_, rfl, _, rfl, p2, _, rfl, SqT.of (tkc _ _ hp2), ?_, fun a1 ha1 => ?_⟩
     · rintro ⟨_, z⟩
       exact absurd (show HT.sIx 4 4 (some 3) = 4 from z) (by decide)
     rw [show (3 : Int) = ((3 : Nat) : Int) from rfl, cut_hi _ _ (by show 3 ≤ 4; decide)]
     have ecut : List.take 3 [V.str "put", .str y, u2, .int b2] = [V.str "put", .str y, u2] := rfl
     rw [ecut]
     have za1 := same_new ha1 (.tup [.str "put", .str y, u2])
     have ya1 : (upd Hc a1 (.tup [.str "put", .str y, u2])) a1 = some (.tup [.str "put", .str y, u2]) := upd_same
     generalize upd Hc a1 (.tup [.str "put", .str y, u2]) = K1 at za1 ya1 ⊢
     refine ⟨_, rfl, (by show 1 ≤ sizeLine; decide), fun a2 ha2 => ?_⟩
     have za2 := same_new ha2 (.tup [.int b])
     have ya2 : (upd K1 a2 (.tup [.int b])) a2 = some (.tup [.int b]) := upd_same
     generalize upd K1 a2 (.tup [.int b]) = K2 at za2 ya2 ⊢
     refine ⟨a1, a2, _, _, rfl, rfl, SqT.of (za2 _ _ ya1), SqT.of ya2, (fun z => nomatch z), (by show 4 ≤ sizeLine; decide), (fun z => nomatch z), fun _ a3 ha3 => ?_⟩
     have za3 := same_new ha3 (.tup ([.str "put", .str y, u2] ++ [.int b]))
     have ya3 : (upd K2 a3 (.tup ([.str "put", .str y, u2] ++ [.int b]))) a3 = some (.tup ([.str "put", .str y, u2] ++ [.int b])) := upd_same
     generalize upd K2 a3 (.tup ([.str "put", .str y, u2] ++ [.int b])) = K3 at za3 ya3 ⊢
     have sK := same_trans za1 (same_trans za2 za3)
     have lK := lc.trans (Rl.of lc.rl sK)
     have na : NpAt K3 (.ref a3) (.put y e2 b) := ⟨u2, ⟨a3, rfl, ya3⟩, (eu2.keep tkc).keep (Same.tk sK)⟩
     have gFx := sK _ _ gF
     refine ⟨_, rfl, _, rfl, F, _, _, b.toNat, rfl, rfl, gFx, (ixN_of h2.b0.1 (by have := h2.b0; omega)), ?_⟩
     have tkF : TK K3 (upd K3 F (.lst (vn.set b.toNat (.ref a3)))) := TW.TK.lst gFx
     refine nxt _ ⟨lK.put Fr nF, .inr ⟨by omega, vn.set b.toNat (.ref a3), nds.set b.toNat (.put y e2 b), upd_same, Paired.setP (NpAt.keep tkF na) b.toNat (Paired.mapP pn fun _ _ z => NpAt.keep ((Rl.tk hre lK).trans tkF) z), bad_set h2 hld (fun x' s n z => by cases z; exact h2.po _ (List.mem_of_getElem? hGET) _ _ _ rfl) (no_b h2 fun x' s n z => by cases z; exact .inl rfl)⟩⟩
   · have c : way ≠ 3 := int_ne c
     exact nxt _ ⟨lc, CurS.skip hc (by omega)⟩
 intro Hc hcur
 refine kR _ _ ?_
 clear kR
 refine cut1 fun Rk kR => ?_
 suffices nxt : ∀ Hc', CurS H r F vn bs nd way 5 Hc' → Rk [some (.ref r), some (.ref l), some (.int (nd : Int)), some (.int way), some (.ref F), some (.ref p1), some (.int b), some (.ref p2), none, none] Hc' by
   obtain ⟨lc, hc⟩ := hcur
   have tkc := Rl.tk hre lc
   refine ⟨_, rfl, rfl, _, rfl, ?_⟩
   refine ite2 (fun c => ?_) (fun c => ?_)
   · have c : way = 4 := int_eq c
     have gF : Hc F = some (.lst vn) := by
       rcases hc with ⟨_, z⟩ | ⟨z, _⟩
       · exact z
       · omega
     refine ⟨_, rfl, p1, _, _, _, rfl, rfl, SqT.of (tkc _ _ hp1), rfl, (by show 2 ≤ sizeLine; decide), fun a1 ha1 => ?_⟩
     have za1 := same_new ha1 (.tup [.str "number", .int 1])
     have ya1 : (upd Hc a1 (.tup [.str "number", .int 1])) a1 = some (.tup [.str "number", .int 1]) := upd_same
     generalize upd Hc a1 (.tup [.str "number", .int 1]) = K1 at za1 ya1 ⊢
     refine ⟨_, rfl, p2, _, _, _, rfl, rfl, SqT.of (za1 _ _ (tkc _ _ hp2)), rfl, (by show 4 ≤ sizeLine; decide), fun a2 ha2 => ?_⟩
     have za2 := same_new ha2 (.tup [.str "put", .str x, .ref a1, .int b2])
     have ya2 : (upd K1 a2 (.tup [.str "put", .str x, .ref a1, .int b2])) a2 = some (.tup [.str "put", .str x, .ref a1, .int b2]) := upd_same
     generalize upd K1 a2 (.tup [.str "put", .str x, .ref a1, .int b2]) = K2 at za2 ya2 ⊢
     have sK := same_trans za1 za2
     have lK := lc.trans (Rl.of lc.rl sK)
     have na : NpAt K2 (.ref a2) (.put x (.num 1) b2) := ⟨.ref a1, ⟨a2, rfl, ya2⟩, ⟨a1, rfl, za2 _ _ ya1⟩⟩
     have px := h2.po _ (List.mem_of_getElem? h2.h1) _ _ _ rfl
     have gFx := sK _ _ gF
     refine ⟨_, rfl, _, rfl, F, _, _, b.toNat, rfl, rfl, gFx, (ixN_of h2.b0.1 (by have := h2.b0; omega)), ?_⟩
     have tkF : TK K2 (upd K2 F (.lst (vn.set b.toNat (.ref a2)))) := TW.TK.lst gFx
     refine nxt _ ⟨lK.put Fr nF, .inr ⟨by omega, vn.set b.toNat (.ref a2), nds.set b.toNat (.put x (.num 1) b2), upd_same, Paired.setP (NpAt.keep tkF na) b.toNat (Paired.mapP pn fun _ _ z => NpAt.keep ((Rl.tk hre lK).trans tkF) z), bad_set h2 (all1 h2.b20) (fun x' s n z => by cases z; exact ⟨px.1, trivial, num1_ok _, by decide⟩) (no_b h2 fun x' s n z => by cases z; exact .inr (.inl rfl))⟩⟩
   · have c : way ≠ 4 := int_ne c
     exact nxt _ ⟨lc, CurS.skip hc (by omega)⟩
 intro Hc hcur
 refine kR _ _ ?_
 clear kR
 refine cut1 fun Rk kR => ?_
 suffices nxt : ∀ Hc', CurS H r F vn bs nd way 6 Hc' → Rk [some (.ref r), some (.ref l), some (.int (nd : Int)), some (.int way), some (.ref F), some (.ref p1), some (.int b), some (.ref p2), none, none] Hc' by
   obtain ⟨lc, hc⟩ := hcur
   have tkc := Rl.tk hre lc
   refine ⟨_, rfl, rfl, _, rfl, ?_⟩
   refine ite2 (fun c => ?_) (fun c => ?_)
   · have c : way = 5 := int_eq c
     have gF : Hc F = some (.lst vn) := by
       rcases hc with ⟨_, z⟩ | ⟨z, _⟩
       · exact z
       · omega
     have px := h2.po _ (List.mem_of_getElem? h2.h1) _ _ _ rfl
     have py := h2.po _ (List.mem_of_getElem? h2.h2) _ _ _ rfl
     have inx := px.xin
     have iny := py.xin
     refine ⟨_, rfl, p1, _, _, _, rfl, rfl, SqT.of (tkc _ _ hp1), rfl, _, rfl, _, rfl, p2, _, _, _, rfl, rfl, SqT.of (tkc _ _ hp2), rfl, (by show 2 ≤ sizeLine; decide), fun a1 ha1 => ?_⟩
     have za1 := same_new ha1 (.tup [.str "box", .str y])
     have ya1 : (upd Hc a1 (.tup [.str "box", .str y])) a1 = some (.tup [.str "box", .str y]) := upd_same
     generalize upd Hc a1 (.tup [.str "box", .str y]) = K1 at za1 ya1 ⊢
     have l1 := lc.trans (Rl.of lc.rl za1)
     refine ⟨r, .ref a1, .box "box" y, bs.map (·.1), y, rfl, l1.rl, ⟨a1, rfl, ya1⟩, trivial, ⟨rfl, iny⟩, nm_self, rfl, fun vd ed K2 ld evd isd okd nmd dpd => ?_⟩
     have l12 := l1.trans ld
     have tk12 := (Same.tk za1).trans (Rl.tk l1.rl ld)
     refine ⟨_, rfl, (by show 4 ≤ sizeLine; decide), fun a2 ha2 => ?_⟩
     have za2 := same_new ha2 (.tup [.str "put", .str x, vd, .int b])
     have ya2 : (upd K2 a2 (.tup [.str "put", .str x, vd, .int b])) a2 = some (.tup [.str "put", .str x, vd, .int b]) := upd_same
     generalize upd K2 a2 (.tup [.str "put", .str x, vd, .int b]) = K3 at za2 ya2 ⊢
     have lK := l12.trans (Rl.of l12.rl za2)
     have na : NpAt K3 (.ref a2) (.put x ed b) := ⟨vd, ⟨a2, rfl, ya2⟩, evd.keep (Same.tk za2)⟩
     have gFx := za2 _ _ (ld.k _ _ Fr (za1 _ _ gF))
     refine ⟨_, rfl, _, rfl, F, _, _, nd, rfl, rfl, gFx, ((ixN_of (by omega) (by have := h2.nl; omega)).trans (by rw [Int.toNat_natCast])), ?_⟩
     have tkF : TK K3 (upd K3 F (.lst (vn.set nd (.ref a2)))) := TW.TK.lst gFx
     refine nxt _ ⟨lK.put Fr nF, .inr ⟨by omega, vn.set nd (.ref a2), nds.set nd (.put x ed b), upd_same, Paired.setP (NpAt.keep tkF na) nd (Paired.mapP pn fun _ _ z => NpAt.keep ((Rl.tk hre lK).trans tkF) z), bad_set h2 (all1 hb0) (fun x' s n z => by cases z; exact ⟨inx, isd, okd, by omega⟩) (no_nd h2 fun x' s n z => by cases z; exact .inr ⟨rfl, rfl, nmd⟩)⟩⟩
   · have c : way ≠ 5 := int_ne c
     exact nxt _ ⟨lc, CurS.skip hc (by omega)⟩
 intro Hc hcur
 refine kR _ _ ?_
 clear kR
 refine cut1 fun Rk kR => ?_
 suffices nxt : ∀ Hc', CurS H r F vn bs nd way 7 Hc' → Rk [some (.ref r), some (.ref l), some (.int (nd : Int)), some (.int way), some (.ref F), some (.ref p1), some (.int b), some (.ref p2), none, none] Hc' by
   obtain ⟨lc, hc⟩ := hcur
   have tkc := Rl.tk hre lc
   refine ⟨_, rfl, rfl, _, rfl, ?_⟩
   refine ite2 (fun c => ?_) (fun c => ?_)
   · have c : way = 6 := int_eq c
     have gF : Hc F = some (.lst vn) := by
       rcases hc with ⟨_, z⟩ | ⟨z, _⟩
       · exact z
       · omega
     have px := h2.po _ (List.mem_of_getElem? h2.h1) _ _ _ rfl
     have py := h2.po _ (List.mem_of_getElem? h2.h2) _ _ _ rfl
     have inx := px.xin
     have iny := py.xin
     refine ⟨_, rfl, p2, _, _, _, rfl, rfl, SqT.of (tkc _ _ hp2), rfl, _, rfl, _, rfl, p1, _, _, _, rfl, rfl, SqT.of (tkc _ _ hp1), rfl, (by show 2 ≤ sizeLine; decide), fun a1 ha1 => ?_⟩
     have za1 := same_new ha1 (.tup [.str "box", .str x])
     have ya1 : (upd Hc a1 (.tup [.str "box", .str x])) a1 = some (.tup [.str "box", .str x]) := upd_same
     generalize upd Hc a1 (.tup [.str "box", .str x]) = K1 at za1 ya1 ⊢
     have l1 := lc.trans (Rl.of lc.rl za1)
     refine ⟨r, .ref a1, .box "box" x, bs.map (·.1), x, rfl, l1.rl, ⟨a1, rfl, ya1⟩, trivial, ⟨rfl, inx⟩, nm_self, rfl, fun vd ed K2 ld evd isd okd nmd dpd => ?_⟩
     have l12 := l1.trans ld
     have tk12 := (Same.tk za1).trans (Rl.tk l1.rl ld)
     refine ⟨_, rfl, p2, _, _, _, rfl, rfl, SqT.of (tk12 _ _ (tkc _ _ hp2)), rfl, (by show 4 ≤ sizeLine; decide), fun a2 ha2 => ?_⟩
     have za2 := same_new ha2 (.tup [.str "put", .str y, vd, .int b2])
     have ya2 : (upd K2 a2 (.tup [.str "put", .str y, vd, .int b2])) a2 = some (.tup [.str "put", .str y, vd, .int b2]) := upd_same
     generalize upd K2 a2 (.tup [.str "put", .str y, vd, .int b2]) = K3 at za2 ya2 ⊢
     have lK := l12.trans (Rl.of l12.rl za2)
     have na : NpAt K3 (.ref a2) (.put y ed b2) := ⟨vd, ⟨a2, rfl, ya2⟩, evd.keep (Same.tk za2)⟩
     have gFx := za2 _ _ (ld.k _ _ Fr (za1 _ _ gF))
     refine ⟨_, rfl, _, rfl, F, _, _, b.toNat, rfl, rfl, gFx, (ixN_of h2.b0.1 (by have := h2.b0; omega)), ?_⟩
     have tkF : TK K3 (upd K3 F (.lst (vn.set b.toNat (.ref a2)))) := TW.TK.lst gFx
     refine nxt _ ⟨lK.put Fr nF, .inr ⟨by omega, vn.set b.toNat (.ref a2), nds.set b.toNat (.put y ed b2), upd_same, Paired.setP (NpAt.keep tkF na) b.toNat (Paired.mapP pn fun _ _ z => NpAt.keep ((Rl.tk hre lK).trans tkF) z), bad_set h2 (all1 h2.b20) (fun x' s n z => by cases z; exact ⟨iny, isd, okd, by omega⟩) (no_b h2 fun x' s n z => by cases z; exact .inr (.inr nmd))⟩⟩
   · have c : way ≠ 6 := int_ne c
     exact nxt _ ⟨lc, CurS.skip hc (by omega)⟩
 intro Hc hcur
 refine kR _ _ ?_
 clear kR
 refine cut1 fun Rk kR => ?_
 suffices nxt : ∀ Hc' o8 o9, CurS H r F vn bs nd way 8 Hc' → Rk [some (.ref r), some (.ref l), some (.int (nd : Int)), some (.int way), some (.ref F), some (.ref p1), some (.int b), some (.ref p2), o8, o9] Hc' by
   obtain ⟨lc, hc⟩ := hcur
   have tkc := Rl.tk hre lc
   refine ⟨_, rfl, rfl, _, rfl, ?_⟩
   refine ite2 (fun c => ?_) (fun c => ?_)
   · have c : way = 7 := int_eq c
     have gF : Hc F = some (.lst vn) := by
       rcases hc with ⟨_, z⟩ | ⟨z, _⟩
       · exact z
       · omega
     have hlc := lc.k _ _ lr hl
     refine cut1 fun Rk2 kR2 => ?_
     refine ⟨_, rfl, l, _, rfl, .inl (SqL.of hlc), ((vn.length : Nat) : Int), rfl, by omega, by omega, fun L hL => ?_⟩
     rw [Int.toNat_natCast, vnl]
     have Lr := lc.rl.ne hL
     have nL := lc.no Lr hL
     have LF : L ≠ F := fun z => by rw [z, gF] at hL; cases hL
     refine comp_range (lo := 0) (n := nds.length) (fun (i : Nat) (Hx : Hp) => Rl r Hc Hx ∧ ∃ lf : List Int, Hx L = some (.lst (lf.map V.int)) ∧ lf.length ≤ i ∧ ∀ h ∈ lf, 0 ≤ h ∧ h < (nds.length : Int) ∧ h ≠ (nd : Int) ∧ h ≠ b) ⟨Rl.new lc.rl hL, [], upd_same, Nat.le_refl _, (fun h hh => nomatch hh)⟩ (fun i Hx hi zz => ?_) (fun H6 zz => ?_)
     · obtain ⟨lx, lf, gx, lfl, lfb⟩ := zz
       rw [Int.zero_add]
       refine gn_go ?_
       refine ⟨_, rfl, _, rfl, _, rfl, (by show 2 ≤ sizeLine; decide), fun t0 ht0 => ?_⟩
       have a1 := same_new ht0 (.tup [.int (nd : Int), .int b])
       have g1 : (upd Hx t0 (.tup [.int (nd : Int), .int b])) t0 = some (.tup ([(nd : Int), b].map V.int)) := upd_same
       generalize upd Hx t0 (.tup [.int (nd : Int), .int b]) = Hy at a1 g1 ⊢
       refine ⟨t0, _, rfl, .inr (SqT.of g1), rfl, flat_ints _, _, rfl, ?_⟩
       have lxy := lx.trans (Rl.of lx.rl a1)
       have gy := a1 _ _ gx
       show if (!inV (.int (i : Int)) ([(nd : Int), b].map V.int)) = true then _ else _
       rw [inV_ints]
       by_cases c : (i : Int) ∈ [(nd : Int), b]
       · refine iteF' (by rw [decide_eq_true c]; rfl) (comp_end (Pv := fun (i : Nat) (Hx : Hp) => Rl r Hc Hx ∧ ∃ lf : List Int, Hx L = some (.lst (lf.map V.int)) ∧ lf.length ≤ i ∧ ∀ h ∈ lf, 0 ≤ h ∧ h < (nds.length : Int) ∧ h ≠ (nd : Int) ∧ h ≠ b) (by repeat' constructor) hi ⟨lxy, lf, gy, by omega, lfb⟩)
       · refine iteT' (by rw [decide_eq_false c]; rfl) ?_
         have c1 : (i : Int) ≠ (nd : Int) := fun z => c (List.mem_cons.mpr (.inl z))
         have c2 : (i : Int) ≠ b := fun z => c (List.mem_cons.mpr (.inr (List.mem_singleton.mpr z)))
         refine ⟨_, rfl, _, gy, small1000 (by rw [List.length_map]; omega), comp_end (Pv := fun (i : Nat) (Hx : Hp) => Rl r Hc Hx ∧ ∃ lf : List Int, Hx L = some (.lst (lf.map V.int)) ∧ lf.length ≤ i ∧ ∀ h ∈ lf, 0 ≤ h ∧ h < (nds.length : Int) ∧ h ≠ (nd : Int) ∧ h ≠ b) (by repeat' constructor) hi ⟨Rl.put lxy Lr hL, lf ++ [(i : Int)], by rw [upd_same, List.map_append]; rfl, by rw [List.length_append]; show _ + 1 ≤ _; omega, fun h hh => ?_⟩⟩
         rcases List.mem_append.mp hh with w | w
         · exact lfb h w
         · rw [List.mem_singleton.mp w]
           exact ⟨by omega, by omega, c1, c2⟩
     obtain ⟨l6, lf, gL, lfl, lfb⟩ := zz
     refine gn_go ?_
     refine kR2 _ _ ?_
     clear kR2
     refine normS [some (.ref r), some (.ref l), some (.int (nd : Int)), some (.int way), some (.ref F), some (.ref p1), some (.int b), some (.ref p2), some (.ref L), none] rfl ?_
     refine cut1 fun Rk2 kR2 => ?_
     refine ⟨(by show 1 ≤ sizeLine; decide), fun a1 ha1 => ?_⟩
     have za1 := same_new ha1 (.tup [.str "yes"])
     have ya1 : (upd H6 a1 (.tup [.str "yes"])) a1 = some (.tup [.str "yes"]) := upd_same
     generalize upd H6 a1 (.tup [.str "yes"]) = K1 at za1 ya1 ⊢
     refine ⟨_, rfl, _, rfl, (by show 4 ≤ sizeLine; decide), fun a2 ha2 => ?_⟩
     have za2 := same_new ha2 (.tup [.str "test", .ref a1, .int (nd : Int), .int b])
     have ya2 : (upd K1 a2 (.tup [.str "test", .ref a1, .int (nd : Int), .int b])) a2 = some (.tup [.str "test", .ref a1, .int (nd : Int), .int b]) := upd_same
     generalize upd K1 a2 (.tup [.str "test", .ref a1, .int (nd : Int), .int b]) = K2 at za2 ya2 ⊢
     refine gn_go ?_
     refine kR2 _ _ ?_
     clear kR2
     refine normS [some (.ref r), some (.ref l), some (.int (nd : Int)), some (.int way), some (.ref F), some (.ref p1), some (.int b), some (.ref p2), some (.ref L), some (.ref a2)] rfl ?_
     refine cut1 fun Rk2 kR2 => ?_
     have s62 := same_trans za1 za2
     have l62 := l6.trans (Rl.of l6.rl s62)
     suffices nx2 : ∀ (o : Addr) (new : Np) (Hd : Hp), Rl r K2 Hd → NpAt Hd (.ref o) new → b ∈ new.leads → (∀ l ∈ new.leads, 0 ≤ l ∧ l < (nds.length : Int)) → (∀ x s n, new ≠ .put x s n) → Rk2 [some (.ref r), some (.ref l), some (.int (nd : Int)), some (.int way), some (.ref F), some (.ref p1), some (.int b), some (.ref p2), some (.ref L), some (.ref o)] Hd by
       refine ⟨_, rfl, r, 2, rfl, l62.rl, by decide, by decide, fun k2 Hd k20 k21 ld => ⟨rfl, _, rfl, ?_⟩⟩
       refine ite2 (fun _ => ?_) (fun _ => ?_)
       · refine ⟨(by show 2 ≤ sizeLine; decide), fun a3 ha3 => ?_⟩
         have za3 := same_new ha3 (.tup [.str "number", .int 0])
         have ya3 : (upd Hd a3 (.tup [.str "number", .int 0])) a3 = some (.tup [.str "number", .int 0]) := upd_same
         generalize upd Hd a3 (.tup [.str "number", .int 0]) = K3 at za3 ya3 ⊢
         refine ⟨_, rfl, (by show 3 ≤ sizeLine; decide), fun a4 ha4 => ?_⟩
         have za4 := same_new ha4 (.tup [.str "say", .ref a3, .int b])
         have ya4 : (upd K3 a4 (.tup [.str "say", .ref a3, .int b])) a4 = some (.tup [.str "say", .ref a3, .int b]) := upd_same
         generalize upd K3 a4 (.tup [.str "say", .ref a3, .int b]) = K4 at za4 ya4 ⊢
         refine gn_go ?_
         refine normS [some (.ref r), some (.ref l), some (.int (nd : Int)), some (.int way), some (.ref F), some (.ref p1), some (.int b), some (.ref p2), some (.ref L), some (.ref a4)] rfl ?_
         exact nx2 a4 (.say (.num 0) b) K4 (ld.trans (Rl.of ld.rl (same_trans za3 za4))) ⟨.ref a3, ⟨a4, rfl, ya4⟩, ⟨a3, rfl, za4 _ _ ya3⟩⟩ (List.mem_singleton.mpr rfl) (all1 hb0) (fun _ _ _ z => nomatch z)
       · exact nx2 a2 (.test .yes (nd : Int) b) Hd ld ⟨.ref a1, ⟨a2, rfl, Rl.tk l62.rl ld _ _ ya2⟩, ⟨a1, rfl, Rl.tk l62.rl ld _ _ (za2 _ _ ya1)⟩⟩ (List.mem_cons.mpr (.inr (List.mem_singleton.mpr rfl))) (all2 ⟨by omega, by omega⟩ hb0) (fun _ _ _ z => nomatch z)
     intro o new Hd ld na bin hld hnp
     refine kR2 _ _ ?_
     clear kR2
     have lcd := l62.trans ld
     have lHd := lc.trans lcd
     have gLd : Hd L = some (.lst (lf.map V.int)) := ld.k _ _ Lr (s62 _ _ gL)
     have gFd : Hd F = some (.lst vn) := lcd.k _ _ Fr gF
     refine ⟨_, rfl, (by show 0 ≤ sizeLine; decide), fun em hem => ?_⟩
     have zem := same_new hem (.lst [])
     have yem : (upd Hd em (.lst [])) em = some (.lst []) := upd_same
     generalize upd Hd em (.lst []) = K5 at zem yem ⊢
     have l5 := lHd.trans (Rl.of lHd.rl zem)
     have rb := RB.ints (K := K) (n := 0) (zem _ _ gLd) (show K5 em = some (.lst (([] : List Int).map V.int)) from yem)
     refine ⟨_, rb, _, rfl, ?_⟩
     have gF5 := zem _ _ gFd
     have na5 := na.keep (Same.tk zem)
     by_cases ce : lf = []
     · refine iteT' (decide_eq_true ce) ?_
       have tkF : TK K5 (upd K5 F (.lst (vn ++ [.ref o]))) := TW.TK.lst gF5
       refine ⟨_, rfl, .inl ⟨rfl, _, SqL.of gF5⟩, _, rfl, F, vn, .ref o, rfl, rfl, gF5, small1000 (by omega), ?_⟩
       exact nxt _ _ _ ⟨l5.put Fr nF, .inr ⟨by omega, vn ++ [.ref o], nds ++ [new], upd_same, Paired.snoc (Paired.mapP pn fun _ _ z => NpAt.keep ((Rl.tk hre l5).trans tkF) z) (na5.keep tkF), bad_app h2 hld hnp bin⟩⟩
     · refine iteF' (decide_eq_false ce) ?_
       have lp : 0 < lf.length := List.length_pos_iff.mpr ce
       refine ⟨_, rfl, _, rfl, _, rfl, _, rfl, _, rfl, L, _, rfl, .inl (SqL.of (zem _ _ gLd)), r, ((lf.map V.int).length : Int), rfl, l5.rl, by rw [List.length_map]; omega, by rw [List.length_map]; omega, fun k K6 k0 k1 lk => ?_⟩
       rw [List.length_map] at k1
       have gL6 := lk.k _ _ Lr (zem _ _ gLd)
       have gF6 := lk.k _ _ Fr gF5
       have l6' := l5.trans lk
       have na6 := na5.keep (Rl.tk l5.rl lk)
       obtain ⟨m, hm⟩ : ∃ m, lf[k.toNat]? = some m := ⟨lf[k.toNat]'(by omega), List.getElem?_eq_getElem _⟩
       have hmb := lfb m (List.mem_of_getElem? hm)
       have hatm : atI (lf.map V.int) k = some (.int m) := by
         have := atI_nat (xs := lf.map V.int) (j := k.toNat) (v := .int m) (by rw [List.getElem?_map, hm]; rfl)
         rw [Int.toNat_of_nonneg k0] at this
         exact this
       obtain ⟨mn, rfl⟩ : ∃ mn : Nat, m = (mn : Int) := ⟨m.toNat, (Int.toNat_of_nonneg hmb.1).symm⟩
       have tkF : TK K6 (upd K6 F (.lst (vn.set mn (.ref o)))) := TW.TK.lst gF6
       refine ⟨L, _, _, _, rfl, rfl, SqL.of gL6, hatm, F, _, _, mn, rfl, rfl, gF6, (ixN_of (by omega) (by omega)).trans (by rw [Int.toNat_natCast]), ?_⟩
       exact nxt _ _ _ ⟨l6'.put Fr nF, .inr ⟨by omega, vn.set mn (.ref o), nds.set mn new, upd_same, Paired.setP (na6.keep tkF) mn (Paired.mapP pn fun _ _ z => NpAt.keep ((Rl.tk hre l6').trans tkF) z), bad_set h2 hld (fun x s n z => absurd z (hnp x s n)) (no_j h2 (by omega) (by omega) (by omega) bin)⟩⟩
   · have c : way ≠ 7 := int_ne c
     exact nxt _ _ _ ⟨lc, CurS.skip hc (by omega)⟩
 intro Hc o8 o9 hcur
 refine kR _ _ ?_
 clear kR
 obtain ⟨lc, hc⟩ := hcur
 rcases hc with ⟨z, _⟩ | ⟨_, vn', nds', g, pn', bad⟩
 · omega
 · exact ⟨_, rfl, q F vn' nds' _ lc Fr g pn' bad⟩
theorem has_spo (s : Src K mg "_law_spoilt" sSpo) (m_len : mg "len" = none) (m_list : mg "list" = none) (m_range : mg "range" = none) (NX0 : Has P w K mg base "_law_next" ["pot", "many"] 1 spNext) (DE : Has P w K mg base "_law_deep" ["pot", "told"] 43 spDee) : Has P w K mg base "_law_spoilt" ["pot", "nodes", "node", "way"] 44 spSpo :=
  let ⟨f, fd, F, m⟩ := s
  ⟨f, fd, ok_spo F m_len m_list m_range NX0 DE, F.kp, bnd4 F fun _ _ _ _ _ _ _ _ _ _ => rfl, m⟩
abbrev sNoC : Stmt := top 54
theorem exInv_pair {bs : List (Str × Int)} {nds : List Np} {nd : Nat} (h : ExOk nds nd) (ld : ∀ e ∈ nds, ∀ b ∈ e.leads, 0 ≤ b ∧ b < (nds.length : Int)) (po : ∀ e ∈ nds, ∀ x s n, e = .put x s n → PutOk (bs.map (·.1)) x s) (n40 : nds.length ≤ 40) : ∃ (x y : Str) (e1 e2 : E) (b b2 : Int), Pair2 bs nds nd x y e1 e2 b b2 ∧ b ≠ 0 := by
  obtain ⟨x, y, s, s2, b, b2, g1, g2, c0, cn, co, xy, m1, m2⟩ := exInv h
  exact ⟨x, y, s, s2, b, b2, ⟨g1, g2, cn, ld, po, n40⟩, c0⟩
def swp (b i : Int) : Int := if i = 0 ∨ i = b then b - i else i
theorem swp_in {b i n : Int} (b0 : 0 ≤ b) (b1 : b < n) (i0 : 0 ≤ i) (i1 : i < n) : 0 ≤ swp b i ∧ swp b i < n := by
  unfold swp
  split
  · rename_i h
    rcases h with h | h
    · omega
    · omega
  · exact ⟨i0, i1⟩
def mvF (b : Int) (e : Np) : Np := e.led (e.leads.map (swp b))
theorem mvF_leads (b : Int) (e : Np) : (mvF b e).leads = e.leads.map (swp b) := led_leads e _ (List.length_map _)
theorem led_put : ∀ {e : Np} {ls : List Int} {x : Str} {s : E} {n : Int}, e.led ls = .put x s n → ∃ n0, e = .put x s n0
  | .put x' s' n', ls, x, s, n, h => by
    have h : Np.put x' s' ((ls[0]?).getD n') = .put x s n := h
    cases h
    exact ⟨n', rfl⟩
  | .say _ _, _, _, _, _, h => nomatch h
  | .test _ _ _, _, _, _, _, h => nomatch h
  | .pick _ _, _, _, _, _, h => nomatch h
  | .fin, _, _, _, _, h => nomatch h
structure Mvd (nds : List Np) (b : Int) (ms : List Np) (i : Nat) : Prop where
  g : ∀ j, j < i → ∃ e, nds[(swp b j).toNat]? = some e ∧ ms[j]? = some (mvF b e)
theorem mvd_snoc {nds ms : List Np} {b : Int} {e : Np} (h : Mvd nds b ms ms.length) (he : nds[(swp b (ms.length : Int)).toNat]? = some e) : Mvd nds b (ms ++ [mvF b e]) (ms.length + 1) := ⟨fun j hj => by
  by_cases c : j < ms.length
  · obtain ⟨e0, h0, h1⟩ := h.g j c
    exact ⟨e0, h0, by rw [List.getElem?_append_left c]; exact h1⟩
  · have : j = ms.length := by omega
    subst this
    exact ⟨e, he, by rw [List.getElem?_append_right (Nat.le_refl _), Nat.sub_self]; rfl⟩⟩
theorem mvd_mem {nds ms : List Np} {b : Int} (h : Mvd nds b ms ms.length) {m : Np} (hm : m ∈ ms) : ∃ e ∈ nds, m = mvF b e := by
  obtain ⟨j, hj⟩ := List.mem_iff_getElem?.mp hm
  obtain ⟨e, h0, h1⟩ := h.g j (List.getElem?_eq_some_iff.mp hj).1
  rw [hj] at h1
  cases h1
  exact ⟨e, List.mem_of_getElem? h0, rfl⟩
theorem mvd_ld {nds ms : List Np} {b : Int} (h : Mvd nds b ms ms.length) (hl : ms.length = nds.length) (b0 : 0 ≤ b) (b1 : b < (nds.length : Int)) (ld : ∀ e ∈ nds, ∀ b ∈ e.leads, 0 ≤ b ∧ b < (nds.length : Int)) : ∀ m ∈ ms, ∀ l ∈ m.leads, 0 ≤ l ∧ l < (ms.length : Int) := fun m hm l hl2 => by
  obtain ⟨e, he, rfl⟩ := mvd_mem h hm
  rw [mvF_leads] at hl2
  obtain ⟨l0, h0, rfl⟩ := List.mem_map.mp hl2
  have := ld e he l0 h0
  rw [hl]
  exact swp_in b0 b1 this.1 this.2
theorem mvd_po {nds ms : List Np} {b : Int} {ns : List Str} (h : Mvd nds b ms ms.length) (po : ∀ e ∈ nds, ∀ x s n, e = .put x s n → PutOk ns x s) : ∀ m ∈ ms, ∀ x s n, m = .put x s n → PutOk ns x s := fun m hm x s n z => by
  obtain ⟨e, he, rfl⟩ := mvd_mem h hm
  obtain ⟨n0, rfl⟩ := led_put z
  exact po _ he x s n0 rfl
theorem mvd_no {bs : List (Str × Int)} {nds ms : List Np} {nd : Nat} {x y : Str} {e1 e2 : E} {b b2 : Int} (p2 : Pair2 bs nds nd x y e1 e2 b b2) (n0 : nd ≠ 0) (h : Mvd nds b ms ms.length) (hl : ms.length = nds.length) : ¬ ExOk ms nd := fun z => by
  obtain ⟨x', y', s, s2, c, c2, g1, g2, c0, cn, co, xy, m1, m2⟩ := exInv z
  obtain ⟨e, h0, h1⟩ := h.g nd (by rw [hl]; exact p2.nl)
  have bn := p2.bn
  have es : swp b (nd : Int) = (nd : Int) := by
    unfold swp
    rw [if_neg (by omega)]
  rw [es, Int.toNat_natCast, p2.h1] at h0
  cases h0
  rw [g1] at h1
  have e9 : mvF b (.put x e1 b) = .put x e1 (swp b b) := rfl
  rw [e9] at h1
  cases h1
  refine c0 ?_
  unfold swp
  rw [if_pos (.inr rfl)]
  omega
def spNoC : Sp := fun vs H Q _ => ∃ (r p B I N : Addr) (vb vn : List V) (bs : List (Str × Int)) (ins : List Str) (nds : List Np) (most longest : Int), vs = [.ref r, .ref p] ∧ Reel H r ∧ H p = some (.tup [.ref B, .ref I, .ref N]) ∧ PrD r H B I N vb vn bs ins nds ∧ PgOk most longest bs ins nds ∧ longest ≤ 40 ∧ ∀ H', Rl r H H' → Q (.bl true) H'
theorem scNoC : FnScope ["pot", "program", "node", "boxes", "inputs", "nodes", "first", "own", "moved", "spoilt", "given"] ["pot", "program"] (defScope sNoC) := ⟨rfl, rfl, rfl, by decide +kernel, rfl, by decide +kernel, by decide +kernel⟩
theorem gNoC_law_copy : GLB sNoC "_law_copy" := by decide +kernel
theorem gNoC_law_next : GLB sNoC "_law_next" := by decide +kernel
theorem gNoC_law_plant : GLB sNoC "_law_plant" := by decide +kernel
theorem gNoC_law_refused : GLB sNoC "_law_refused" := by decide +kernel
theorem gNoC_law_spoilt : GLB sNoC "_law_spoilt" := by decide +kernel
theorem gNoC_len : GLB sNoC "len" := by decide +kernel
theorem gNoC_range : GLB sNoC "range" := by decide +kernel
theorem ok_noC {f : Addr} {fd : FuncData} (F : Fun K "_law_no_change" "_law_no_change" sNoC f fd) (m_len : mg "len" = none) (m_int : mg "int" = none) (m_range : mg "range" = none) (NX0 : Has P w K mg base "_law_next" ["pot", "many"] 1 spNext) (CP0 : Has P w K mg base "_law_copy" ["program"] 1 spCopy) (LD0 : Has P w K mg base "_law_led" ["node", "change"] 1 spLed) (PL0 : Has P w K mg base "_law_plant" ["pot", "program"] 7 spPla) (RF : Has P w K mg base "_law_refused" ["way", "program", "node", "named"] 44 spRefd) (SPO : Has P w K mg base "_law_spoilt" ["pot", "nodes", "node", "way"] 44 spSpo) : FnOk P w K mg base CX0 45 f fd ["pot", "program"] spNoC := by
 refine F.ok scNoC (fun vs H Q E h => ?_) (fun cdv A outer s H vs Q E hr h => ?_)
 · obtain ⟨r, p, B, I, N, vb, vn, bs, ins, nds, most, longest, rfl, _⟩ := h
   rfl
 obtain ⟨r, p, B, I, N, vb, vn, bs, ins, nds0, most, longest, rfl, hre, hp, pd, ok, lg, q⟩ := h
 have NX := NX0.mono (show 1 ≤ 44 by omega)
 have CP := CP0.mono (show 1 ≤ 44 by omega)
 have LD := LD0.mono (show 1 ≤ 44 by omega)
 have PL := PL0.mono (show 7 ≤ 44 by omega)
 have bigp : (900 : Int) < 2 ^ 110 := by decide
 have big : 1000 ≤ sizeLine := by decide
 have b4 := ok.bx.l4
 have vbl := Paired.length pd.pb
 have vnl0 := Paired.length pd.pn
 refine goL ⟨_, (L3.cons (L3.asg (L3.own PL hr gNoC_law_plant (L3.k (L3.v 0) (L3.k (L3.v 1) L3.n))) (L3.glst 2 (L3.gsk (L3.gn 1 scNoC.nd) (L3.gsk (L3.gn 2 scNoC.nd) L3.gsn))))
   (L3.cons (L3.asg (L3.v 1) (L3.gtup 3 (L3.gsk (L3.gn 3 scNoC.nd) (L3.gsk (L3.gn 4 scNoC.nd) (L3.gsk (L3.gn 5 scNoC.nd) L3.gsn)))))
   (L3.cons (L3.ifs (L3.tw (L3.or2 (L3.cmp L3.o_lt (L3.callB L3.c_len gNoC_len m_len PySem.boot_len (L3.k (L3.v 3) L3.n)) L3.int) (L3.or1 (L3.cmp L3.o_lt (L3.callB L3.c_len gNoC_len m_len PySem.boot_len (L3.k (L3.v 5) L3.n)) L3.int)))) (L3.one (L3.ret L3.bl)) L3.nil)
   (L3.cons (L3.ifs (L3.cmp L3.o_ne (L3.own RF hr gNoC_law_refused (L3.k L3.int (L3.k (L3.own CP hr gNoC_law_copy (L3.k (L3.v 1) L3.n)) (L3.k (L3.v 2) (L3.k (L3.lst L3.n) L3.n))))) L3.int) (L3.one (L3.ret L3.bl)) L3.nil)
   (L3.cons (L3.ifs (L3.cmp L3.o_ne (L3.v 2) L3.int) (L3.cons (L3.set 6 scNoC.nd (L3.ix L3.ixT (L3.ix L3.ixL (L3.v 5) (L3.v 2)) L3.int))
   (L3.cons (L3.set 7 scNoC.nd (L3.lc [none, some 6] ["number", "first"] (show CompScope _ (defScope sNoC) from ⟨rfl, by decide +kernel, by decide +kernel, by decide +kernel⟩) (by rfl) (L3.iR gNoC_range m_range (L3.k (L3.callB L3.c_len gNoC_len m_len PySem.boot_len (L3.k (L3.v 5) L3.n)) L3.n)) (fun _ _ _ _ _ => ⟨(L3.gn 0 (show (["number", "first"] : List Str).Nodup from by decide +kernel)), L3.if0, (L3.ix L3.ixL (L3.lst (L3.k (L3.v 0) (L3.k (L3.op L3.o_sub (L3.v 1) (L3.v 0)) L3.n))) (L3.callT L3.c_int (by rfl) m_int (by decide +kernel) (L3.k (L3.cmpE L3.o_in (L3.v 0) (L3.tup (L3.k L3.int (L3.k (L3.v 1) L3.n))) (by rfl)) L3.n)))⟩)))
   (L3.cons (L3.slc (i := 8) [none, some 7, some 5] ["number", "own", "nodes"] (show CompScope _ (defScope sNoC) from ⟨rfl, by decide +kernel, by decide +kernel, by decide +kernel⟩) (by rfl) (L3.iR gNoC_range m_range (L3.k (L3.callB L3.c_len gNoC_len m_len PySem.boot_len (L3.k (L3.v 5) L3.n)) L3.n)) (fun _ _ _ _ _ => ⟨(L3.gn 0 (show (["number", "own", "nodes"] : List Str).Nodup from by decide +kernel)), L3.if0, (L3.own LD hr (by rfl) (L3.k (L3.ix L3.ixL (L3.v 2) (L3.ix L3.ixL (L3.v 1) (L3.v 0))) (L3.k (L3.v 1) L3.n)))⟩) scNoC.nd)
   (L3.one (L3.ifs (L3.cmp L3.o_ne (L3.own RF hr gNoC_law_refused (L3.k L3.int (L3.k (L3.tup (L3.k (L3.v 3) (L3.k (L3.v 4) (L3.k (L3.v 8) L3.n)))) (L3.k (L3.ix L3.ixL (L3.v 7) (L3.v 2)) (L3.k (L3.lst L3.n) L3.n))))) L3.int) (L3.one (L3.ret L3.bl)) L3.nil))))) L3.nil)
   (L3.cons (L3.set 9 scNoC.nd (L3.tup (L3.k (L3.v 3) (L3.k (L3.v 4) (L3.k (L3.own SPO hr gNoC_law_spoilt (L3.k (L3.v 0) (L3.k (L3.v 5) (L3.k (L3.v 2) (L3.k (L3.own NX hr gNoC_law_next (L3.k (L3.v 0) (L3.k L3.int L3.n))) L3.n))))) L3.n)))))
   (L3.cons (L3.set 10 scNoC.nd (L3.own CP hr gNoC_law_copy (L3.k (L3.v 9) L3.n)))
   (L3.one (L3.ret (L3.andE2 (L3.cmpE L3.o_eq (L3.own RF hr gNoC_law_refused (L3.k L3.int (L3.k (L3.v 10) (L3.k (L3.v 2) (L3.k (L3.lst L3.n) L3.n))))) L3.int) (L3.oneE (L3.cmpE (L3.o_eqD (m := 1) (up_ne hr _ (by decide))) (L3.v 10) (L3.v 9))))))))))))), ?_⟩
 refine cut1 fun Rk kR => ?_
 refine ⟨_, rfl, _, rfl, r, p, B, I, N, vb, vn, bs, ins, nds0, most, longest, rfl, hre, hp, pd, ok, lg, fun few L H1 l1 gL => ?_, fun b2 n2 L p1 F vn1 nds nd H1 l1 gL gp1 pd1 ok1 len1 ndl ex => ?_⟩
 · refine ⟨L, _, rfl, SqL.of gL, rfl, _, _, rfl, _, _, rfl, rfl, ?_⟩
   refine kR _ _ ?_
   clear kR
   refine ⟨_, rfl, p, _, rfl, SqT.of (Rl.tk hre l1 _ _ hp), rfl, _, _, rfl, _, _, rfl, _, _, rfl, rfl, ?_⟩
   have pdx := pd.go hre l1
   refine ⟨_, rfl, B, _, rfl, .inl (SqL.of pdx.hB), _, _, rfl, rfl, _, rfl, ?_⟩
   by_cases c1 : bs.length < 2
   · refine iteT' (decide_eq_true (show (vb.length : Int) < 2 by omega)) (iteT' (by decide) ?_)
     exact q _ l1
   refine iteF' (decide_eq_false (show ¬ (vb.length : Int) < 2 by omega)) ?_
   refine ⟨_, rfl, N, _, rfl, .inl (SqL.of pdx.hN), _, _, rfl, rfl, _, rfl, ?_⟩
   refine iteT' (decide_eq_true (show (vn.length : Int) < 2 by omega)) ?_
   exact q _ l1
 refine ⟨L, _, rfl, SqL.of gL, rfl, _, _, rfl, _, _, rfl, rfl, ?_⟩
 have ndl : nd < nds.length := by omega
 have len2 : 2 ≤ nds.length := by omega
 clear len1 n2
 have n40 : nds.length ≤ 40 := by have := ok1.few; omega
 have vnl := Paired.length pd1.pn
 have pgx : PgX H1 p1 bs nds := pgx_of (r := r) gp1 pd1.hB pd1.hI pd1.hN pd1.pb pd1.pn ok1 lg
 have ld := pgx.ld
 have po := pgx.po
 clear pgx
 refine kR _ _ ?_
 clear kR
 refine normS [some (.ref r), some (.ref p1), some (.int (nd : Int)), none, none, none, none, none, none, none, none] rfl ?_
 refine cut1 fun Rk kR => ?_
 refine ⟨_, rfl, p1, _, rfl, SqT.of gp1, rfl, _, _, rfl, _, _, rfl, _, _, rfl, rfl, ?_⟩
 refine kR _ _ ?_
 clear kR
 refine normS [some (.ref r), some (.ref p1), some (.int (nd : Int)), some (.ref B), some (.ref I), some (.ref F), none, none, none, none, none] rfl ?_
 refine cut1 fun Rk kR => ?_
 refine ⟨_, rfl, B, _, rfl, .inl (SqL.of pd1.hB), _, _, rfl, rfl, _, rfl, ?_⟩
 refine iteF' (decide_eq_false (show ¬ (vb.length : Int) < 2 by omega)) ?_
 refine ⟨_, rfl, F, _, rfl, .inl (SqL.of pd1.hN), _, _, rfl, rfl, _, rfl, ?_⟩
 refine iteF' (decide_eq_false (show ¬ (vn1.length : Int) < 2 by omega)) ?_
 refine kR _ _ ?_
 clear kR
 refine cut1 fun Rk kR => ?_
 refine ⟨_, rfl, p1, B, I, F, vb, _, vn1, rfl, gp1, pd1.hB, pd1.hI, pd1.hN, fun p2 B2 I2 F2 H2 s2 gp2 gB2 gI2 gF2 _ _ _ => ?_⟩
 refine ⟨_, rfl, (by show 0 ≤ sizeLine; decide), fun e0 he0 => ?_⟩
 have ze0 := same_new he0 (.lst [])
 have ye0 : (upd H2 e0 (.lst [])) e0 = some (.lst []) := upd_same
 generalize upd H2 e0 (.lst []) = H3 at ze0 ye0 ⊢
 have lgn : ∀ h ∈ [(nd : Int)], h.natAbs.log2 < 1920 := all1 (lg_small (by omega) (by omega))
 have s23 := same_trans s2 ze0
 have pgx3 : PgX H3 p2 bs nds := pgx_of (r := r) (ze0 _ _ gp2) (ze0 _ _ gB2) (ze0 _ _ gI2) (ze0 _ _ gF2) (Paired.mapP pd1.pb fun _ _ z => Tp.keep (Same.tk s23) z) (Paired.mapP pd1.pn fun _ _ z => NpAt.keep (Same.tk s23) z) ok1 lg
 refine ⟨3, (nd : Int), p2, e0, bs, nds, [], rfl, pgx3, ye0, Nat.zero_le _, lgn, .inr (.inr ⟨rfl, fun z => absurd ⟨by omega, by omega⟩ z, fun _ _ z => absurd (by rw [Int.toNat_natCast]; exact ex) z, fun _ _ _ H4 s4 => ?_⟩)⟩
 refine ⟨rfl, _, rfl, iteF' (by decide) ?_⟩
 have l4 : Rl r H1 H4 := Rl.of l1.rl (same_trans s23 s4)
 clear s4 pgx3 s23 ze0 ye0 he0 gp2 gB2 gI2 gF2 s2
 refine kR _ _ ?_
 clear kR
 refine cut1 fun Rk kR => ?_
 obtain ⟨x, y, e1, e2, b, b2, pr, b0⟩ := exInv_pair ex ld po n40
 have bl := pr.b0
 suffices nxt : ∀ o6 o7 o8 Hc', Rl r H1 Hc' → Rk [some (.ref r), some (.ref p1), some (.int (nd : Int)), some (.ref B), some (.ref I), some (.ref F), o6, o7, o8, none, none] Hc' by
   refine ⟨_, rfl, rfl, _, rfl, ?_⟩
   refine ite2 (fun c => ?_) (fun c => ?_)
   rotate_left
   · exact nxt _ _ _ _ l4
   have c : nd ≠ 0 := fun z => by
     rw [z] at c
     exact absurd c (by decide)
   have pd4 := pd1.go l1.rl l4
   obtain ⟨x1, e1', hx1, he1, na1⟩ := node_at pd4.pn ndl
   rw [pr.h1] at he1
   cases he1
   obtain ⟨u1, ⟨q1, rfl, hq1⟩, eu1⟩ := na1
   refine cut1 fun Rk2 kR2 => ?_
   refine ⟨_, rfl, _, rfl, F, _, _, _, rfl, rfl, SqL.of pd4.hN, atI_nat hx1, q1, _, _, _, rfl, rfl, SqT.of hq1, rfl, ?_⟩
   refine gn_go ?_
   refine kR2 _ _ ?_
   clear kR2
   refine normS [some (.ref r), some (.ref p1), some (.int (nd : Int)), some (.ref B), some (.ref I), some (.ref F), some (.int b), none, none, none, none] rfl ?_
   refine cut1 fun Rk2 kR2 => ?_
   refine ⟨_, rfl, F, _, rfl, .inl (SqL.of pd4.hN), ((vn1.length : Nat) : Int), rfl, by omega, by omega, fun O hO => ?_⟩
   rw [Int.toNat_natCast, vnl]
   have Or := l4.rl.ne hO
   refine comp_range (lo := 0) (n := nds.length) (fun (i : Nat) (Hx : Hp) => Same H4 Hx ∧ Hx O = some (.lst ((List.range i).map fun j : Nat => V.int (swp b (j : Int))))) ⟨same_new hO _, by rw [List.range_zero]; exact upd_same⟩ (fun i Hx hi zz => ?_) (fun H6 zz => ?_)
   · obtain ⟨sx, gx⟩ := zz
     rw [Int.zero_add]
     refine gn_go ?_
     refine turn0 (A := fun H5 => mApp _ O _ H5 _) ?_
     refine ⟨_, rfl, _, rfl, _, rfl, _, _, rfl, rfl, (by show 2 ≤ sizeLine; decide), fun d1 hd1 => ?_⟩
     have zd1 := same_new hd1 (.lst [.int (i : Int), .int (b - (i : Int))])
     have yd1 : (upd Hx d1 (.lst [.int (i : Int), .int (b - (i : Int))])) d1 = some (.lst [.int (i : Int), .int (b - (i : Int))]) := upd_same
     generalize upd Hx d1 (.lst [.int (i : Int), .int (b - (i : Int))]) = K1 at zd1 yd1 ⊢
     refine ⟨_, rfl, _, rfl, (by show 2 ≤ sizeLine; decide), fun t0 ht0 => ?_⟩
     have zt0 := same_new ht0 (.tup [.int 0, .int b])
     have yt0 : (upd K1 t0 (.tup [.int 0, .int b])) t0 = some (.tup [.int 0, .int b]) := upd_same
     generalize upd K1 t0 (.tup [.int 0, .int b]) = K2 at zt0 yt0 ⊢
     refine ⟨t0, _, rfl, .inr (SqT.of (show K2 t0 = some (.tup (([0, b] : List Int).map V.int)) from yt0)), rfl, flat_ints _, .inr ⟨_, rfl, ?_⟩⟩
     have hsw : atI [V.int (i : Int), .int (b - (i : Int))] (if inV (.int (i : Int)) (([0, b] : List Int).map V.int) = true then 1 else 0) = some (.int (swp b (i : Int))) := by
       rw [inV_ints]
       unfold swp
       by_cases cc : (i : Int) ∈ [0, b]
       · rw [decide_eq_true cc, if_pos rfl, if_pos (by rcases List.mem_cons.mp cc with w | w; exact .inl w; exact .inr (List.mem_singleton.mp w))]
         rfl
       · rw [decide_eq_false cc, if_neg (by decide), if_neg (fun z => cc (by rcases z with w | w; exact List.mem_cons.mpr (.inl w); exact List.mem_cons.mpr (.inr (List.mem_singleton.mpr w))))]
         rfl
     refine ⟨d1, _, _, _, rfl, rfl, SqL.of (zt0 _ _ yd1), hsw, ?_⟩
     have sK := same_trans zd1 zt0
     refine ⟨_, sK _ _ gx, small1000 (by rw [List.length_map, List.length_range]; omega), comp_end (Pv := fun (i : Nat) (Hx : Hp) => Same H4 Hx ∧ Hx O = some (.lst ((List.range i).map fun j : Nat => V.int (swp b (j : Int))))) (by repeat' constructor) hi ⟨same_put (same_trans sx sK) hO, ?_⟩⟩
     rw [upd_same, List.range_succ, List.map_append]
     rfl
   obtain ⟨s6, gO⟩ := zz
   have eO : ((List.range nds.length).map fun j : Nat => V.int (swp b (j : Int))) = ((List.range nds.length).map fun j : Nat => swp b (j : Int)).map V.int := by rw [List.map_map]; rfl
   rw [eO] at gO
   have csg : ∀ j : Nat, j < nds.length → ((List.range nds.length).map fun j : Nat => swp b (j : Int))[j]? = some (swp b (j : Int)) := fun j hj => by rw [List.getElem?_map, List.getElem?_range hj]; rfl
   generalize ((List.range nds.length).map fun j : Nat => swp b (j : Int)) = cs at gO csg
   have l6 := l4.trans (Rl.of l4.rl s6)
   have pd6 := pd1.go l1.rl l6
   refine gn_go ?_
   refine kR2 _ _ ?_
   clear kR2
   refine normS [some (.ref r), some (.ref p1), some (.int (nd : Int)), some (.ref B), some (.ref I), some (.ref F), some (.int b), some (.ref O), none, none, none] rfl ?_
   refine cut1 fun Rk2 kR2 => ?_
   refine ⟨_, rfl, F, _, rfl, .inl (SqL.of pd6.hN), ((vn1.length : Nat) : Int), rfl, by omega, by omega, fun M hM => ?_⟩
   rw [Int.toNat_natCast, vnl]
   have Mr := l6.rl.ne hM
   refine comp_range (lo := 0) (n := nds.length) (fun (i : Nat) (Hx : Hp) => Same H6 Hx ∧ ∃ us ms, Hx M = some (.lst us) ∧ Paired (NpAt Hx) us ms ∧ ms.length = i ∧ Mvd nds b ms i) ⟨same_new hM _, [], [], upd_same, .nil, rfl, ⟨fun j hj => absurd hj (Nat.not_lt_zero _)⟩⟩ (fun i Hx hi zz => ?_) (fun H7 zz => ?_)
   · obtain ⟨sx, us, ms, gx, pu, ml, mv⟩ := zz
     rw [Int.zero_add]
     refine gn_go ?_
     refine turn0 (A := fun H5 => mApp _ M _ H5 _) ?_
     have ul := Paired.length pu
     have swi := swp_in (n := (nds.length : Int)) bl.1 bl.2 (i := (i : Int)) (by omega) (by omega)
     have est : ((swp b (i : Int)).toNat : Int) = swp b (i : Int) := Int.toNat_of_nonneg swi.1
     obtain ⟨xi, ei, hxi, hei, nai⟩ := node_at (Paired.mapP pd6.pn fun _ _ z => NpAt.keep (Same.tk sx) z) (show (swp b (i : Int)).toNat < nds.length by omega)
     have ha1 : atI (cs.map V.int) (i : Int) = some (.int (swp b (i : Int))) := atI_nat (by rw [List.getElem?_map, csg i hi]; rfl)
     have ha2 : atI vn1 (swp b (i : Int)) = some xi := by
       have := atI_nat hxi
       rw [est] at this
       exact this
     refine ⟨_, rfl, _, rfl, _, rfl, O, _, _, _, rfl, rfl, SqL.of (sx _ _ gO), ha1, F, _, _, _, rfl, rfl, SqL.of (sx _ _ pd6.hN), ha2, _, rfl, xi, O, ei, cs, ei.leads.map (swp b), rfl, nai, (ok1.nd ei (List.mem_of_getElem? hei)).is, sx _ _ gO, List.length_map _, fun k a d hka hkd => ?_, fun v' H8 s8 na8 => ?_⟩
     · have hm := (ok1.nd ei (List.mem_of_getElem? hei)).ld a (List.mem_of_getElem? hka)
       rw [List.getElem?_map, hka] at hkd
       cases hkd
       have := csg a.toNat (by omega)
       rw [Int.toNat_of_nonneg hm.1] at this
       exact ⟨hm.1, this⟩
     · have gx8 := s8 _ _ gx
       have tkM : TK H8 (upd H8 M (.lst (us ++ [v']))) := TW.TK.lst gx8
       refine ⟨_, gx8, small1000 (by omega), comp_end (Pv := fun (i : Nat) (Hx : Hp) => Same H6 Hx ∧ ∃ us ms, Hx M = some (.lst us) ∧ Paired (NpAt Hx) us ms ∧ ms.length = i ∧ Mvd nds b ms i) (by repeat' constructor) hi ⟨same_put (same_trans sx s8) hM, us ++ [v'], ms ++ [mvF b ei], upd_same, Paired.snoc (Paired.mapP pu fun _ _ z => NpAt.keep ((Same.tk s8).trans tkM) z) (na8.keep tkM), by rw [List.length_append]; show _ + 1 = _; omega, ?_⟩⟩
       have := mvd_snoc (e := ei) (by rw [ml]; exact mv) (by rw [ml]; exact hei)
       rw [ml] at this
       exact this
   obtain ⟨s7, us, ms, gM, pu, ml, mv⟩ := zz
   have l7 := l6.trans (Rl.of l6.rl s7)
   refine gn_go ?_
   refine kR2 _ _ ?_
   clear kR2
   refine normS [some (.ref r), some (.ref p1), some (.int (nd : Int)), some (.ref B), some (.ref I), some (.ref F), some (.int b), some (.ref O), some (.ref M), none, none] rfl ?_
   have pd7 := pd1.go l1.rl l7
   refine ⟨_, rfl, _, rfl, _, rfl, (by show 3 ≤ sizeLine; decide), fun mt hmt => ?_⟩
   have zmt := same_new hmt (.tup [.ref B, .ref I, .ref M])
   have ymt : (upd H7 mt (.tup [.ref B, .ref I, .ref M])) mt = some (.tup [.ref B, .ref I, .ref M]) := upd_same
   generalize upd H7 mt (.tup [.ref B, .ref I, .ref M]) = K1 at zmt ymt ⊢
   have ha : atI (cs.map V.int) (nd : Int) = some (.int (nd : Int)) := by
     have := atI_nat (xs := cs.map V.int) (j := nd) (v := .int (swp b (nd : Int))) (by rw [List.getElem?_map, csg nd ndl]; rfl)
     have bn := pr.bn
     have es : swp b (nd : Int) = (nd : Int) := by
       unfold swp
       rw [if_neg (by omega)]
     rw [es] at this
     exact this
   refine ⟨_, rfl, _, rfl, O, _, _, _, rfl, rfl, SqL.of (zmt _ _ (s7 _ _ gO)), ha, (by show 0 ≤ sizeLine; decide), fun e0 he0 => ?_⟩
   have ze0 := same_new he0 (.lst [])
   have ye0 : (upd K1 e0 (.lst [])) e0 = some (.lst []) := upd_same
   generalize upd K1 e0 (.lst []) = K2 at ze0 ye0 ⊢
   have sK := same_trans zmt ze0
   rw [← ml] at mv
   have pgx : PgX K2 mt bs ms := ⟨⟨B, I, M, vb, us, ins, ze0 _ _ ymt, sK _ _ pd7.hB, sK _ _ pd7.hI, sK _ _ gM, Paired.mapP pd7.pb fun _ _ z => Tp.keep (Same.tk sK) z, Paired.mapP pu fun _ _ z => NpAt.keep (Same.tk sK) z⟩, b4, ok.bx.sz, by omega, mvd_ld mv ml bl.1 bl.2 ld, mvd_po mv po⟩
   have no := mvd_no pr c mv ml
   refine ⟨3, (nd : Int), mt, e0, bs, ms, [], rfl, pgx, ye0, Nat.zero_le _, lgn, .inr (.inr ⟨rfl, fun z => absurd ⟨by omega, by omega⟩ z, fun _ _ _ Hf sf => ?_, fun _ _ z => absurd (by rw [Int.toNat_natCast] at z; exact z) no⟩)⟩
   exact ⟨rfl, _, rfl, iteF' (by decide) (nxt _ _ _ _ (l7.trans (Rl.of l7.rl (same_trans sK sf))))⟩
 clear l4
 intro o6 o7 o8 Hc lc
 refine kR _ _ ?_
 clear kR
 refine cut1 fun Rk kR => ?_
 refine ⟨_, rfl, _, rfl, _, rfl, _, rfl, _, rfl, _, rfl, r, 8, rfl, lc.rl, by decide, by decide, fun way H5 w0 w1 l5 => ?_⟩
 have l15 := lc.trans l5
 have pd5 := pd1.go l1.rl l15
 refine ⟨r, F, vn1, bs, nds, nd, way, x, y, e1, e2, b, b2, rfl, l5.rl, pd5.hN, pd5.nN, pd5.pn, pr, w0, w1, fun S vs' nds' H6 l6 Sr gS pS bad => ⟨(by show 3 ≤ sizeLine; decide), fun st hst => ?_⟩⟩
 have zst := same_new hst (.tup [.ref B, .ref I, .ref S])
 have yst : (upd H6 st (.tup [.ref B, .ref I, .ref S])) st = some (.tup [.ref B, .ref I, .ref S]) := upd_same
 generalize upd H6 st (.tup [.ref B, .ref I, .ref S]) = K1 at zst yst ⊢
 have l16 := l15.trans l6
 have l17 := l16.trans (Rl.of l16.rl zst)
 have pd7 := pd1.go l1.rl l17
 refine gn_go ?_
 refine kR _ _ ?_
 clear kR
 refine normS [some (.ref r), some (.ref p1), some (.int (nd : Int)), some (.ref B), some (.ref I), some (.ref F), o6, o7, o8, some (.ref st), none] rfl ?_
 refine cut1 fun Rk kR => ?_
 refine ⟨_, rfl, st, B, I, S, vb, _, vs', rfl, yst, pd7.hB, pd7.hI, zst _ _ gS, fun g1 B1 I1 N1 H8 s8 gg1 gB1 gI1 gN1 _ _ _ => ?_⟩
 refine gn_go ?_
 refine kR _ _ ?_
 clear kR
 refine normS [some (.ref r), some (.ref p1), some (.int (nd : Int)), some (.ref B), some (.ref I), some (.ref F), o6, o7, o8, some (.ref st), some (.ref g1)] rfl ?_
 refine ⟨_, rfl, _, rfl, (by show 0 ≤ sizeLine; decide), fun e0 he0 => ?_⟩
 have ze0 := same_new he0 (.lst [])
 have ye0 : (upd H8 e0 (.lst [])) e0 = some (.lst []) := upd_same
 generalize upd H8 e0 (.lst []) = K2 at ze0 ye0 ⊢
 have s82 := same_trans s8 ze0
 have pb9 : Paired (BoxAt K2) vb bs := Paired.mapP pd7.pb fun _ _ z => Tp.keep (Same.tk s82) z
 have pS9 : Paired (NpAt K2) vs' nds' := Paired.mapP pS fun _ _ z => NpAt.keep ((Same.tk zst).trans (Same.tk s82)) z
 have pgx : PgX K2 g1 bs nds' := ⟨⟨B1, I1, N1, vb, vs', ins, ze0 _ _ gg1, ze0 _ _ gB1, ze0 _ _ gI1, ze0 _ _ gN1, pb9, pS9⟩, b4, ok.bx.sz, by have := bad.n41; omega, bad.ld, bad.po⟩
 have blt := bad.lt
 refine ⟨3, (nd : Int), g1, e0, bs, nds', [], rfl, pgx, ye0, Nat.zero_le _, lgn, .inr (.inr ⟨rfl, fun z => absurd ⟨by omega, by omega⟩ z, fun _ _ _ Hf sf => ?_, fun _ _ z => absurd (by rw [Int.toNat_natCast] at z; exact z) bad.no⟩)⟩
 have sKf := same_trans ze0 sf
 have s8f := same_trans s8 sKf
 refine ⟨rfl, _, rfl, iteT' (by decide) ⟨_, rfl, _, rfl, true, copy_rb (sKf _ _ gg1) (s8f _ _ yst) (sKf _ _ gB1) (sKf _ _ gI1) (sKf _ _ gN1) (s8f _ _ pd7.hB) (s8f _ _ pd7.hI) (s8f _ _ (zst _ _ gS)) (Paired.mapP pb9 fun _ _ z => Tp.keep (Same.tk sf) z) (Paired.mapP pS9 fun _ _ z => NpAt.keep (Same.tk sf) z), ?_⟩⟩
 exact q _ (l1.trans (l17.trans (Rl.of l17.rl s8f)))
theorem has_noC (s : Src K mg "_law_no_change" sNoC) (m_len : mg "len" = none) (m_int : mg "int" = none) (m_range : mg "range" = none) (NX0 : Has P w K mg base "_law_next" ["pot", "many"] 1 spNext) (CP0 : Has P w K mg base "_law_copy" ["program"] 1 spCopy) (LD0 : Has P w K mg base "_law_led" ["node", "change"] 1 spLed) (PL0 : Has P w K mg base "_law_plant" ["pot", "program"] 7 spPla) (RF : Has P w K mg base "_law_refused" ["way", "program", "node", "named"] 44 spRefd) (SPO : Has P w K mg base "_law_spoilt" ["pot", "nodes", "node", "way"] 44 spSpo) : Has P w K mg base "_law_no_change" ["pot", "program"] 45 spNoC :=
  let ⟨f, fd, F, m⟩ := s
  ⟨f, fd, ok_noC F m_len m_int m_range NX0 CP0 LD0 PL0 RF SPO, F.kp, bnd2 F fun _ _ _ _ _ _ _ _ => rfl, m⟩
theorem ne_reel {H : Hp} {r a : Addr} {xs : List V} (h : Reel H r) (ha : H a = some (.lst xs)) (hx : ∀ i j : Int, xs ≠ [.int i, .int j]) : a ≠ r := fun e => by
  obtain ⟨i, j, h1, _⟩ := h
  rw [e, h1] at ha
  cases ha
  exact hx i j rfl
abbrev sLaw : Stmt := top 55
def spLaw (K : PySem.W.Frag) : Sp := fun vs H Q _ => ∃ (a : Addr) (ns : List Int), vs = [.ref a] ∧ SqL K H a (ns.map V.int) ∧ ns.length ≤ 63 ∧ ∀ H', Q (.bl true) H'
theorem cut_any (xs : List V) (n : Nat) : cutV xs none (some (n : Int)) = xs.take n := by
  unfold cutV
  have e0 : HT.sIx xs.length 0 none = 0 := rfl
  have e1 : HT.sIx xs.length xs.length (some (n : Int)) = min n xs.length := HT.sIx_nat _ _ _
  rw [e0, e1, List.drop_zero, Nat.sub_zero]
  by_cases h : n ≤ xs.length
  · rw [Nat.min_eq_left h]
  · rw [Nat.min_eq_right (by omega), List.take_length, List.take_of_length_le (by omega)]
structure Pts (H : Hp) (L : Addr) (ps : List Addr) : Prop where
  hL : H L = some (.lst (ps.map V.ref))
  hr : ∀ p ∈ ps, Reel H p
theorem Pts.go {H H' : Hp} {L r : Addr} {ps : List Addr} (h : Pts H L ps) (hr : r ∈ ps) (l : Rl r H H') : Pts H' L ps := by
  refine ⟨l.k _ _ (ne_reel (h.hr r hr) h.hL fun i j e => ?_) h.hL, fun p hp => ?_⟩
  · match ps, e with
    | a :: _, e => exact nomatch e
  · by_cases e : p = r
    · rw [e]; exact l.rl
    · obtain ⟨a, b, h1, h2⟩ := h.hr p hp
      exact ⟨a, b, l.k _ _ e h1, h2⟩
theorem scLaw : FnScope ["script", "pot", "program"] ["script"] (defScope sLaw) := ⟨rfl, rfl, rfl, by decide +kernel, rfl, by decide +kernel, by decide +kernel⟩
theorem gLaw_law_no_change : GLB sLaw "_law_no_change" := by decide +kernel
theorem gLaw_law_no_node : GLB sLaw "_law_no_node" := by decide +kernel
theorem gLaw_law_pots : GLB sLaw "_law_pots" := by decide +kernel
theorem gLaw_law_some_program : GLB sLaw "_law_some_program" := by decide +kernel
theorem ok_law {f : Addr} {fd : FuncData} (F : Fun K "law" "law" sLaw f fd) (PO0 : Has P w K mg base "_law_pots" ["script"] 1 (spPots K)) (SP0 : Has P w K mg base "_law_some_program" ["pot", "most", "wide", "longest"] 11 spSomeP) (NN0 : Has P w K mg base "_law_no_node" ["pot", "program"] 45 spNoN) (NC0 : Has P w K mg base "_law_no_change" ["pot", "program"] 45 spNoC) : FnOk P w K mg base CX0 65 f fd ["script"] (spLaw K) := by
 refine F.ok scLaw (fun vs H Q E h => ?_) (fun cdv A outer s H vs Q E hr h => ?_)
 · obtain ⟨a, ns, rfl, _⟩ := h
   rfl
 obtain ⟨a, ns, rfl, ha, nl, q⟩ := h
 have PO := PO0.mono (show 1 ≤ 64 by omega)
 have SP := SP0.mono (show 11 ≤ 64 by omega)
 have NN := NN0.mono (show 45 ≤ 64 by omega)
 have NC := NC0.mono (show 45 ≤ 64 by omega)
 refine goL ⟨_, (L3.cons (L3.for_ (L3.iL (L3.own PO hr gLaw_law_pots (L3.k (L3.slL2 (L3.v 0) L3.int) L3.n))) (L3.gn 1 scLaw.nd) (L3.cons (L3.set 2 scLaw.nd (L3.own SP hr gLaw_law_some_program (L3.k (L3.v 1) (L3.k L3.int (L3.k L3.int (L3.k L3.int L3.n))))))
   (L3.one (L3.ifs (L3.tw (L3.or2 (L3.nt (L3.tval (L3.own NN hr gLaw_law_no_node (L3.k (L3.v 1) (L3.k (L3.v 2) L3.n))))) (L3.or1 (L3.nt (L3.tval (L3.own NC hr gLaw_law_no_change (L3.k (L3.v 1) (L3.k (L3.v 2) L3.n)))))))) (L3.one (L3.ret L3.bl)) L3.nil))))
   (L3.one (L3.ret L3.bl))), ?_⟩
 refine cut1 fun Rk kR => ?_
 refine ⟨_, rfl, _, rfl, a, _, rfl, ha, fun l hl => ?_⟩
 rw [show (30 : Int) = ((30 : Nat) : Int) from rfl, cut_any, ← List.map_take]
 have s1 := same_new hl (.lst ((ns.take 30).map V.int))
 have g1 : (upd H l (.lst ((ns.take 30).map V.int))) l = some (.lst ((ns.take 30).map V.int)) := upd_same
 generalize upd H l (.lst ((ns.take 30).map V.int)) = H1 at s1 g1 ⊢
 refine ⟨l, ns.take 30, rfl, SqL.of g1, by rw [List.length_take]; omega, fun L ps H2 s2 nL gL p1 p63 nd hps => ?_⟩
 have pt2 : Pts H2 L ps := ⟨gL, fun p hp => (hps p hp).2.2⟩
 refine ⟨L, rfl, ⟨_, SqL.of gL⟩, ?_⟩
 refine for_list (xs := ps.map V.ref) (fun i σ Hx => (∃ o1 o2, σ = [some (.ref a), o1, o2]) ∧ Pts Hx L ps) ⟨⟨_, _, rfl⟩, pt2⟩ (fun i σ Hx _ z => SqL.of z.2.hL) (fun i x0 σ Hx hx z => ?_) (fun σ Hx z => ?_)
 · obtain ⟨⟨o1, o2, rfl⟩, pt⟩ := z
   obtain ⟨r, hr0, rfl⟩ := map_get hx
   have hrm := List.mem_of_getElem? hr0
   refine gn_go ?_
   refine normS [some (.ref a), some (.ref r), o2] rfl ?_
   refine cut1 fun Rk2 kR2 => ?_
   refine ⟨_, rfl, r, 65536, 16, 40, rfl, pt.hr r hrm, by decide, by decide, by decide, by decide, by decide, by decide, fun p B I N vb vn bs ins nds H3 l3 hp pd ok => ?_⟩
   refine gn_go ?_
   refine kR2 _ _ ?_
   clear kR2
   refine normS [some (.ref a), some (.ref r), some (.ref p)] rfl ?_
   refine ⟨_, rfl, _, rfl, r, p, B, I, N, vb, vn, bs, ins, nds, 65536, 40, rfl, l3.rl, hp, pd, ok, by decide, fun H4 l4 => ?_⟩
   have hp4 := Rl.tk l3.rl l4 _ _ hp
   have pd4 := pd.go l3.rl l4
   refine ⟨_, rfl, iteF' rfl ⟨_, rfl, _, rfl, r, p, B, I, N, vb, vn, bs, ins, nds, 65536, 40, rfl, l4.rl, hp4, pd4, ok, by decide, fun H5 l5 => ?_⟩⟩
   exact ⟨_, rfl, iteF' rfl ⟨⟨_, _, rfl⟩, pt.go hrm (l3.trans (l4.trans l5))⟩⟩
 obtain ⟨⟨o1, o2, rfl⟩, pt⟩ := z
 refine kR _ _ ?_
 exact q _
end
end TW
namespace TW
open PySem L2
theorem all_of {P : Program} {w : World} {K : PySem.W.Frag} {mg : Str → Option Value} {fa : Addr} (hfa : mg "law" = some (.ref fa)) (t : Tops w K mg) :
    ∃ fd : FuncData, (∀ (s : Shared) (u : Value), BindsTo s fd ⟨[u], []⟩ [("script", u)]) ∧ ∀ base : Heap, K.In base → base.Ns mainGlobals mg → FnOk P w K mg base CX0 65 fa fd ["script"] (spLaw K) := by
  obtain ⟨f, fd, F, m⟩ := t.s_law
  have e := hfa.symm.trans m
  cases e
  refine ⟨fd, fun s u => ?_, fun base _ _ => ?_⟩
  · obtain ⟨oc, od, kV, doc, pm, an, cdv, ct, osl, rfl, lk, hcd⟩ := F.ex
    exact .of_eq rfl
  obtain ⟨tY, mY, cY⟩ := t.c_YES
  obtain ⟨tO, mO, cO⟩ := t.c_NOUGHT
  obtain ⟨T, cNoNode, cNoChange, dNoForm, dNoneYet, dNoPair, dNoPaper, dNoPicks, dNoProgram, dNoRow, dNoWorths, dTooMany, R⟩ := t.cl
  have NX : Has P w K mg base "_law_next" ["pot", "many"] 1 spNext := has_next t.s_law_next
  have PO : Has P w K mg base "_law_pots" ["script"] 1 (spPots K) := has_pots t.s_law_pots t.m_len
  have SB := has_someB t.s_law_some_boxes t.m_min NX
  have SM := has_sum t.s_law_any_sum t.m_len NX
  have CO := has_cond t.s_law_any_condition NX (SM 4)
  have NO := has_node t.s_law_one_node t.m_len t.m_int NX (SM 4) (CO 3)
  have SP := has_someP t.s_law_some_program t.m_len t.m_range NX SB NO
  have CP : Has P w K mg base "_law_copy" ["program"] 1 spCopy := has_copy t.s_law_copy t.m_list
  have LD : Has P w K mg base "_law_led" ["node", "change"] 1 spLed := has_led t.s_law_led
  have LE : Has P w K mg base "leads_of" ["node"] 1 spLeads := has_leads t.s_leads_of
  have LA0 : Has P w K mg base "led_anew" ["node", "leads"] 1 spLedA := has_ledA t.s_led_anew t.m_len t.m_tuple
  have WN : Has P w K mg base "with_nodes" ["program", "nodes"] 1 spWithN := has_withN t.s_with_nodes t.m_list
  have J : ∀ n : Nat, Has P w K mg base "joined_by" ["word", "parts"] (n + 1) (spJoin K n) := has_joined t.s_joined_by t.m_len
  have AO := has_allOf t.s_all_of (J 6)
  have BS := has_boxS t.s_boxes_same mY cY AO
  have AS := has_allS t.s_all_same BS
  have LV : Has P w K mg base "level_entry" ["program", "place", "new_place", "condition"] 1 (spLevE tO) := has_levE t.s_level_entry mO
  have PA : ∀ n : Nat, Has P w K mg base "parts_of" ["sum_told"] (n + 2) (spPaO n) := has_paO t.s_parts_of t.m_list
  have SPt : Has P w K mg base "small_part" ["many", "size"] 1 spSmP := has_smP t.s_small_part
  have JN : ∀ n : Nat, Has P w K mg base "joined_by" ["word", "parts"] (n + 1) (spJn n) := has_jn t.s_joined_by t.m_len
  have AN := has_allN t.s_all_of (JN 12)
  have AY := has_anyO t.s_any_of t.m_len AN
  have SS := has_smS t.s_small_sum t.m_max t.m_min t.m_len SPt (PA 30) (JN 12)
  have PM := has_puM t.s_put_made t.m_range SS AY
  have BP := has_btP t.s_between_puts t.m_dict PM BS AN
  have NB : ∀ n : Nat, Has P w K mg base "names_box" ["sum_told", "name"] (n + 1) (spNmB n) := has_nmB t.s_names_box t.c_PARTED t.m_any
  have RE := has_reE t.s_refuse_exchange t.m_enumerate t.m_any R.x_NoChange LE (NB 40)
  have RN : HasX P w K mg base "refuse_no_nodes" ["program", "numbers"] 1 (spRNX cNoNode) := has_rNX t.s_refuse_no_nodes t.m_len R.x_NoNode
  have EX := has_exP t.s_exchanged_puts t.m_len t.m_list t.m_range t.m_enumerate RN RE AS LA0 LE BP LV WN
  have PL := has_pla t.s_law_plant t.m_len t.m_list t.m_range NX (SM 4) LD
  have SN := has_spX t.s_split_node RN
  have TO := has_toX t.s_told_over RN
  have RF := has_refd t.s_law_refused R t.m_isinstance t.m_ValueError t.m_int SN TO EX
  have NN := has_noN t.s_law_no_node t.m_len t.m_list t.m_range NX CP RF
  have DE : Has P w K mg base "_law_deep" ["pot", "told"] 2 spDee := has_dee t.s_law_deep t.m_range NX
  have SPO := has_spo t.s_law_spoilt t.m_len t.m_list t.m_range NX (DE.mono (by decide))
  have NC := has_noC t.s_law_no_change t.m_len t.m_int t.m_range NX CP LD PL RF SPO
  exact ok_law F PO SP NN NC
end TW
namespace TW
open PySem L2
theorem walk {l : PySem.W.OpenLaw} {q : Program} {loose : List Str} {XP : (Str → Option Value) → Heap → Prop} {YP : World → Heap → Prop} {d : DefRec} {K : Params → PySem.W.Frag} (hn : l.most = some 63) (hdf : d.params.defaults = [])
    (hY : ∀ (w : World) (h : Heap), YP w h → (K w.params).In h)
    (F : ∀ (w : World) (mg : Str → Option Value) (fa : Addr) (h : Heap), (K w.params).In h → h.Ns mainGlobals mg → mg d.name = some (.ref fa) →
      ∃ fd : FuncData, (∀ (s : Shared) (u : Value), BindsTo s fd ⟨[u], []⟩ [("script", u)]) ∧ ∀ base : Heap, (K w.params).In base → base.Ns mainGlobals mg → FnOk l.prog w (K w.params) mg base CX0 65 fa fd ["script"] (spLaw (K w.params))) :
    PySem.W.WalkO q loose XP YP l.row.toRowW d [] (fun f vs => PySem.call f vs) :=
  L2.walk_of (n := 63) (k := 65) (x := "script") (CX := fun _ => CX0) (sp := fun w => spLaw (K w.params)) hn (by decide) hdf ⟨rfl, by decide, by decide⟩ hY F (fun _ _ a ns hl _ hS => ⟨a, ns, rfl, hS, hl, fun _ => rfl⟩) fun _ _ _ _ _ z => z
end TW
namespace PySem.W.Fast
def tw1002057482111753184:=0
def tw10082677921010500686:=0
def tw10111152421241504208:=0
def tw10204724936009331157:=0
def tw10227848154569786838:=0
def tw10269217980358574239:=0
def tw10270251322777641598:=0
def tw10318443860396731449:=0
def tw1034976257332752990:=0
def tw10405715965654755276:=0
def tw10460661297227465859:=0
def tw1053774720967302294:=0
def tw10650498174236831358:=0
def tw10667909692187748687:=0
def tw10788378711743979370:=0
def tw1087109157688620533:=0
def tw1089004515022793004:=0
def tw10972087090320366186:=0
def tw10993313805790841211:=0
def tw10998067879976166262:=0
def tw11074343936893722327:=0
def tw11082040465067599614:=0
def tw11171211500023347346:=0
def tw11217916485374950257:=0
def tw1122711448590686707:=0
def tw11320125522279673831:=0
def tw11348674584097772490:=0
def tw11469588502502648019:=0
def tw1153528086803905861:=0
def tw1156810659637404296:=0
def tw11573746144486571587:=0
def tw11597118678247151320:=0
def tw1167365922462202:=0
def tw11796693203866440983:=0
def tw11828002649579479990:=0
def tw11834881599356186945:=0
def tw11928028829303556736:=0
def tw11947403095325601830:=0
def tw12041470832291496335:=0
def tw12078334332770469090:=0
def tw12144535191671733577:=0
def tw12181274560059649251:=0
def tw12184662370886024359:=0
def tw12201015198259319041:=0
def tw12235663944228727501:=0
def tw12235755070056246823:=0
def tw12239556562078744926:=0
def tw12252858930410775197:=0
def tw12281746723412587898:=0
def tw12347749181267444220:=0
def tw12393192004408465976:=0
def tw12496410519962305712:=0
def tw1249725307739173465:=0
def tw12527839815823406252:=0
def tw12544825231246734703:=0
def tw12560836129894648324:=0
def tw12582080697388156402:=0
def tw12665363783062693127:=0
def tw12680824741422073971:=0
def tw12769713459682403088:=0
def tw12801963338517789800:=0
def tw12804723335700821209:=0
def tw12815976104003584179:=0
def tw12901083982322898277:=0
def tw12906459363217771911:=0
def tw12928994605984390339:=0
def tw12951792936480934142:=0
def tw13111255967335109374:=0
def tw13151578803693956148:=0
def tw13233129255963001473:=0
def tw13285907661771663443:=0
def tw13298142303121659249:=0
def tw13309447079278371543:=0
def tw1331360472606473062:=0
def tw13382821801282219918:=0
def tw13416593756244421438:=0
def tw13459409942798638037:=0
def tw13497237035748282064:=0
def tw13528979099088487871:=0
def tw13547249278677476176:=0
def tw13612657771339951048:=0
def tw13619933420694913709:=0
def tw13623877479354879227:=0
def tw13643336688294488256:=0
def tw13659876328834992259:=0
def tw13766726625635654144:=0
def tw13843285610707405583:=0
def tw13851188947715260425:=0
def tw13855322001888427729:=0
def tw13861393586105820051:=0
def tw13885379586006383536:=0
def tw13887577214562008600:=0
def tw13936527338702491935:=0
def tw13943314761297130069:=0
def tw13993947090805028542:=0
def tw1404530790812944460:=0
def tw14071086161875616803:=0
def tw14152036752729074550:=0
def tw14177295180154997277:=0
def tw14188188609167013203:=0
def tw14256757802209498165:=0
def tw14299236170630415575:=0
def tw14301135550468376385:=0
def tw14327670564730670479:=0
def tw14327997052559151915:=0
def tw14413675424308758554:=0
def tw14440742627825751120:=0
def tw14473677019950901183:=0
def tw14503237736371569011:=0
def tw14518391653180941200:=0
def tw14522713854634839074:=0
def tw14529328678384648479:=0
def tw14531834502897022013:=0
def tw14562546229330533403:=0
def tw14663893505682127015:=0
def tw14679640971859354928:=0
def tw14762963536836428232:=0
def tw1479790102455169936:=0
def tw14822301932534739559:=0
def tw14845715522003210602:=0
def tw14944211754812973316:=0
def tw14986026068708471279:=0
def tw14990096960752179448:=0
def tw15022291879295204604:=0
def tw15036852893220295237:=0
def tw15106286778838603600:=0
def tw15110467601172699265:=0
def tw15146793062684427280:=0
def tw15286149043660935126:=0
def tw15294639880902605681:=0
def tw15349700546978007786:=0
def tw15367418260026225653:=0
def tw15407985217927655558:=0
def tw15531836927758207545:=0
def tw15549603072728686457:=0
def tw15691481349858134846:=0
def tw15755834350764044869:=0
def tw15911499602325777215:=0
def tw15991002705140675702:=0
def tw15998680000646894006:=0
def tw16001608545352806019:=0
def tw1606902155390908300:=0
def tw16077366556615404244:=0
def tw16110966988969413662:=0
def tw16111255892013116866:=0
def tw16160682745495123653:=0
def tw16207402640745130961:=0
def tw16306951021901777455:=0
def tw16371211012540729630:=0
def tw16478265682911607499:=0
def tw16484678092868116275:=0
def tw16556859550096381578:=0
def tw1660017965598302351:=0
def tw16606006097892708761:=0
def tw1669324444059601382:=0
def tw16724988307735946739:=0
def tw16796521935459186099:=0
def tw16814750677919261935:=0
def tw16815405778706315195:=0
def tw16860727779249510867:=0
def tw16912572426878491230:=0
def tw1694963065730543067:=0
def tw1705920734643465583:=0
def tw17110863755845057478:=0
def tw17132043555100557678:=0
def tw17179332669482327316:=0
def tw17229083361265078324:=0
def tw17250967074358718726:=0
def tw17322645329518481092:=0
def tw17338865713883366776:=0
def tw17342054533436238752:=0
def tw17545424667235606959:=0
def tw17546978813558997475:=0
def tw17645684003995208331:=0
def tw176650608741665997:=0
def tw17684483645803151159:=0
def tw17703016231243157462:=0
def tw17808922383989798562:=0
def tw1791950179009690399:=0
def tw18017622786261594645:=0
def tw18035377829187523350:=0
def tw18102408368338751356:=0
def tw1813577900067040545:=0
def tw18185129940901125476:=0
def tw18194553986253254310:=0
def tw18290499159687431547:=0
def tw18299704073501302064:=0
def tw18307457354737260977:=0
def tw18314034436059386076:=0
def tw18320015907130825232:=0
def tw18346920466403822970:=0
def tw18398136824383922518:=0
def tw18426174977189395564:=0
def tw18780551821124249:=0
def tw1878326066608712318:=0
def tw1993021225111507973:=0
def tw2016917908067470692:=0
def tw2092776410120784287:=0
def tw2126232821254106428:=0
def tw2126725876108970153:=0
def tw2139856986155807939:=0
def tw2143470384807525100:=0
def tw2153673523609873038:=0
def tw2318496188182542559:=0
def tw2340907862135974820:=0
def tw238401627334757027:=0
def tw2433020970803088599:=0
def tw2448639056164072281:=0
def tw2533765085721691027:=0
def tw2547674114079455836:=0
def tw2617187607060480744:=0
def tw2662996611582368802:=0
def tw2688874273003357313:=0
def tw2750738065741312181:=0
def tw2775404822615169402:=0
def tw2851131683772858768:=0
def tw2858377540202654340:=0
def tw29094846978915050:=0
def tw3021017162837070620:=0
def tw3058277129336037005:=0
def tw3091604253463849372:=0
def tw3094978119640841934:=0
def tw3125009012217405472:=0
def tw3149845906117104843:=0
def tw3216253160540576403:=0
def tw3262267358344796266:=0
def tw3354005281856262046:=0
def tw3390177884604072177:=0
def tw3460835142852212727:=0
def tw3527426951967375579:=0
def tw356478030379335222:=0
def tw3605725869000133066:=0
def tw362977229515000851:=0
def tw3727925275365536168:=0
def tw3731945914346284063:=0
def tw3736342566875489386:=0
def tw3753783686365649819:=0
def tw3772905474205549216:=0
def tw3777372103322576652:=0
def tw3792244419899455976:=0
def tw3860126180297022065:=0
def tw3896569108024907957:=0
def tw3913971400311969692:=0
def tw3967590217831674154:=0
def tw397204124489495454:=0
def tw3984821698284256640:=0
def tw4040537662123439583:=0
def tw4075837032392544967:=0
def tw4113760312461665684:=0
def tw4118625200537468069:=0
def tw4145522488296805112:=0
def tw423995987167939509:=0
def tw4301329616327714023:=0
def tw4355948217598616957:=0
def tw4371413490030829495:=0
def tw4377241381262922405:=0
def tw4377925598793709066:=0
def tw4404790892356746467:=0
def tw4601890721924220798:=0
def tw4603819145812676716:=0
def tw4605352818055869780:=0
def tw4622268896423818950:=0
def tw4721490785718930465:=0
def tw4900918977755033959:=0
def tw4995866269442845795:=0
def tw5116164831485006083:=0
def tw515349308336586596:=0
def tw5184257968740536031:=0
def tw5210500895560120806:=0
def tw5256135904147631963:=0
def tw5341183756050039787:=0
def tw5372740470178690703:=0
def tw542483781201346880:=0
def tw5443914255027171038:=0
def tw5486079046553025542:=0
def tw5510542784621649456:=0
def tw5521138649740071590:=0
def tw5551754016440536088:=0
def tw5641733199623024892:=0
def tw5681890763154732875:=0
def tw5682868066803120033:=0
def tw5694527908253389225:=0
def tw5709903823976087150:=0
def tw5795743240199383571:=0
def tw5829568474189382702:=0
def tw5841693729236351549:=0
def tw5850942900821423500:=0
def tw5940814341907031583:=0
def tw6020210881232473486:=0
def tw6094675866009932648:=0
def tw6122143559105077260:=0
def tw619232815131208318:=0
def tw6232462058527795152:=0
def tw6265771827544308178:=0
def tw6324134193156008222:=0
def tw6342547540190136085:=0
def tw638367139586943853:=0
def tw6686127810056167230:=0
def tw6687568073495923305:=0
def tw6778993932834298080:=0
def tw6792636451067509094:=0
def tw6798473142423986570:=0
def tw6859391365115632121:=0
def tw6870284609957258643:=0
def tw6951472779325407484:=0
def tw6952141915860764920:=0
def tw6976844995215684888:=0
def tw6979814200437691362:=0
def tw7008260109656261751:=0
def tw7056897351146158136:=0
def tw7057763792304720044:=0
def tw7071350538618605904:=0
def tw708799293229481418:=0
def tw7103287842683102480:=0
def tw7240975553047349853:=0
def tw733398792767779747:=0
def tw7353623230060148596:=0
def tw7395177079865948017:=0
def tw7427646561074915212:=0
def tw7484661021967134763:=0
def tw7507567264706192994:=0
def tw7508161525581662872:=0
def tw758059803105559418:=0
def tw7591255118456623325:=0
def tw7618500004712317697:=0
def tw7620566099748359541:=0
def tw7643760736447029740:=0
def tw7714032798309003049:=0
def tw7735988076928368277:=0
def tw7737097638971611461:=0
def tw785403547659943401:=0
def tw7971869196884887637:=0
def tw7985713804003594075:=0
def tw8001223708904172149:=0
def tw8109878287199745599:=0
def tw8117914826557210260:=0
def tw8193111400173425808:=0
def tw8223334035728209673:=0
def tw822459184001791107:=0
def tw8277661356949645774:=0
def tw8315193087510367338:=0
def tw8322849096017866306:=0
def tw8367891263512594469:=0
def tw8414700288924930814:=0
def tw8504432777756679291:=0
def tw861855778834118027:=0
def tw8629531073796526358:=0
def tw8655732193734247737:=0
def tw8660388169006704288:=0
def tw8684751372120929319:=0
def tw8716910157714565186:=0
def tw8723878382349323729:=0
def tw8740029377631844474:=0
def tw8776163283151859241:=0
def tw8804832065728162230:=0
def tw8854080523275826557:=0
def tw8865664480451240566:=0
def tw8878995599943192143:=0
def tw8919499700718724664:=0
def tw8970835775280548652:=0
def tw9019021909575400814:=0
def tw9022114884127356508:=0
def tw9044313488310260943:=0
def tw9054500454540853387:=0
def tw9182602948639256535:=0
def tw922909998568041216:=0
def tw9399559290822771129:=0
def tw944156662806768685:=0
def tw9510666512846439357:=0
def tw9520913027961531216:=0
def tw9542075085465395446:=0
def tw9587062043204348272:=0
def tw9627677933508949768:=0
def tw9636831212111692590:=0
def tw9642494879266306737:=0
def tw9657657471554878802:=0
def tw9729132038651848932:=0
def tw972933843948900927:=0
def tw9731017210015818410:=0
def tw9747132274073617330:=0
def tw9878644809553243457:=0
def tw99380563697972078:=0
def tw9949531917586618321:=0
end PySem.W.Fast
open PySem PySem.W PyProof.Rows
set_option maxRecDepth 100000 in
set_option maxHeartbeats 0 in
theorem PySem.Challenge.cw_twinwalk_k67_made_over_refused_holds : PySem.Challenge.rw_twinwalk_k67_made_over_refused.Holds := by
  w_on; o_law; k_head; (case hw => w_witness2)
  k_fill
  refine TW.walk (l := PySem.Challenge.rw_twinwalk_k67_made_over_refused) rfl rfl (fun w h Y => PySem.W.kIn_of Y) ?F
  case F =>
    intro w mg fa h KX G hmg
    refine TW.all_of hmg ?_
    refine' (⟨TW.src_mk KX G ?_ ?_ ?_ ?_, TW.src_mk KX G ?_ ?_ ?_ ?_, TW.src_mk KX G ?_ ?_ ?_ ?_, TW.src_mk KX G ?_ ?_ ?_ ?_, TW.src_mk KX G ?_ ?_ ?_ ?_, TW.src_mk KX G ?_ ?_ ?_ ?_, TW.src_mk KX G ?_ ?_ ?_ ?_, TW.src_mk KX G ?_ ?_ ?_ ?_, TW.src_mk KX G ?_ ?_ ?_ ?_, TW.src_mk KX G ?_ ?_ ?_ ?_, TW.src_mk KX G ?_ ?_ ?_ ?_, TW.src_mk KX G ?_ ?_ ?_ ?_, TW.src_mk KX G ?_ ?_ ?_ ?_, TW.src_mk KX G ?_ ?_ ?_ ?_, TW.src_mk KX G ?_ ?_ ?_ ?_, TW.src_mk KX G ?_ ?_ ?_ ?_, TW.src_mk KX G ?_ ?_ ?_ ?_, TW.src_mk KX G ?_ ?_ ?_ ?_, TW.src_mk KX G ?_ ?_ ?_ ?_, TW.src_mk KX G ?_ ?_ ?_ ?_, TW.src_mk KX G ?_ ?_ ?_ ?_, TW.src_mk KX G ?_ ?_ ?_ ?_, TW.src_mk KX G ?_ ?_ ?_ ?_, TW.src_mk KX G ?_ ?_ ?_ ?_, TW.src_mk KX G ?_ ?_ ?_ ?_, TW.src_mk KX G ?_ ?_ ?_ ?_, TW.src_mk KX G ?_ ?_ ?_ ?_, TW.src_mk KX G ?_ ?_ ?_ ?_, TW.src_mk KX G ?_ ?_ ?_ ?_, TW.src_mk KX G ?_ ?_ ?_ ?_, TW.src_mk KX G ?_ ?_ ?_ ?_, TW.src_mk KX G ?_ ?_ ?_ ?_, TW.src_mk KX G ?_ ?_ ?_ ?_, TW.src_mk KX G ?_ ?_ ?_ ?_, TW.src_mk KX G ?_ ?_ ?_ ?_, TW.src_mk KX G ?_ ?_ ?_ ?_, TW.tupC_mk KX G ?_ ?_ ?_ ?_ ?_, TW.tupC_mk KX G ?_ ?_ ?_ ?_ ?_, ⟨_, PySem.W.mg_of KX G ?_, TW.tw_mk ?_ ?_ ?_⟩, ⟨_, _, _, _, _, _, _, _, _, _, _, _, TW.xc_mk KX G ?_ ?_ ?_ ?_, TW.xc_mk KX G ?_ ?_ ?xl_NoNode ?_, TW.xck_mk ?_ ?_ ?_ ?xhn ?xtk ?_ ?_ ?xl_NoNode, ?_, ?_, ?_, ?_, TW.xc_mk KX G ?_ ?_ ?xl_NoChange ?_, TW.xck_mk ?_ ?_ ?_ ?xhn ?xtk ?_ ?_ ?xl_NoChange, ?_, ?_, ?_, ?_, PySem.W.mg_of KX G ?_, PySem.W.mg_of KX G ?_, PySem.W.mg_of KX G ?_, PySem.W.mg_of KX G ?_, PySem.W.mg_of KX G ?_, PySem.W.mg_of KX G ?_, PySem.W.mg_of KX G ?_, PySem.W.mg_of KX G ?_, PySem.W.mg_of KX G ?_⟩, PySem.W.mg_none_of KX G ?_, PySem.W.mg_none_of KX G ?_, PySem.W.mg_none_of KX G ?_, PySem.W.mg_none_of KX G ?_, PySem.W.mg_none_of KX G ?_, PySem.W.mg_none_of KX G ?_, PySem.W.mg_none_of KX G ?_, PySem.W.mg_none_of KX G ?_, PySem.W.mg_none_of KX G ?_, PySem.W.mg_none_of KX G ?_, PySem.W.mg_none_of KX G ?_, PySem.W.mg_none_of KX G ?_⟩ : TW.Tops _ _ _)
    (try any_goals first | k_is | k_exc | rfl | ((repeat (first | exact TW.pr_nil | refine TW.pr_cs ⟨_, rfl⟩ rfl ?_ | refine TW.pr_cs ⟨_, rfl⟩ ⟨_, rfl⟩ ?_)); done))
    (try any_goals first | k_is | k_exc | rfl | ((repeat (first | exact TW.pr_nil | refine TW.pr_cs ⟨_, rfl⟩ rfl ?_ | refine TW.pr_cs ⟨_, rfl⟩ ⟨_, rfl⟩ ?_)); done))
    all_goals first | kit_is | decide | rfl | exact ⟨_, rfl⟩ | (k_keys; done) | (repeat' constructor)
