import PyProof.Rows.All
import Wide.All
import OpenK.AllK
import Wide.FinOn
import Lean
import PyProof.EqAt
import PyProof.EqKinds
import PyProof.NeKinds
import PyProof.TupleCall
import PySem.Challenge.RW_dearsigns_k02_fractions_reckoned
/-! ===== LayL ===== -/
set_option Elab.async false
set_option linter.all false
set_option maxRecDepth 100000
/-! THE HAND LAYER, for ints, bools, texts, own classes, LISTS and tuples (index, slices, in, append, pop ..), calls, loops. Paste it whole ahead of your own text; what your proof does not reach may be deleted. -/
namespace L2
open PySem PySem.Spec PyProof.Rows

/-- a key: an int or a str -/
abbrev Key := Sum Int Str
def keyIs : Key → Value → Bool
  | .inl k, v => Value.isInt k v
  | .inr x, v => Value.isStrOf x v
def keyH (w : World) : Key → Int
  | .inl k => hashInt k
  | .inr x => hashStr w x
theorem keyIs_shape : ∀ {k : Key} {v : Value}, keyIs k v = true → (∃ i t, k = Sum.inl i ∧ v = Value.int i t) ∨ (∃ x t, k = Sum.inr x ∧ v = Value.str x t)
  | .inl i, v, h => by
    obtain ⟨t, e⟩ := Value.isInt_shape (k := i) (v := v) h
    exact .inl ⟨i, t, rfl, e⟩
  | .inr x, v, h => by
    obtain ⟨t, e⟩ := Value.isStrOf_shape (x := x) (v := v) h
    exact .inr ⟨x, t, rfl, e⟩
theorem key_ll (a b : Int) : decide ((Sum.inl a : Key) = Sum.inl b) = (a == b) := by
  by_cases e : a = b
  · subst e; simp
  · have h : ¬ (Sum.inl a : Key) = Sum.inl b := fun q => e (Sum.inl.inj q)
    rw [decide_eq_false h]
    exact (beq_eq_false_iff_ne.mpr e).symm
theorem key_rr (a b : Str) : decide ((Sum.inr a : Key) = Sum.inr b) = decide (a = b) := by
  by_cases e : a = b
  · subst e; simp
  · have h : ¬ (Sum.inr a : Key) = Sum.inr b := fun q => e (Sum.inr.inj q)
    rw [decide_eq_false h, decide_eq_false e]
theorem key_lr (a : Int) (b : Str) : decide ((Sum.inl a : Key) = Sum.inr b) = false := decide_eq_false (fun q => nomatch q)
theorem key_rl (a : Str) (b : Int) : decide ((Sum.inr a : Key) = Sum.inl b) = false := decide_eq_false (fun q => nomatch q)

def mixKind (prog : Program) (w : World) : PySem.KeyKind prog w Key where
  is := keyIs
  hash := keyH w
  inj := fun v a b ha hb => by
    rcases keyIs_shape ha with ⟨i, t, rfl, rfl⟩ | ⟨x, t, rfl, rfl⟩
    · rcases keyIs_shape hb with ⟨j, u, rfl, e⟩ | ⟨y, u, rfl, e⟩
      · injection e with e1 _; rw [e1]
      · exact nomatch e
    · rcases keyIs_shape hb with ⟨j, u, rfl, e⟩ | ⟨y, u, rfl, e⟩
      · exact nomatch e
      · injection e with e1 _; rw [e1]
  byValue := fun k v h => by
    rcases keyIs_shape h with ⟨i, t, rfl, rfl⟩ | ⟨x, t, rfl, rfl⟩ <;> rfl
  pyHash := fun hv h => by
    rcases keyIs_shape hv with ⟨i, t, rfl, rfl⟩ | ⟨x, t, rfl, rfl⟩
    · exact wpAny_pyHash_int h
    · exact wpAny_pyHash_str h
  eqBool := fun hu hv h => by
    rcases keyIs_shape hu with ⟨i, t, rfl, rfl⟩ | ⟨x, t, rfl, rfl⟩
    · rcases keyIs_shape hv with ⟨j, u, rfl, rfl⟩ | ⟨y, u, rfl, rfl⟩
      · rw [key_ll] at h; exact wpAny_eqBool_int h
      · rw [key_lr] at h; exact SeqAt.EqAt.int_str i t y u _ _ _ _ h
    · rcases keyIs_shape hv with ⟨j, u, rfl, rfl⟩ | ⟨y, u, rfl, rfl⟩
      · rw [key_rl] at h; exact SeqAt.EqAt.str_int x t j u _ _ _ _ h
      · rw [key_rr] at h; exact wpAny_eqBool_str h
  «strs» := fun k x t v h => by
    rcases keyIs_shape h with ⟨i, u, rfl, e⟩ | ⟨y, u, rfl, e⟩
    · exact nomatch e
    · injection e with e1 _
      subst e1
      cases v <;> rfl

end L2

namespace L2
open PySem PySem.Spec PyProof.Rows

/-- a value, without the heap -/
inductive V where
  | non | bl (b : Bool) | int (i : Int) | str (x : Str) | byt (b : Array UInt8) | flt (b : UInt64) | ref (a : Addr) | ty (n : String)
  deriving DecidableEq

def RelV : V → Value → Prop
  | .non, u => u = Value.none
  | .bl b, u => u = Value.bool b
  | .int i, u => ∃ t, u = Value.int i t
  | .str x, u => ∃ t, u = Value.str x t
  | .byt b, u => ∃ t, u = Value.bytes b t
  | .flt b, u => ∃ t, u = Value.float b t
  | .ref a, u => u = Value.ref a
  | .ty n, u => u = Value.type n

abbrev Vals : List V → List Value → Prop := Paired RelV
theorem Vals.length {xs : List V} {us : List Value} (r : Vals xs us) : xs.length = us.length := Paired.length r
theorem Vals.get : ∀ {xs : List V} {us : List Value} {i : Nat} {x : V}, Vals xs us → xs[i]? = some x → ∃ u, us[i]? = some u ∧ RelV x u
  | _, _, _, _, .nil, e => by simp at e
  | _, _, 0, _, .cons r _, e => by simp at e; subst e; exact ⟨_, rfl, r⟩
  | _, _, i + 1, x, .cons _ t, e => by
    obtain ⟨u, h1, h2⟩ := Vals.get (i := i) (x := x) t (by simpa using e)
    exact ⟨u, by simpa using h1, h2⟩
theorem Vals.set {x : V} {u : Value} (r : RelV x u) : ∀ {xs : List V} {us : List Value} (i : Nat), Vals xs us → Vals (xs.set i x) (us.set i u)
  | _, _, _, .nil => .nil
  | _, _, 0, .cons _ t => .cons r t
  | _, _, i + 1, .cons q t => .cons q (Vals.set r i t)
theorem Vals.append : ∀ {xs ys : List V} {us ws : List Value}, Vals xs us → Vals ys ws → Vals (xs ++ ys) (us ++ ws)
  | _, _, _, _, .nil, s => s
  | _, _, _, _, .cons r t, s => .cons r (Vals.append t s)
theorem Vals.take : ∀ {xs : List V} {us : List Value} (n : Nat), Vals xs us → Vals (xs.take n) (us.take n)
  | _, _, 0, _ => .nil
  | _, _, _ + 1, .nil => .nil
  | _, _, n + 1, .cons r t => .cons r (Vals.take n t)
theorem Vals.drop : ∀ {xs : List V} {us : List Value} (n : Nat), Vals xs us → Vals (xs.drop n) (us.drop n)
  | _, _, 0, r => r
  | _, _, _ + 1, .nil => .nil
  | _, _, n + 1, .cons _ t => Vals.drop n t

def RelO : Option V → Option Value → Prop
  | some v, some u => RelV v u
  | none, none => True
  | _, _ => False
def KV {κ : Type} : List (κ × V) → List (κ × Value) → Prop := Paired fun (p : κ × V) (q : κ × Value) => p.1 = q.1 ∧ RelV p.2 q.2

/-- a key of a dict (00_mix): an int or a text -/
def kV : Key → V
  | .inl i => .int i
  | .inr x => .str x

/-- what stands at a tracked address -/
inductive HO where
  /-- a list -/
  | lst (xs : List V)
  /-- a tuple (never changes) -/
  | tup (xs : List V)
  /-- a dict whose keys are ints and texts; one whose keys are tuples of ints and texts (the empty one is both) -/
  | dK (kvs : List (Key × V)) | dT (kvs : List (List Key × V))
  /-- a set of ints: its members, its size -/
  | set (S : Int → Bool) (n : Nat)
  /-- an instance of the class at C, its dict at dx, its attributes -/
  | ins (C dx : Addr) (fs : List (Str × V))
  /-- the dict of the instance at x -/
  | own (x : Addr)
  /-- the dict of an exception -/
  | xd (fs : List (Str × V))
  /-- a bound method, f of x -/
  | met (f x : Addr)
  /-- a range object lo, lo + 1, .. below hi -/
  | rng (lo hi : Int)
  /-- a thing that is known to the object (the script; a dict while a loop walks it): read, never written while it is so -/
  | frz (o : Obj) (u : HO)
  /-- a code object's table -/
  | tbl (ps : Array Value)
  /-- any other thing, by what is true of its one object (a def of one's own: SetO a S n := HO.ext fun h => ..) -/
  | ext (φ : Heap → Prop)

abbrev Hp := Addr → Option HO
def upd (H : Hp) (a : Addr) (o : HO) : Hp := fun b => if b = a then some o else H b
theorem upd_same {H : Hp} {a : Addr} {o : HO} : upd H a o a = some o := by unfold upd; rw [if_pos rfl]
theorem upd_ne {H : Hp} {a b : Addr} {o : HO} (h : b ≠ a) : upd H a o b = H b := by unfold upd; rw [if_neg h]
theorem ne_of_none {H : Hp} {a b : Addr} {o : HO} (h : H a = some o) (h' : H b = none) : a ≠ b := by
  intro e; subst e; rw [h] at h'; cases h'

section
variable (P : Program) (w : World)
def ObjOk (H : Hp) (h : Heap) (a : Addr) : HO → Prop
  | .lst xs => xs.length ≤ sizeLine ∧ ∃ (its : List Value) (n : Nat), Vals xs its ∧ h.get? a = some { cls := .type "list", data := .seq its.toArray n }
  | .tup xs => xs.length ≤ sizeLine ∧ ∃ its : List Value, Vals xs its ∧ IsTup h a its.toArray
  | .dK kvs => kvs.length ≤ sizeLine ∧ (a == sysModules) = false ∧ ∃ vs, KV kvs vs ∧ h.DictOf (mixKind P w) a vs
  | .dT kvs => kvs.length ≤ sizeLine ∧ (a == sysModules) = false ∧ ∃ xs : List (List Key × Addr × Value),
      Paired (fun (p : List Key × V) (q : List Key × Addr × Value) => p.1 = q.1 ∧ H q.2.1 = some (.tup (p.1.map kV)) ∧ RelV p.2 q.2.2) kvs xs ∧
      ∃ o es ep, h.get? a = some o ∧ o.ExactDict ∧ o.data = .dict es ep ∧ es.toList = xs.map (entryOfKey (tupleKind (mixKind P w))) ∧ (xs.map (·.1)).Nodup
  | .set S n => h.SetOf (intKind P w) a S n
  | .ins C dx fs => H dx = some (.own a) ∧ fs.length ≤ 1000 ∧ dx ≠ a ∧ h.get? a = some (PySem.W.instObj C dx) ∧
      ∃ mA, h.Ns1 dx mA ∧ (∀ f, RelO (fs.lookup f) (mA f)) ∧ PySem.Within mA (fs.map (·.1))
  | .own _ => ∃ o, h.get? a = some o
  | .xd fs => ∃ mA, h.Ns1 a mA ∧ ∀ f, RelO (fs.lookup f) (mA f)
  | .rng lo hi => ∃ t u v, h.get? a = some { cls := .type "range", data := .fields #[.int lo t, .int hi u, .int 1 v] }
  | .frz o u => h.get? a = some o ∧ ObjOk H h a u
  | .tbl ps => h.get? a = some { cls := .none, data := .fields ps }
  | .met f x => h.get? a = some (PySem.W.methodObj (.ref f) (.ref x))
  | .ext φ => φ h ∧ (∃ o, h.get? a = some o) ∧ ∀ h1 h2 : Heap, φ h1 → (∀ o, h1.get? a = some o → h2.get? a = some o) → φ h2
/-- the abstract heap is held -/
def HOk (H : Hp) (h : Heap) : Prop := ∀ a o, H a = some o → ObjOk P w H h a o
end

section
variable {P : Program} {w : World} {H H' : Hp} {h h' : Heap} {a : Addr} {o : HO}
theorem ObjOk.lt (x : ObjOk P w H h a o) : a < h.objs.size := by
  cases o with
  | lst xs => obtain ⟨_, _, _, _, e⟩ := x; exact Heap.lt_size e
  | tup xs => obtain ⟨_, _, _, p⟩ := x; exact p.lt
  | dK kvs => obtain ⟨_, _, _, _, o, _, _, e, _⟩ := x; exact Heap.lt_size e
  | dT kvs => obtain ⟨_, _, _, _, o, _, _, e, _⟩ := x; exact Heap.lt_size e
  | set S n => obtain ⟨o, _, _, _, e, _⟩ := x; exact Heap.lt_size e
  | ins C dx fs => obtain ⟨_, _, _, e, _⟩ := x; exact Heap.lt_size e
  | own y => obtain ⟨_, e⟩ := x; exact Heap.lt_size e
  | xd fs => obtain ⟨_, ⟨_, _, _, e, _⟩, _⟩ := x; exact Heap.lt_size e
  | rng lo hi => obtain ⟨_, _, _, e⟩ := x; exact Heap.lt_size e
  | frz ob u => obtain ⟨e, _⟩ := x; exact Heap.lt_size e
  | tbl ps => exact Heap.lt_size (show h.get? a = some _ from x)
  | met f y => exact Heap.lt_size (show h.get? a = some _ from x)
  | ext φ => obtain ⟨_, ⟨_, e⟩, _⟩ := x; exact Heap.lt_size e
theorem Paired.mapP {α β : Type} {F G : α → β → Prop} : ∀ {l₁ : List α} {l₂ : List β}, Paired F l₁ l₂ → (∀ a b, F a b → G a b) → Paired G l₁ l₂
  | _, _, .nil, _ => .nil
  | _, _, .cons r t, f => .cons (f _ _ r) (Paired.mapP t f)
/-- what an object's description leans on: its own object, its own dict, the tuples -/
theorem ObjOk.stay (x : ObjOk P w H h a o) (k : ∀ b u, (b = a ∨ H b = some (.own a)) → h.get? b = some u → h'.get? b = some u)
    (ho : ∀ b, H b = some (.own a) → H' b = some (.own a)) (ht : ∀ b xs, H b = some (.tup xs) → H' b = some (.tup xs)) : ObjOk P w H' h' a o := by
  induction o with
  | lst xs => obtain ⟨z, its, n, r, e⟩ := x; exact ⟨z, its, n, r, k _ _ (.inl rfl) e⟩
  | tup xs => obtain ⟨z, its, r, ob, e, c⟩ := x; exact ⟨z, its, r, ob, k _ _ (.inl rfl) e, c⟩
  | dK kvs => obtain ⟨z, y, vs, r, ob, es, ep, e, c⟩ := x; exact ⟨z, y, vs, r, ob, es, ep, k _ _ (.inl rfl) e, c⟩
  | dT kvs =>
    obtain ⟨z, y, xs, r, ob, es, ep, e, c⟩ := x
    exact ⟨z, y, xs, Paired.mapP r fun p q z => ⟨z.1, ht _ _ z.2.1, z.2.2⟩, ob, es, ep, k _ _ (.inl rfl) e, c⟩
  | set S n => obtain ⟨ob, es, ep, t, e, c⟩ := x; exact ⟨ob, es, ep, t, k _ _ (.inl rfl) e, c⟩
  | ins C dx fs =>
    obtain ⟨d, z, ne, e, mA, ⟨od, es, ep, e2, c⟩, r⟩ := x
    exact ⟨ho _ d, z, ne, k _ _ (.inl rfl) e, mA, ⟨od, es, ep, k _ _ (.inr d) e2, c⟩, r⟩
  | own y => obtain ⟨ob, e⟩ := x; exact ⟨ob, k _ _ (.inl rfl) e⟩
  | xd fs => obtain ⟨mA, ⟨od, es, ep, e, c⟩, r⟩ := x; exact ⟨mA, ⟨od, es, ep, k _ _ (.inl rfl) e, c⟩, r⟩
  | rng lo hi => obtain ⟨t, u, v, e⟩ := x; exact ⟨t, u, v, k _ _ (.inl rfl) e⟩
  | frz ob u ih => obtain ⟨e, q⟩ := x; exact ⟨k _ _ (.inl rfl) e, ih q⟩
  | tbl ps =>
    have e : h.get? a = some { cls := .none, data := .fields ps } := x
    show h'.get? a = some { cls := .none, data := .fields ps }
    exact k a _ (.inl rfl) e
  | met f y =>
    have e : h.get? a = some (PySem.W.methodObj (.ref f) (.ref y)) := x
    show h'.get? a = some (PySem.W.methodObj (.ref f) (.ref y))
    exact k a _ (.inl rfl) e
  | ext φ => obtain ⟨p, ⟨o, e⟩, st⟩ := x; exact ⟨st _ _ p fun o q => k _ _ (.inl rfl) q, ⟨o, k _ _ (.inl rfl) e⟩, st⟩
theorem HOk.lt (x : HOk P w H h) (e : H a = some o) : a < h.objs.size := (x a o e).lt
theorem HOk.fresh (x : HOk P w H h) (e : h.objs.size ≤ a) : H a = none := by
  cases q : H a with
  | none => rfl
  | some u => exact absurd (Nat.lt_of_lt_of_le (x.lt q) e) (Nat.lt_irrefl _)
/-- every object of the heap is kept -/
theorem HOk.kept (x : HOk P w H h) (k : ∀ b u, h.get? b = some u → h'.get? b = some u) : HOk P w H h' := fun a o e =>
  (x a o e).stay (fun b u _ q => k b u q) (fun _ q => q) fun _ _ q => q
/-- a new object is laid and tracked -/
theorem HOk.laid (x : HOk P w H h) (k : ∀ b u, h.get? b = some u → h'.get? b = some u) (hp : h.objs.size ≤ a) (new : ObjOk P w (upd H a o) h' a o) : HOk P w (upd H a o) h' := fun b u e => by
  have hn := x.fresh hp
  by_cases hb : b = a
  · subst hb; rw [upd_same] at e; cases e; exact new
  · rw [upd_ne hb] at e
    exact (x b u e).stay (fun c v _ q => k c v q) (fun c q => by rw [upd_ne (ne_of_none q hn)]; exact q) fun c xs q => by rw [upd_ne (ne_of_none q hn)]; exact q
end

/-- what may be read as u: it is u, or a known u -/
def Rd (H : Hp) (a : Addr) (u : HO) : Prop := H a = some u ∨ ∃ o, H a = some (.frz o u)
theorem Rd.ok {P : Program} {w : World} {H : Hp} {h : Heap} {a : Addr} {u : HO} (r : Rd H a u) (x : HOk P w H h) : ObjOk P w H h a u := by
  rcases r with r | ⟨o, r⟩
  · exact x a u r
  · obtain ⟨_, q⟩ := x a _ r
    exact q
/-- what may be written -/
def Mut : Option HO → Prop
  | some (.lst _) => True
  | some (.dK _) => True
  | some (.dT _) => True
  | some (.set _ _) => True
  | some (.ins _ _ _) => True
  | some (.ext _) => True
  | _ => False
section
variable {P : Program} {w : World} {H : Hp} {h h' : Heap} {x e : Addr} {o' : HO}
/-- the object at e is changed: x itself, or the dict of the instance x -/
theorem HOk.write (ok : HOk P w H h) (mu : Mut (H x)) (he : e = x ∨ H e = some (.own x)) (k : ∀ b u, b ≠ e → h.get? b = some u → h'.get? b = some u) (heo : ∃ u, h'.get? e = some u)
    (new : ObjOk P w (upd H x o') h' x o') : HOk P w (upd H x o') h' := fun b u q => by
  have nown : ∀ c y, H c = some (.own y) → c ≠ x := fun c y r z => by subst z; rw [r] at mu; exact mu
  have ntup : ∀ c xs, H c = some (.tup xs) → c ≠ x := fun c xs r z => by subst z; rw [r] at mu; exact mu
  by_cases hb : b = x
  · subst hb; rw [upd_same] at q; cases q; exact new
  · rw [upd_ne hb] at q
    by_cases hbe : b = e
    · have q' : H b = some (.own x) := by
        rcases he with z | z
        · exact absurd (hbe.trans z) hb
        · rw [hbe]; exact z
      rw [q] at q'; cases q'
      obtain ⟨v, hv⟩ := heo
      exact ⟨v, by rw [hbe]; exact hv⟩
    · refine (ok b u q).stay (fun c v hc r => k c v ?_ r) (fun c r => by rw [upd_ne (nown c b r)]; exact r) fun c xs r => by rw [upd_ne (ntup c xs r)]; exact r
      rcases hc with rfl | hc
      · exact hbe
      · rintro rfl
        rcases he with z | z
        · exact nown c b hc z
        · rw [hc] at z; cases z; exact hb rfl
end

/-! ### kept unless tracked; of the frames at fs (the callers') the slots may change (an exception that passes writes there); of the records at ex (iterators) nothing is said -/
structure Un (fs ex : List Addr) (H H' : Hp) (h h' : Heap) : Prop where
  keep : ∀ b o, h.get? b = some o → H b = none → b ∉ fs → b ∉ ex → h'.get? b = some o
  slot : ∀ b o, h.get? b = some o → H b = none → b ∈ fs → b ∉ ex → ∃ sl, h'.get? b = some { o with slots := sl }
  free : ∀ b o, h.get? b = some o → H b = none → b ∉ ex → H' b = none
  there : ∀ b o, h.get? b = some o → b ∉ ex → ∃ o', h'.get? b = some o'
  tups : ∀ b xs, H b = some (.tup xs) → H' b = some (.tup xs)
  frzs : ∀ b o u, H b = some (.frz o u) → H' b = some (.frz o u)
  tbls : ∀ b ps, H b = some (.tbl ps) → ∃ more, H' b = some (.tbl (ps ++ more))
section
variable {fs fs' ex ex' : List Addr} {H H1 H2 : Hp} {h h1 h2 h' : Heap} {a x e : Addr} {o : HO}
theorem Un.any (u : Un fs ex H H1 h h1) {b : Addr} {ob : Obj} (q : h.get? b = some ob) (n : H b = none) (hx : b ∉ ex) : ∃ sl, h1.get? b = some { ob with slots := sl } := by
  by_cases hb : b ∈ fs
  · exact u.slot b ob q n hb hx
  · exact ⟨ob.slots, u.keep b ob q n hb hx⟩
theorem Un.trans (a : Un fs ex H H1 h h1) (b : Un fs ex H1 H2 h1 h2) : Un fs ex H H2 h h2 where
  keep := fun c ob q n hc hx => b.keep c ob (a.keep c ob q n hc hx) (a.free c ob q n hx) hc hx
  slot := fun c ob q n hc hx => by
    obtain ⟨sl, e1⟩ := a.slot c ob q n hc hx
    obtain ⟨sl', e2⟩ := b.slot c _ e1 (a.free c ob q n hx) hc hx
    exact ⟨sl', e2⟩
  free := fun c ob q n hx => by
    obtain ⟨o', e1⟩ := a.there c ob q hx
    exact b.free c o' e1 (a.free c ob q n hx) hx
  there := fun c ob q hx => by
    obtain ⟨o', e1⟩ := a.there c ob q hx
    exact b.there c o' e1 hx
  tups := fun c xs q => b.tups c xs (a.tups c xs q)
  frzs := fun c ob xs q => b.frzs c ob xs (a.frzs c ob xs q)
  tbls := fun c ps q => by
    obtain ⟨m1, e1⟩ := a.tbls c ps q
    obtain ⟨m2, e2⟩ := b.tbls c _ e1
    exact ⟨m1 ++ m2, by rw [e2, Array.append_assoc]⟩
theorem Un.kept (k : ∀ b u, h.get? b = some u → h'.get? b = some u) : Un fs ex H H h h' :=
  ⟨fun b ob q _ _ _ => k b ob q, fun b ob q _ _ _ => ⟨ob.slots, k b ob q⟩, fun _ _ _ n _ => n, fun b ob q _ => ⟨ob, k b ob q⟩, fun _ _ q => q, fun _ _ _ q => q, fun _ ps q => ⟨#[], by rw [q]; simp⟩⟩
theorem Un.refl : Un fs ex H H h h := Un.kept fun _ _ q => q
theorem Un.laid (k : ∀ b u, h.get? b = some u → h'.get? b = some u) (hp : h.objs.size ≤ a) (hn : H a = none) : Un fs ex H (upd H a o) h h' where
  keep := fun b u q _ _ _ => k b u q
  slot := fun b u q _ _ _ => ⟨u.slots, k b u q⟩
  free := fun b u q n _ => by rw [upd_ne (Nat.ne_of_lt (Nat.lt_of_lt_of_le (Heap.lt_size q) hp))]; exact n
  there := fun b u q _ => ⟨u, k b u q⟩
  tups := fun b xs q => by rw [upd_ne (ne_of_none q hn)]; exact q
  frzs := fun b u xs q => by rw [upd_ne (ne_of_none q hn)]; exact q
  tbls := fun b ps q => ⟨#[], by rw [upd_ne (ne_of_none q hn), q]; simp⟩
theorem Un.write (mu : Mut (H x)) (he : e = x ∨ H e = some (.own x)) (k : ∀ b u, b ≠ e → h.get? b = some u → h'.get? b = some u) (heo : ∃ u, h'.get? e = some u) : Un fs ex H (upd H x o) h h' := by
  have hx : ∀ b, H b = none → b ≠ x := fun b n z => by subst z; rw [n] at mu; exact mu
  have hb : ∀ b, H b = none → b ≠ e := fun b n z => by
    subst z
    rcases he with r | r
    · exact hx b n r
    · rw [n] at r; cases r
  have hm : ∀ b u, H b = some u → ¬ Mut (some u) → b ≠ x := fun b u q nm z => by subst z; rw [q] at mu; exact nm mu
  refine ⟨fun b u q n _ _ => k b u (hb b n) q, fun b u q n _ _ => ⟨u.slots, k b u (hb b n) q⟩, fun b u q n _ => by rw [upd_ne (hx b n)]; exact n, fun b u q _ => ?_,
    fun b xs q => by rw [upd_ne (hm b _ q fun z => z)]; exact q, fun b u xs q => by rw [upd_ne (hm b _ q fun z => z)]; exact q, fun b ps q => ⟨#[], by rw [upd_ne (hm b _ q fun z => z), q]; simp⟩⟩
  by_cases hbe : b = e
  · subst hbe; exact heo
  · exact ⟨u, k b u hbe q⟩
theorem Un.mono (u : Un fs ex H H1 h h1) (hs : ∀ b ∈ fs, b ∈ fs') (hx : ∀ b ∈ ex, b ∈ ex') : Un fs' ex' H H1 h h1 :=
  ⟨fun b ob q n hb he => u.keep b ob q n (fun z => hb (hs b z)) fun z => he (hx b z), fun _ _ q n _ he => u.any q n fun z => he (hx _ z), fun b ob q n he => u.free b ob q n fun z => he (hx b z), fun b ob q he => u.there b ob q fun z => he (hx b z), u.tups, u.frzs, u.tbls⟩
end

/-! ### the heap without what is tracked -/
def trk (h : Heap) (H : Hp) : List Addr := (List.range h.objs.size).filter fun a => (H a).isSome
def hidT (h : Heap) (H : Hp) : Heap := PySem.W.hideAll h (trk h H)
theorem hidT_size (h : Heap) (H : Hp) : (hidT h H).objs.size = h.objs.size := PySem.W.hideAll_size _ _
theorem hidT_get {h : Heap} {H : Hp} {b : Addr} {o : Obj} (e : h.get? b = some o) (n : H b = none) : (hidT h H).get? b = some o :=
  PySem.W.hideAll_get _ e fun hm => by
    have q : (H b).isSome = true := (List.mem_filter.mp hm).2
    rw [n] at q; simp at q
theorem of_hidT {h : Heap} {H : Hp} {b : Addr} {o : Obj} (e : (hidT h H).get? b = some o) : h.get? b = some o ∧ H b = none := by
  have e' : h.get? b = some o := PySem.W.of_hideAll (trk h H) e
  refine ⟨e', ?_⟩
  cases q : H b with
  | none => rfl
  | some x =>
    have hm : b ∈ trk h H := List.mem_filter.mpr ⟨List.mem_range.mpr (Heap.lt_size e'), by simp [q]⟩
    have z : (hidT h H).get? b = none := PySem.W.hideAll_none (trk h H) hm
    rw [z] at e; cases e

/-! ### OpenK's ledger, filled with every new object but one -/
end L2

namespace L2
open PySem PySem.Spec PyProof.Rows

/-- the module's facts, over the base: the heap at the law's entry without what is tracked there -/
structure Mod (K : PySem.W.Frag) (mg : Str → Option Value) (base : Heap) : Prop where
  kin : K.In base
  glob : base.Ns mainGlobals mg
  blt : ∃ mb, base.Ns builtinsNs mb ∧ ∀ x : Str, x ≠ "__name__" → mb x = bootBuiltins x
  nolimit : base.NoLimit

/-- the context: a def's body (or a comprehension's block) running. base: fixed through the whole law; s₀, H₀: the entry; outer: the frames whose slots others may change (a def's callers); stack: all frames that run;
   ex: iterators that were made ahead of the entry and are walked here (a comprehension's); fn: the names whose cells were made at the entry (a def: all; a comprehension's block: its own); calm: not within an except suite; pn: pins that every state bears; xe: what is wanted of an exception that leaves the code -/
structure Cx where
  prog : Program
  w : World
  K : PySem.W.Frag
  mg : Str → Option Value
  base : Heap
  A : Around
  N : List Str
  s₀ : Shared
  H₀ : Hp
  env : Env
  outer : List Env
  stack : List Env
  ex : List Addr
  fn : Str → Bool
  calm : Bool
  pn : List (Addr × Obj)
  xe : Value → Shared → Prop
/-- the callers' frames -/
def frs (l : List Env) : List Addr := l.filterMap (·.frame)
abbrev Cx.fs (X : Cx) : List Addr := frs X.outer

def Vis (sc : Scope) (x : Str) : Prop := sc.names.lookup x = some .local ∨ sc.names.lookup x = some .cell ∨ sc.names.lookup x = some .free
def Loc (sc : Scope) (x : Str) : Prop := sc.names.lookup x = some .local ∨ sc.names.lookup x = some .cell
def Look (env : Env) (h : Heap) (m : Str → Option Value) (x : Str) (u : Value) : Prop :=
  (env.kindOf x = some .local ∧ m x = some u) ∨ ((env.kindOf x = some .cell ∨ env.kindOf x = some .free) ∧ ∃ c, env.cells.lookup x = some c ∧ h.IsCell c (some u))

structure Cx.Ok (X : Cx) : Prop where
  mod : Mod X.K X.mg X.base
  kind : X.env.scope.kind = .function
  glob : X.env.globals = mainGlobals
  blt : X.env.builtins = builtinsNs
  above : X.s₀.heap.objs.size ≤ X.env.locals
  inj : ∀ x y c, X.env.cells.lookup x = some c → X.env.cells.lookup y = some c → x = y
  has : ∀ x, (X.env.kindOf x = some .cell ∨ X.env.kindOf x = some .free) → ∃ c, X.env.cells.lookup x = some c
  cab : ∀ x c, X.fn x = true → X.env.cells.lookup x = some c → X.s₀.heap.objs.size ≤ c
  hd : X.calm = true → X.A.handled = none
  frames : X.A.frames = some X.stack
  stk : X.stack = X.outer ∨ (X.stack = X.env :: X.outer ∧ X.env.frame = some X.env.locals)
  exf : ∀ b ∈ X.ex, b ≠ X.env.locals ∧ ∀ x c, X.env.cells.lookup x = some c → c ≠ b
  bs : ∀ b o, X.base.get? b = some o → X.s₀.heap.get? b = some o ∧ X.H₀ b = none
  bsz : X.base.objs.size ≤ X.s₀.heap.objs.size
  noex : ∀ b o, X.base.get? b = some o → b ∉ X.ex
  exfs : ∀ b ∈ X.ex, b ∉ X.fs
  funs : X.s₀.heap.FunFrames X.base X.outer
  frf : ∀ b ∈ X.fs, X.H₀ b = none

structure Inv (X : Cx) (pins : List (Addr × Obj)) (σ : List (Option V)) (H : Hp) (s : Shared) : Prop where
  ok : X.Ok
  os : s.os = X.s₀.os
  bare : AllBare s.gens
  base : Un X.fs X.ex X.H₀ H X.s₀.heap s.heap
  loc : ∃ m, s.heap.Ns X.env.locals m ∧ ∀ (i : Nat) (x : Str) (v : V), X.N[i]? = some x → σ[i]? = some (some v) → Vis X.env.scope x → ∃ u, RelV v u ∧ Look X.env s.heap m x u
  cell : ∀ x c, X.env.cells.lookup x = some c → ∃ v, s.heap.IsCell c v
  free : H X.env.locals = none
  freeC : ∀ x c, X.env.cells.lookup x = some c → H c = none
  pin : ∀ p ∈ X.pn ++ pins, s.heap.get? p.1 = some p.2 ∧ H p.1 = none ∧ p.1 ≠ X.env.locals ∧ p.1 ∉ X.fs ∧ ∀ v, p.2.data ≠ .cell v
  hok : HOk X.prog X.w H s.heap
  len : σ.length = X.N.length

section
variable {X : Cx} {pins : List (Addr × Obj)} {σ : List (Option V)} {H H' : Hp} {s : Shared} {h' : Heap}

theorem Cx.Ok.nofr (ok : X.Ok) {b : Addr} {o : Obj} (e : X.base.get? b = some o) : b ∉ X.fs := fun hb => by
  have := (ok.funs.mem hb).1
  rw [e] at this; cases this
theorem Inv.bs (I : Inv X pins σ H s) : ∀ b o, X.base.get? b = some o → s.heap.get? b = some o ∧ H b = none := fun b o e =>
  ⟨I.base.keep b o (I.ok.bs b o e).1 (I.ok.bs b o e).2 (I.ok.nofr e) (I.ok.noex b o e), I.base.free b o (I.ok.bs b o e).1 (I.ok.bs b o e).2 (I.ok.noex b o e)⟩
theorem Inv.bk (I : Inv X pins σ H s) : ∀ b o, X.base.get? b = some o → s.heap.get? b = some o := fun b o e => (I.bs b o e).1
theorem Inv.mod (I : Inv X pins σ H s) : Mod X.K X.mg X.base := I.ok.mod
theorem Inv.kIn (I : Inv X pins σ H s) : X.K.In s.heap := I.ok.mod.kin.keeps I.bk
theorem Inv.lt (I : Inv X pins σ H s) : X.env.locals < s.heap.objs.size := let ⟨_, hn, _⟩ := I.loc; hn.lt
theorem Inv.sz (I : Inv X pins σ H s) : X.s₀.heap.objs.size ≤ s.heap.objs.size := Nat.le_trans I.ok.above (Nat.le_of_lt I.lt)
theorem Inv.nofs (I : Inv X pins σ H s) {a : Addr} (h : s.heap.objs.size ≤ a) : a ∉ X.fs := fun hb => by
  obtain ⟨_, o, ho, _⟩ := I.ok.funs.mem hb
  exact absurd (Nat.lt_of_lt_of_le (Heap.lt_size ho) (Nat.le_trans I.sz h)) (Nat.lt_irrefl _)
theorem Inv.cne (I : Inv X pins σ H s) : ∀ x c, X.env.cells.lookup x = some c → c ≠ X.env.locals := fun x c e z => by
  obtain ⟨v, o, ho, hd⟩ := I.cell x c e
  obtain ⟨m, ⟨o', es, ep, ho', hd', _⟩, _⟩ := I.loc
  rw [z, ho'] at ho; cases ho; rw [hd'] at hd; cases hd
theorem Inv.funs (I : Inv X pins σ H s) : s.heap.FunFrames X.base X.outer := by
  have all : ∀ (l : List Env), (∀ b ∈ frs l, b ∈ X.fs) → X.s₀.heap.FunFrames X.base l → s.heap.FunFrames X.base l := by
    intro l
    induction l with
    | nil => intro _ _; trivial
    | cons env r ih =>
      intro hs hl
      obtain ⟨hk, ⟨L, o, hf, hn, ho, hd⟩, hr⟩ := hl
      have hL : L ∈ X.fs := hs L (by unfold frs; rw [List.filterMap_cons, hf]; exact List.mem_cons_self)
      obtain ⟨sl, e⟩ := I.base.slot L o ho (I.ok.frf L hL) hL fun z => I.ok.exfs L z hL
      exact ⟨hk, ⟨L, _, hf, hn, e, hd⟩, ih (fun b hb => hs b (by unfold frs; rw [List.filterMap_cons, hf]; exact List.mem_cons_of_mem _ hb)) hr⟩
  exact all X.outer (fun _ hb => hb) I.ok.funs

/-- the frames that run, for a call -/
theorem Inv.stack (I : Inv X pins σ H s) : s.heap.FunFrames X.base X.stack := by
  rcases I.ok.stk with e | ⟨e, hf⟩
  · rw [e]; exact I.funs
  · rw [e]
    obtain ⟨m, hn, _⟩ := I.loc
    refine .cons (by rw [I.ok.kind]; decide) hf hn ?_ I.funs
    exact Heap.get?_none_of_le (Nat.le_trans I.ok.bsz I.ok.above)
theorem Inv.stkSub (I : Inv X pins σ H s) : ∀ b ∈ frs X.stack, b ∈ X.env.locals :: X.fs := fun b hb => by
  rcases I.ok.stk with e | ⟨e, hf⟩
  · rw [e] at hb; exact List.mem_cons_of_mem _ hb
  · rw [e] at hb
    unfold frs at hb
    rw [List.filterMap_cons, hf] at hb
    exact hb
theorem Inv.stkFree (I : Inv X pins σ H s) : ∀ b ∈ frs X.stack, H b = none := fun b hb => by
  rcases List.mem_cons.mp (I.stkSub b hb) with e | hb
  · rw [e]; exact I.free
  · obtain ⟨_, o, ho, _⟩ := I.ok.funs.mem hb
    exact I.base.free b o ho (I.ok.frf b hb) fun z => I.ok.exfs b z hb

/-- THE STEP: the untracked objects but the frame and the records at ch are kept (the callers' frames up to slots), the frame's map is kept, the new abstract heap is held -/
theorem Inv.step {g' : Array GenState} {t' : Nat} {d' : Drawn} {ch : List Addr} (I : Inv X pins σ H s)
    (hch : ∀ b ∈ ch, (b ∈ X.ex ∨ X.s₀.heap.objs.size ≤ b) ∧ b ≠ X.env.locals ∧ (∀ x c, X.env.cells.lookup x = some c → c ≠ b) ∧ ∀ p ∈ X.pn ++ pins, p.1 ≠ b)
    (keep : ∀ b o, b ≠ X.env.locals → b ∉ X.fs → b ∉ ch → s.heap.get? b = some o → H b = none → h'.get? b = some o)
    (slot : ∀ b o, b ≠ X.env.locals → b ∈ X.fs → b ∉ ch → s.heap.get? b = some o → H b = none → ∃ sl, h'.get? b = some { o with slots := sl }) (free : ∀ b o, b ∉ ch → s.heap.get? b = some o → H b = none → H' b = none)
    (there : ∀ b o, b ∉ ch → s.heap.get? b = some o → ∃ o', h'.get? b = some o')
    (tups : ∀ b xs, H b = some (.tup xs) → H' b = some (.tup xs)) (frzs : ∀ b o u, H b = some (.frz o u) → H' b = some (.frz o u)) (tbls : ∀ b ps, H b = some (.tbl ps) → ∃ more, H' b = some (.tbl (ps ++ more)))
    (ns : ∀ m, s.heap.Ns X.env.locals m → h'.Ns X.env.locals m) (hok : HOk X.prog X.w H' h') (hg : AllBare g') :
    Inv X pins σ H' { s with heap := h', gens := g', drawn := d', toks := t' } := by
  have neL : ∀ b o, X.s₀.heap.get? b = some o → b ≠ X.env.locals := fun b o e => Nat.ne_of_lt (Nat.lt_of_lt_of_le (Heap.lt_size e) I.ok.above)
  have neC : ∀ b o, X.s₀.heap.get? b = some o → b ∉ X.ex → b ∉ ch := fun b o e hx hb => by
    rcases (hch b hb).1 with z | z
    · exact hx z
    · exact absurd (Nat.lt_of_lt_of_le (Heap.lt_size e) z) (Nat.lt_irrefl _)
  have cellK : ∀ x c, X.env.cells.lookup x = some c → ∀ v, s.heap.IsCell c v → h'.IsCell c v := fun x c e v ⟨o, ho, hd⟩ => by
    have nch : c ∉ ch := fun z => (hch c z).2.2.1 x c e rfl
    by_cases hc : c ∈ X.fs
    · obtain ⟨sl, q⟩ := slot c o (I.cne x c e) hc nch ho (I.freeC x c e)
      exact ⟨_, q, hd⟩
    · exact ⟨o, keep c o (I.cne x c e) hc nch ho (I.freeC x c e), hd⟩
  refine ⟨I.ok, I.os, hg, ⟨fun b o e n hb hx => ?_, fun b o e n hb hx => ?_, fun b o e n hx => ?_, fun b o e hx => ?_, fun b xs e => tups b xs (I.base.tups b xs e), fun b o xs e => frzs b o xs (I.base.frzs b o xs e), fun b ps e => ?_⟩, ?_, fun x c e => ?_, ?_, fun x c e => ?_, fun p hp => ?_, hok, I.len⟩
  · exact keep b o (neL b o e) hb (neC b o e hx) (I.base.keep b o e n hb hx) (I.base.free b o e n hx)
  · obtain ⟨sl, e1⟩ := I.base.slot b o e n hb hx
    obtain ⟨sl', e2⟩ := slot b _ (neL b o e) hb (neC b o e hx) e1 (I.base.free b o e n hx)
    exact ⟨sl', e2⟩
  · obtain ⟨o', e1⟩ := I.base.there b o e hx
    exact free b o' (neC b o e hx) e1 (I.base.free b o e n hx)
  · obtain ⟨o', e1⟩ := I.base.there b o e hx
    exact there b o' (neC b o e hx) e1
  · obtain ⟨m1, e1⟩ := I.base.tbls b ps e
    obtain ⟨m2, e2⟩ := tbls b _ e1
    exact ⟨m1 ++ m2, by rw [e2, Array.append_assoc]⟩
  · obtain ⟨m, hn, hl⟩ := I.loc
    refine ⟨m, ns m hn, fun i x v e1 e2 e3 => ?_⟩
    obtain ⟨u, r, l⟩ := hl i x v e1 e2 e3
    refine ⟨u, r, ?_⟩
    rcases l with l | ⟨k, c, e, z⟩
    · exact .inl l
    · exact .inr ⟨k, c, e, cellK x c e _ z⟩
  · obtain ⟨v, z⟩ := I.cell x c e
    exact ⟨v, cellK x c e v z⟩
  · obtain ⟨m, ⟨o, _, _, ho, _⟩, _⟩ := I.loc
    exact free _ o (fun z => (hch _ z).2.1 rfl) ho I.free
  · obtain ⟨v, o, ho, hd⟩ := I.cell x c e
    exact free c o (fun z => (hch c z).2.2.1 x c e rfl) ho (I.freeC x c e)
  · obtain ⟨e, n, ne, nf, d⟩ := I.pin p hp
    have nch : p.1 ∉ ch := fun z => (hch p.1 z).2.2.2 p hp rfl
    exact ⟨keep p.1 p.2 ne nf nch e n, free p.1 p.2 nch e n, ne, nf, d⟩
/-- .. where the frame's own object is kept too -/
theorem Inv.un {t' : Nat} (I : Inv X pins σ H s) (u : Un X.fs [] H H' s.heap h') (hok : HOk X.prog X.w H' h') : Inv X pins σ H' { s with heap := h', toks := t' } := by
  obtain ⟨m, ⟨o, es, ep, ho, r⟩, _⟩ := id I.loc
  obtain ⟨sl, hL⟩ := u.any ho I.free (by simp)
  exact I.step (g' := s.gens) (d' := s.drawn) (ch := []) (fun _ z => nomatch z) (fun b o _ hb _ e n => u.keep b o e n hb (by simp)) (fun b o _ hb _ e n => u.slot b o e n hb (by simp)) (fun b o _ e n => u.free b o e n (by simp)) (fun b o _ e => u.there b o e (by simp)) u.tups u.frzs u.tbls (fun m' hm => by
    obtain ⟨o', es', ep', ho', r'⟩ := hm
    rw [ho] at ho'; cases ho'
    exact ⟨_, es', ep', hL, r'⟩) hok I.bare
/-- behind a call (or a comprehension's block): the slots of this frame may have changed too, the records at ch may have turned -/
theorem Inv.call {g' : Array GenState} {t' : Nat} {d' : Drawn} {ch : List Addr} (I : Inv X pins σ H s) (u : Un (frs X.stack) ch H H' s.heap h') (hok : HOk X.prog X.w H' h') (hg : AllBare g')
    (hch : ∀ b ∈ ch, (b ∈ X.ex ∨ X.s₀.heap.objs.size ≤ b) ∧ b ≠ X.env.locals ∧ (∀ x c, X.env.cells.lookup x = some c → c ≠ b) ∧ ∀ p ∈ X.pn ++ pins, p.1 ≠ b) :
    Inv X pins σ H' { s with heap := h', gens := g', drawn := d', toks := t' } := by
  obtain ⟨m, ⟨o, es, ep, ho, r⟩, _⟩ := id I.loc
  obtain ⟨sl, hL⟩ := u.any ho I.free fun z => (hch _ z).2.1 rfl
  exact I.step (ch := ch) hch (fun b o hL hb hc e n => u.keep b o e n (fun z => (List.mem_cons.mp (I.stkSub b z)).elim hL hb) hc) (fun b o _ _ hc e n => u.any e n hc) (fun b o hc e n => u.free b o e n hc) (fun b o hc e => u.there b o e hc) u.tups u.frzs u.tbls (fun m' hm => by
    obtain ⟨o', es', ep', ho', r'⟩ := hm
    rw [ho] at ho'; cases ho'
    exact ⟨_, es', ep', hL, r'⟩) hok hg
/-- an untracked record of ours (an iterator) has turned -/
theorem Inv.turned {t' : Nat} {it : Addr} (I : Inv X pins σ H s) (k : ∀ b o, b ≠ it → s.heap.get? b = some o → h'.get? b = some o) (hn : H it = none) (hL : it ≠ X.env.locals)
    (h1 : it ∈ X.ex ∨ X.s₀.heap.objs.size ≤ it) (h2 : ∀ x c, X.env.cells.lookup x = some c → c ≠ it) (h3 : ∀ p ∈ X.pn ++ pins, p.1 ≠ it) : Inv X pins σ H { s with heap := h', toks := t' } := by
  have nit : ∀ b u, H b = some u → b ≠ it := fun b u e z => by rw [z, hn] at e; cases e
  refine I.step (g' := s.gens) (d' := s.drawn) (ch := [it]) (fun b hb => ?_) (fun b o _ _ hc e _ => k b o (fun z => hc (by simp [z])) e) (fun b o _ _ hc e _ => ⟨o.slots, k b o (fun z => hc (by simp [z])) e⟩) (fun _ _ _ _ n => n)
    (fun b o hc e => ⟨o, k b o (fun z => hc (by simp [z])) e⟩) (fun _ _ e => e) (fun _ _ _ e => e) (fun b ps e => ⟨#[], by rw [e]; simp⟩) (fun m hm => ?_) (fun b u e => ?_) I.bare
  · have e : b = it := by simpa using hb
    subst e
    exact ⟨h1, hL, h2, h3⟩
  · obtain ⟨o, es, ep, ho, r⟩ := hm
    exact ⟨o, es, ep, k _ o (Ne.symm hL) ho, r⟩
  · refine (I.hok b u e).stay (fun c v hc q => k c v ?_ q) (fun _ q => q) fun _ _ q => q
    rcases hc with z | z
    · rw [z]; exact nit b u e
    · exact nit c _ z
theorem Inv.tok (I : Inv X pins σ H s) (t : Nat) : Inv X pins σ H { s with toks := t } := I.un (h' := s.heap) (t' := t) Un.refl I.hok
/-- all objects kept -/
theorem Inv.kept {t' : Nat} (I : Inv X pins σ H s) (k : ∀ b u, s.heap.get? b = some u → h'.get? b = some u) : Inv X pins σ H { s with heap := h', toks := t' } := I.un (Un.kept k) (I.hok.kept k)
/-- a new object laid and tracked -/
theorem Inv.laid {a : Addr} {o : HO} {t' : Nat} (I : Inv X pins σ H s) (k : ∀ b u, s.heap.get? b = some u → h'.get? b = some u) (hp : s.heap.objs.size ≤ a) (new : ObjOk X.prog X.w (upd H a o) h' a o) :
    Inv X pins σ (upd H a o) { s with heap := h', toks := t' } := I.un (Un.laid k hp (I.hok.fresh hp)) (I.hok.laid k hp new)
/-- an object written -/
theorem Inv.write {x e : Addr} {o : HO} {t' : Nat} (I : Inv X pins σ H s) (mu : Mut (H x)) (he : e = x ∨ H e = some (.own x)) (k : ∀ b u, b ≠ e → s.heap.get? b = some u → h'.get? b = some u) (heo : ∃ u, h'.get? e = some u)
    (new : ObjOk X.prog X.w (upd H x o) h' x o) : Inv X pins σ (upd H x o) { s with heap := h', toks := t' } := I.un (Un.write mu he k heo) (I.hok.write mu he k heo new)
theorem Inv.pins_of {pins' : List (Addr × Obj)} (I : Inv X pins σ H s) (h : ∀ p ∈ pins', s.heap.get? p.1 = some p.2 ∧ H p.1 = none ∧ p.1 ≠ X.env.locals ∧ p.1 ∉ X.fs ∧ ∀ v, p.2.data ≠ .cell v) : Inv X pins' σ H s :=
  ⟨I.ok, I.os, I.bare, I.base, I.loc, I.cell, I.free, I.freeC, fun p hp => (List.mem_append.mp hp).elim (fun z => I.pin p (List.mem_append_left _ z)) (h p), I.hok, I.len⟩

theorem nodup_ix {N : List Str} (hN : N.Nodup) {i j : Nat} {x : Str} (a : N[i]? = some x) (b : N[j]? = some x) : i = j := by
  obtain ⟨h1, e1⟩ := List.getElem?_eq_some_iff.mp a
  obtain ⟨h2, e2⟩ := List.getElem?_eq_some_iff.mp b
  exact (List.getElem_inj hN).mp (e1.trans e2.symm)

/-- a name is stored; what changed -/
theorem store_ok2 {M : Model} {A : Around} {E : Value → Shared → Prop} {i : Nat} {x : Str} {v : V} {u : Value} {Q : Unit → Shared → Prop} (I : Inv X pins σ H s) (hN : X.N.Nodup) (hi : X.N[i]? = some x) (hx : Loc X.env.scope x) (r : RelV v u)
    (h : ∀ s', Inv X pins (σ.set i (some v)) H s' → (∃ a, Heap.SameBut a s.heap s'.heap ∧ (a = X.env.locals ∨ X.env.cells.lookup x = some a)) → Q () s') (hf : X.fn x = true ∨ X.env.scope.names.lookup x = some .local := by first | exact .inl rfl | exact .inr rfl | assumption) : wpAny M A (storeName X.env x u) Q E s := by
  obtain ⟨m, hn, hl⟩ := id I.loc
  have hcls : (X.env.scope.kind == .class || (X.env.scope.kind == .module && X.env.locals != X.env.globals)) = false := by rw [I.ok.kind]; rfl
  have hiσ : i < σ.length := by rw [I.len]; exact (List.getElem?_eq_some_iff.mp hi).1
  have cne := I.cne
  have tracked : ∀ {a : Addr} {h' : Heap}, (∃ o, s.heap.get? a = some o ∧ H a = none) → Heap.SameBut a s.heap h' → HOk X.prog X.w H h' := fun {a h'} ha hs b ob e => by
    obtain ⟨_, _, hfree⟩ := ha
    refine (I.hok b ob e).stay (fun c w' hc q => (hs.2 c ?_).trans q) (fun _ q => q) fun _ _ q => q
    rintro rfl
    rcases hc with rfl | hc
    · rw [hfree] at e; cases e
    · rw [hfree] at hc; cases hc
  rcases hx with hk | hk
  · refine wpAny_storeName_local hk hn (fun h' hn' hs => ?_) hcls
    obtain ⟨oL, _, _, hoL, _⟩ := id hn
    refine h _ ⟨I.ok, I.os, I.bare, ⟨fun b o e n hb hx => ?_, fun b o e n hb hx => ?_, I.base.free, fun b o e hx => ?_, I.base.tups, I.base.frzs, I.base.tbls⟩, ⟨_, hn', fun j y v' e1 e2 e3 => ?_⟩, fun y c e => ?_, I.free, I.freeC, fun p hp => ?_, tracked ⟨oL, hoL, I.free⟩ hs, by simpa using I.len⟩ ⟨_, hs, .inl rfl⟩
    · exact (hs.2 b (Nat.ne_of_lt (Nat.lt_of_lt_of_le (Heap.lt_size e) I.ok.above))).trans (I.base.keep b o e n hb hx)
    · obtain ⟨sl, e1⟩ := I.base.slot b o e n hb hx
      exact ⟨sl, (hs.2 b (Nat.ne_of_lt (Nat.lt_of_lt_of_le (Heap.lt_size e) I.ok.above))).trans e1⟩
    · obtain ⟨o', e1⟩ := I.base.there b o e hx
      exact ⟨o', (hs.2 b (Nat.ne_of_lt (Nat.lt_of_lt_of_le (Heap.lt_size e) I.ok.above))).trans e1⟩
    · by_cases hj : j = i
      · subst hj
        rw [hi] at e1; cases e1
        rw [List.getElem?_set_self hiσ] at e2
        cases e2
        exact ⟨u, r, .inl ⟨hk, by simp⟩⟩
      · rw [List.getElem?_set_ne (Ne.symm hj)] at e2
        obtain ⟨u', r', q⟩ := hl j y v' e1 e2 e3
        refine ⟨u', r', ?_⟩
        rcases q with ⟨k, e⟩ | ⟨k, c, e, z⟩
        · refine .inl ⟨k, ?_⟩
          have : y ≠ x := fun e => hj (nodup_ix hN e1 (e ▸ hi))
          simp [this, e]
        · exact .inr ⟨k, c, e, z.sameBut hs (cne y c e)⟩
    · obtain ⟨w', z⟩ := I.cell y c e
      exact ⟨w', z.sameBut hs (cne y c e)⟩
    · obtain ⟨e, n, ne, nf, d⟩ := I.pin p hp
      exact ⟨(hs.2 p.1 ne).trans e, n, ne, nf, d⟩
  · have hfn : X.fn x = true := by
      rcases hf with z | z
      · exact z
      · rw [z] at hk; cases hk
    obtain ⟨c, hc⟩ := I.ok.has x (.inl hk)
    obtain ⟨w', z⟩ := I.cell x c hc
    refine wpAny_storeName_cell I.ok.kind hk hc z (fun h' hc' hs => ?_)
    obtain ⟨oc, hoc, hocd⟩ := id z
    refine h { s with heap := h' } ⟨I.ok, I.os, I.bare, ⟨fun b o e n hb hx => ?_, fun b o e n hb hx => ?_, I.base.free, fun b o e hx => ?_, I.base.tups, I.base.frzs, I.base.tbls⟩, ⟨m, hn.sameBut hs (Ne.symm (cne x c hc)), fun j y v' e1 e2 e3 => ?_⟩, fun y c' e => ?_, I.free, I.freeC, fun p hp => ?_, tracked ⟨oc, hoc, I.freeC x c hc⟩ hs, by simpa using I.len⟩ ⟨c, hs, .inr hc⟩
    · exact (hs.2 b (Nat.ne_of_lt (Nat.lt_of_lt_of_le (Heap.lt_size e) (I.ok.cab x c hfn hc)))).trans (I.base.keep b o e n hb hx)
    · obtain ⟨sl, e1⟩ := I.base.slot b o e n hb hx
      exact ⟨sl, (hs.2 b (Nat.ne_of_lt (Nat.lt_of_lt_of_le (Heap.lt_size e) (I.ok.cab x c hfn hc)))).trans e1⟩
    · obtain ⟨o', e1⟩ := I.base.there b o e hx
      exact ⟨o', (hs.2 b (Nat.ne_of_lt (Nat.lt_of_lt_of_le (Heap.lt_size e) (I.ok.cab x c hfn hc)))).trans e1⟩
    · by_cases hj : j = i
      · subst hj
        rw [hi] at e1; cases e1
        rw [List.getElem?_set_self hiσ] at e2
        cases e2
        exact ⟨u, r, .inr ⟨.inl hk, c, hc, hc'⟩⟩
      · rw [List.getElem?_set_ne (Ne.symm hj)] at e2
        obtain ⟨u', r', q⟩ := hl j y v' e1 e2 e3
        refine ⟨u', r', ?_⟩
        rcases q with q | ⟨k, c', e, z'⟩
        · exact .inl q
        · refine .inr ⟨k, c', e, z'.sameBut hs ?_⟩
          rintro rfl
          exact hj (nodup_ix hN e1 (I.ok.inj _ _ _ e hc ▸ hi))
    · by_cases hcc : c' = c
      · subst hcc; exact ⟨_, hc'⟩
      · obtain ⟨w2, z2⟩ := I.cell y c' e
        exact ⟨w2, z2.sameBut hs hcc⟩
    · obtain ⟨e, n, ne, nf, d⟩ := I.pin p hp
      refine ⟨(hs.2 p.1 ?_).trans e, n, ne, nf, d⟩
      intro q
      rw [q, hoc] at e
      have q' : oc = p.2 := Option.some.inj e
      exact d w' (by rw [← q']; exact hocd)
theorem store_ok {M : Model} {A : Around} {E : Value → Shared → Prop} {i : Nat} {x : Str} {v : V} {u : Value} {Q : Unit → Shared → Prop} (I : Inv X pins σ H s) (hN : X.N.Nodup) (hi : X.N[i]? = some x) (hx : Loc X.env.scope x) (r : RelV v u)
    (h : ∀ s', Inv X pins (σ.set i (some v)) H s' → Q () s') (hf : X.fn x = true ∨ X.env.scope.names.lookup x = some .local := by first | exact .inl rfl | exact .inr rfl | assumption) : wpAny M A (storeName X.env x u) Q E s :=
  store_ok2 I hN hi hx r (fun s' I' _ => h s' I') hf
/-- behind a call or a block, the state as it is -/
theorem Inv.call' {s' : Shared} {ch : List Addr} (I : Inv X pins σ H s) (ho : s'.os = s.os) (u : Un (frs X.stack) ch H H' s.heap s'.heap) (hok : HOk X.prog X.w H' s'.heap) (hg : AllBare s'.gens)
    (hch : ∀ b ∈ ch, (b ∈ X.ex ∨ X.s₀.heap.objs.size ≤ b) ∧ b ≠ X.env.locals ∧ (∀ x c, X.env.cells.lookup x = some c → c ≠ b) ∧ ∀ p ∈ X.pn ++ pins, p.1 ≠ b) : Inv X pins σ H' s' := by
  obtain ⟨h', g', d', t', o'⟩ := s'
  have e : o' = s.os := ho
  subst e
  exact I.call (g' := g') (t' := t') (d' := d') u hok hg hch
end

/-! ### the judgements -/
/-- an exception: its class, its own dict's address (where it has one), the abstract heap behind it -/
abbrev XK := Value → Option Addr → Hp → Prop
abbrev St := List (Option V)
abbrev VK := V → Hp → Prop
/-- an expression's reading; a test's; an argument list's -/
abbrev TE := St → Hp → VK → Prop
abbrev TT := St → Hp → (Bool → Hp → Prop) → Prop
abbrev TA := St → Hp → (List V → Hp → Prop) → Prop
/-- what is wanted behind a statement -/
structure Ends where
  nx : St → Hp → Prop
  rt : VK
  bk : St → Hp → Prop := fun _ _ => False
  ct : St → Hp → Prop := fun _ _ => False
abbrev TS := Ends → St → Hp → Prop

def EP (X : Cx) (pins : List (Addr × Obj)) (σ : St) (Q : VK) (u : Value) (s' : Shared) : Prop := ∃ v H', Inv X pins σ H' s' ∧ RelV v u ∧ Q v H'
def TP (X : Cx) (pins : List (Addr × Obj)) (σ : St) (Q : Bool → Hp → Prop) (b : Bool) (s' : Shared) : Prop := ∃ H', Inv X pins σ H' s' ∧ Q b H'
def AP (X : Cx) (pins : List (Addr × Obj)) (σ : St) (Q : List V → Hp → Prop) (us : List Value) (s' : Shared) : Prop := ∃ vs H', Inv X pins σ H' s' ∧ Vals vs us ∧ Q vs H'
def SP (X : Cx) (pins : List (Addr × Obj)) (D : Ends) (f : Flow) (s' : Shared) : Prop :=
  match f with
  | .next => ∃ σ' H', Inv X pins σ' H' s' ∧ D.nx σ' H'
  | .brk => ∃ σ' H', Inv X pins σ' H' s' ∧ D.bk σ' H'
  | .cont => ∃ σ' H', Inv X pins σ' H' s' ∧ D.ct σ' H'
  | .ret u => ∃ v σ' H', Inv X pins σ' H' s' ∧ RelV v u ∧ D.rt v H'

def PE (X : Cx) (e : Expr) (t : TE) : Prop :=
  ∀ (pins : List (Addr × Obj)) (s : Shared) (σ : St) (H : Hp) (Q : VK), Inv X pins σ H s → t σ H Q → wpAny (model X.prog X.w) X.A (eval e X.env) (EP X pins σ Q) X.xe s
def PT (X : Cx) (e : Expr) (t : TT) : Prop :=
  ∀ (pins : List (Addr × Obj)) (s : Shared) (σ : St) (H : Hp) (Q : Bool → Hp → Prop), Inv X pins σ H s → t σ H Q → wpAny (model X.prog X.w) X.A (isTrue e X.env (eval e X.env)) (TP X pins σ Q) X.xe s
/-- a test whatever its 'whole' is (and, or) -/
def PW (X : Cx) (e : Expr) (t : TT) : Prop :=
  ∀ (whole : Sem Value) (pins : List (Addr × Obj)) (s : Shared) (σ : St) (H : Hp) (Q : Bool → Hp → Prop), Inv X pins σ H s → t σ H Q → wpAny (model X.prog X.w) X.A (isTrue e X.env whole) (TP X pins σ Q) X.xe s
theorem PW.pt {X : Cx} {e : Expr} {t : TT} (h : PW X e t) : PT X e t := h _
/-- an argument list (no star), from the left -/
def PA (X : Cx) (es : List Expr) (t : TA) : Prop :=
  ∀ (pos : Pos) (pins : List (Addr × Obj)) (s : Shared) (σ : St) (H : Hp) (Q : List V → Hp → Prop), Inv X pins σ H s → t σ H Q → wpAny (model X.prog X.w) X.A (spliced (backTo pos (starEach es X.env))) (AP X pins σ Q) X.xe s
def PS (X : Cx) (st : Stmt) (t : TS) : Prop :=
  ∀ (pins : List (Addr × Obj)) (s : Shared) (σ : St) (H : Hp) (D : Ends), Inv X pins σ H s → t D σ H → wpAny (model X.prog X.w) X.A (exec st X.env) (SP X pins D) X.xe s
def PSs (X : Cx) (st : List Stmt) (t : TS) : Prop :=
  ∀ (pins : List (Addr × Obj)) (s : Shared) (σ : St) (H : Hp) (D : Ends), Inv X pins σ H s → t D σ H → wpAny (model X.prog X.w) X.A (execs st X.env) (SP X pins D) X.xe s
/-- weaken the end -/
theorem thn {α : Type} {t : Sem α} {Q Q' : α → Shared → Prop} {M : Model} {A : Around} {E : Value → Shared → Prop} {s : Shared} (h : wpAny M A t Q E s) (hQ : ∀ a s, Q a s → Q' a s) : wpAny M A t Q' E s := wpAny_mono h hQ fun _ _ x => x
end L2

namespace L2
open PySem PySem.Spec PyProof.Rows
section
variable {X : Cx}


/-! ### names and constants -/
def tVar (i : Nat) : TE := fun σ H Q => ∃ v, σ[i]? = some (some v) ∧ Q v H
def tC (v : V) : TE := fun _ H Q => Q v H
theorem pe_var {i : Nat} {x : Str} {pos : Pos} (hN : X.N[i]? = some x) (hv : Vis X.env.scope x) (hd : (x == ("__debug__" : Str)) = false := by decide) (hcd : (x == ("__classdict__" : Str)) = false := by decide) : PE X (.Name x pos) (tVar i) := by
  intro pins s σ H Q I h
  obtain ⟨v, e, h⟩ := h
  obtain ⟨m, hn, hl⟩ := I.loc
  obtain ⟨u, r, l⟩ := hl i x v hN e hv
  have fin : EP X pins σ Q u s := ⟨v, H, I, r, h⟩
  rcases l with ⟨hk, hm⟩ | ⟨hk, c, hc, hcell⟩
  · exact wpAny_Name (wpAny_loadName_local I.ok.kind hk hn hm fin) hd
  · rcases hk with hk | hk
    · exact wpAny_Name (wpAny_loadName_cell I.ok.kind hk hc hcell fin) hd
    · exact wpAny_Name (wpAny_loadName_free I.ok.kind hk hc hcell fin hcd) hd
theorem pe_int {i j pos} : PE X (.Constant (.int i) j pos) (tC (.int i)) := fun _ _ _ H _ I h => wpAny_Constant_int ⟨.int i, H, I.tok _, ⟨_, rfl⟩, h⟩
theorem pe_bl {b j pos} : PE X (.Constant (.bool b) j pos) (tC (.bl b)) := fun _ _ _ H _ I h => Constant_bool ⟨.bl b, H, I, rfl, h⟩
theorem pe_non {j pos} : PE X (.Constant .none j pos) (tC .non) := fun _ _ _ H _ I h => Constant_none ⟨.non, H, I, rfl, h⟩
theorem pe_str {x j pos} : PE X (.Constant (.str x) j pos) (tC (.str x)) := fun _ _ _ H _ I h => Calls.Constant_str ⟨.str x, H, I.tok _, ⟨_, rfl⟩, h⟩

/-- a global name of the def -/
def Gl (X : Cx) (x : Str) : Prop := X.env.kindOf x = some .globalImplicit
theorem ld_glob {E : Value → Shared → Prop} {pins : List (Addr × Obj)} {s : Shared} {σ : St} {H : Hp} {x : Str} {u : Value} {pos : Pos} {Q : Value → Shared → Prop} (I : Inv X pins σ H s) (hg : Gl X x) (hm : X.mg x = some u) (h : Q u s)
    (hd : (x == ("__debug__" : Str)) = false := by decide) : wpAny (model X.prog X.w) X.A (eval (.Name x pos) X.env) Q E s :=
  Calls.Name_function_global I.ok.kind hg (Calls.loadGlobal_global (by rw [I.ok.glob]; exact I.mod.glob.keeps I.bk) hm h) hd
theorem ld_blt {E : Value → Shared → Prop} {pins : List (Addr × Obj)} {s : Shared} {σ : St} {H : Hp} {x : Str} {u : Value} {pos : Pos} {Q : Value → Shared → Prop} (I : Inv X pins σ H s) (hg : Gl X x) (hm : X.mg x = none) (hv : bootBuiltins x = some u) (h : Q u s)
    (hn : x ≠ "__name__" := by decide) (hd : (x == ("__debug__" : Str)) = false := by decide) : wpAny (model X.prog X.w) X.A (eval (.Name x pos) X.env) Q E s := by
  obtain ⟨mb, h1, h2⟩ := I.mod.blt
  exact Calls.Name_function_global I.ok.kind hg (Calls.loadGlobal_builtin (by rw [I.ok.glob]; exact I.mod.glob.keeps I.bk) hm (by rw [I.ok.blt]; exact h1.keeps I.bk) ((h2 x hn).trans hv) h) hd
/-- a module's constant, a class, a function, as a value -/
theorem pe_glob {x : Str} {v : V} {u : Value} {pos : Pos} (hg : Gl X x) (hm : X.mg x = some u) (r : RelV v u) (hd : (x == ("__debug__" : Str)) = false := by decide) : PE X (.Name x pos) (tC v) :=
  fun _ _ _ H _ I h => ld_glob I hg hm ⟨v, H, I, r, h⟩ hd
theorem pe_bltn {x : Str} {v : V} {u : Value} {pos : Pos} (hg : Gl X x) (hm : X.mg x = none) (hv : bootBuiltins x = some u) (r : RelV v u) (hn : x ≠ "__name__" := by decide) (hd : (x == ("__debug__" : Str)) = false := by decide) : PE X (.Name x pos) (tC v) :=
  fun _ _ _ H _ I h => ld_blt I hg hm hv ⟨v, H, I, r, h⟩ hn hd

/-! ### arithmetic -/
variable {a b : Expr} {ta tb : TE} {pos : Pos}

/-! ### comparisons -/
def PC (X : Cx) (op : CmpOp) (a b : Expr) (t : TE) : Prop :=
  ∀ (pins : List (Addr × Obj)) (s : Shared) (σ : St) (H : Hp) (Q : VK), Inv X pins σ H s → t σ H Q →
    wpAny (model X.prog X.w) X.A (eval a X.env) (fun v s₁ => wpAny (model X.prog X.w) X.A (eval b X.env) (fun u s₂ => wpAny (model X.prog X.w) X.A (compareOp op v u) (EP X pins σ Q) X.xe s₂) X.xe s₁) X.xe s
theorem nobehind (b : Expr) {op : CmpOp} (h : op ≠ .In) (h2 : op ≠ .NotIn) : behindInMarks op b = false := by
  have e1 : (op == CmpOp.In) = false := by cases op <;> first | rfl | exact absurd rfl h
  have e2 : (op == CmpOp.NotIn) = false := by cases op <;> first | rfl | exact absurd rfl h2
  cases b <;> simp [behindInMarks, e1, e2]
/-- is None -/
def tIsN (ta : TE) : TE := fun σ H Q => ta σ H fun x H1 => Q (.bl (decide (x = .non))) H1
theorem RelV.none_iff {x : V} {v : Value} (r : RelV x v) : (v == Value.none) = decide (x = .non) := by
  cases x with
  | non => cases r; rfl
  | bl _ => cases r; rfl
  | int _ => obtain ⟨t, rfl⟩ := r; rfl
  | str _ => obtain ⟨t, rfl⟩ := r; rfl
  | byt _ => obtain ⟨t, rfl⟩ := r; rfl
  | flt _ => obtain ⟨t, rfl⟩ := r; rfl
  | ref _ => cases r; rfl
  | ty _ => cases r; rfl
theorem pc_isN {j pos'} (ha : PE X a ta) : PC X .Is a (.Constant .none j pos') (tIsN ta) := by
  intro pins s σ H Q I h
  refine thn (ha pins s σ H _ I h) fun v s1 ⟨x, H1, I1, r1, q1⟩ => ?_
  exact Constant_none (is_none_gen ⟨.bl _, H1, I1, by rw [r1.none_iff]; rfl, q1⟩)
/-- a comparison as a value, as a test -/
def tB (t : TE) : TT := fun σ H Q => t σ H fun x H1 => ∃ c, x = .bl c ∧ Q c H1
theorem pe_cmp {op : CmpOp} {t : TE} (h : PC X op a b t) (h1 : behindInMarks op b = false := by first | exact nobehind _ (by decide) (by decide) | rfl) : PE X (.Compare a [op] [b] pos) t := fun pins s σ H Q I hw => wpAny_Compare1 (h pins s σ H Q I hw) h1
/-- an expression whose value is a bool, as a test -/
theorem pt_val {e : Expr} {t : TE} (h : PE X e t) (he : ∀ whole, isTrue e X.env whole = (do let v ← whole; standAt e.pos; holding [v] (truthy v)) := by intro _; rfl) : PT X e (tB t) := by
  intro pins s σ H Q I hw
  refine isTrue_plain (thn (h pins s σ H _ I hw) fun v s1 ⟨x, H1, I1, r1, q1⟩ => ?_) (he _)
  obtain ⟨d, rfl, q⟩ := q1
  cases r1
  exact wpAny_truthy_bool ⟨H1, I1, q⟩

/-! ### and, or, not -/
variable {tA tB' : TT} {rest : List Expr}
def tAnd (t u : TT) : TT := fun σ H Q => t σ H fun c H1 => if c = true then u σ H1 Q else Q false H1
def tOr (t u : TT) : TT := fun σ H Q => t σ H fun c H1 => if c = true then Q true H1 else u σ H1 Q
def tNot (t : TT) : TT := fun σ H Q => t σ H fun c H1 => Q (!c) H1
theorem pw_and1 (ha : PT X a tA) : PW X (.BoolOp .And [a] pos) tA := by
  intro wh pins s σ H Q I h
  refine isTrue_and (thn (ha pins s σ H Q I h) fun c s1 e => ?_)
  cases c with
  | true => exact isTrue_and_nil e
  | false => exact e
theorem pw_or1 (ha : PT X a tA) : PW X (.BoolOp .Or [a] pos) tA := by
  intro wh pins s σ H Q I h
  refine isTrue_or (thn (ha pins s σ H Q I h) fun c s1 e => ?_)
  cases c with
  | false => exact isTrue_or_nil e
  | true => exact e
theorem pw_and (ha : PT X a tA) (hb : PW X (.BoolOp .And (b :: rest) pos) tB') : PW X (.BoolOp .And (a :: b :: rest) pos) (tAnd tA tB') := by
  intro wh pins s σ H Q I h
  refine isTrue_and (thn (ha pins s σ H _ I h) fun c s1 ⟨H1, I1, q1⟩ => ?_)
  cases c with
  | true => exact hb wh pins s1 σ H1 Q I1 q1
  | false => exact ⟨H1, I1, q1⟩
theorem pw_or (ha : PT X a tA) (hb : PW X (.BoolOp .Or (b :: rest) pos) tB') : PW X (.BoolOp .Or (a :: b :: rest) pos) (tOr tA tB') := by
  intro wh pins s σ H Q I h
  refine isTrue_or (thn (ha pins s σ H _ I h) fun c s1 ⟨H1, I1, q1⟩ => ?_)
  cases c with
  | true => exact ⟨H1, I1, q1⟩
  | false => exact hb wh pins s1 σ H1 Q I1 q1
theorem pt_not (ha : PT X a tA) : PT X (.UnaryOp .Not a pos) (tNot tA) := by
  intro pins s σ H Q I h
  exact isTrue_not (ha pins s σ H (fun c H1 => Q (!c) H1) I h)
/-- .. as values (bools) -/
def tAndV (ta tb : TE) : TE := fun σ H Q => ta σ H fun x H1 => ∃ c, x = .bl c ∧ if c = true then tb σ H1 Q else Q (.bl false) H1
def tNotV (ta : TE) : TE := fun σ H Q => ta σ H fun x H1 => ∃ c, x = .bl c ∧ Q (.bl (!c)) H1
theorem pe_one {op} {t : TE} (h : PE X a t) : PE X (.BoolOp op [a] pos) t := fun pins s σ H Q I hw => BoolOp_one (h pins s σ H Q I hw)
theorem pe_and (ha : PE X a ta) (hb : PE X (.BoolOp .And (b :: rest) pos) tb) : PE X (.BoolOp .And (a :: b :: rest) pos) (tAndV ta tb) := by
  intro pins s σ H Q I h
  refine BoolOp_and (thn (ha pins s σ H _ I h) fun v s1 ⟨x, H1, I1, r1, q1⟩ => ?_)
  obtain ⟨c, rfl, q1⟩ := q1
  cases r1
  refine wpAny_truthy_bool ?_
  cases c with
  | true => exact hb pins s1 σ H1 Q I1 q1
  | false => exact ⟨.bl false, H1, I1, rfl, q1⟩
theorem pe_not (ha : PE X a ta) : PE X (.UnaryOp .Not a pos) (tNotV ta) := by
  intro pins s σ H Q I h
  refine UnaryOp_ (thn (ha pins s σ H _ I h) fun v s1 ⟨x, H1, I1, r1, q1⟩ => ?_)
  obtain ⟨c, rfl, q1⟩ := q1
  cases r1
  exact not_of (wpAny_truthy_bool ⟨.bl (!c), H1, I1, rfl, q1⟩)
end
end L2

namespace L2
open PySem PySem.Spec PyProof.Rows

/-! ### a list, a tuple that is read: tracked, frozen, or an object of the module -/
def SqL (K : PySem.W.Frag) (H : Hp) (a : Addr) (xs : List V) : Prop :=
  Rd H a (.lst xs) ∨
    ∃ (o : Obj) (its : Array Value) (n : Nat), K.lookup a = some o ∧ o.cls = .type "list" ∧ o.dict = none ∧ o.data = .seq its n ∧ its.size ≤ sizeLine ∧ Vals xs its.toList
def SqT (K : PySem.W.Frag) (H : Hp) (a : Addr) (xs : List V) : Prop :=
  Rd H a (.tup xs) ∨
    ∃ (o : Obj) (its : Array Value) (n : Nat), K.lookup a = some o ∧ o.cls = .type "tuple" ∧ o.data = .seq its n ∧ its.size ≤ sizeLine ∧ Vals xs its.toList
def absV : Value → Option V
  | .none => some .non
  | .bool b => some (.bl b)
  | .int i _ => some (.int i)
  | .str x _ => some (.str x)
  | .bytes b _ => some (.byt b)
  | .float b _ => some (.flt b)
  | .ref a => some (.ref a)
  | .type n => some (.ty n)
  | _ => none
theorem RelV.abs {x : V} {u : Value} (r : RelV x u) : absV u = some x := by
  cases x with
  | non => cases r; rfl
  | bl _ => cases r; rfl
  | int _ => obtain ⟨t, rfl⟩ := r; rfl
  | str _ => obtain ⟨t, rfl⟩ := r; rfl
  | byt _ => obtain ⟨t, rfl⟩ := r; rfl
  | flt _ => obtain ⟨t, rfl⟩ := r; rfl
  | ref _ => cases r; rfl
  | ty _ => cases r; rfl
theorem RelV.inj {x y : V} {u : Value} (r : RelV x u) (q : RelV y u) : x = y := Option.some.inj (r.abs.symm.trans q.abs)
theorem Vals.inj : ∀ {xs ys : List V} {us : List Value}, Vals xs us → Vals ys us → xs = ys
  | _, _, _, .nil, .nil => rfl
  | _, _, _, .cons r t, .cons r' t' => by rw [r.inj r', Vals.inj t t']
section
variable {X : Cx} {pins : List (Addr × Obj)} {σ : St} {H : Hp} {s : Shared} {a : Addr} {xs ys : List V}
theorem SqL.of {K : PySem.W.Frag} (h : H a = some (.lst xs)) : SqL K H a xs := .inl (.inl h)
theorem SqT.of {K : PySem.W.Frag} (h : H a = some (.tup xs)) : SqT K H a xs := .inl (.inl h)
theorem Inv.list (I : Inv X pins σ H s) (h : SqL X.K H a xs) : ∃ its : List Value, Vals xs its ∧ PlainL s.heap a its.toArray ∧ xs.length ≤ sizeLine := by
  rcases h with h | ⟨o, its, n, hk, hc, hd, hs, hz, r⟩
  · obtain ⟨z, its, n, r, e⟩ := h.ok I.hok
    exact ⟨its, r, ⟨_, n, e, rfl, rfl, rfl⟩, z⟩
  · refine ⟨its.toList, r, ⟨o, n, I.kIn a o hk, hc, hd, by simpa using hs⟩, ?_⟩
    have e := r.length
    simp only [Array.length_toList] at e
    omega
theorem Inv.tuple (I : Inv X pins σ H s) (h : SqT X.K H a xs) : ∃ its : List Value, Vals xs its ∧ IsTup s.heap a its.toArray ∧ xs.length ≤ sizeLine := by
  rcases h with h | ⟨o, its, n, hk, hc, hs, hz, r⟩
  · obtain ⟨z, its, r, p⟩ := h.ok I.hok
    exact ⟨its, r, p, z⟩
  · refine ⟨its.toList, r, ⟨o, I.kIn a o hk, hc, n, by simpa using hs⟩, ?_⟩
    have e := r.length
    simp only [Array.length_toList] at e
    omega
theorem Inv.list_inj (I : Inv X pins σ H s) (h : SqL X.K H a xs) (h' : SqL X.K H a ys) : xs = ys := by
  obtain ⟨its, r, ⟨o, n, e, _, _, d⟩, _⟩ := I.list h
  obtain ⟨its', r', ⟨o', n', e', _, _, d'⟩, _⟩ := I.list h'
  rw [e] at e'; cases e'
  rw [d] at d'
  injection d' with d1 _
  have : its = its' := by simpa using congrArg Array.toList d1
  subst this
  exact r.inj r'
end

/-! ### another wish about exceptions -/
abbrev Cx.wish (X : Cx) (E : Value → Shared → Prop) : Cx := { X with xe := E }
/-- no exception leaves -/
abbrev Cx.nox (X : Cx) : Cx := X.wish fun _ _ => False
theorem Cx.Ok.wish {X : Cx} (ok : X.Ok) (E : Value → Shared → Prop) : (X.wish E).Ok :=
  ⟨ok.mod, ok.kind, ok.glob, ok.blt, ok.above, ok.inj, ok.has, ok.cab, ok.hd, ok.frames, ok.stk, ok.exf, ok.bs, ok.bsz, ok.noex, ok.exfs, ok.funs, ok.frf⟩
theorem Cx.Ok.unwish {X : Cx} {E : Value → Shared → Prop} (ok : (X.wish E).Ok) : X.Ok :=
  ⟨ok.mod, ok.kind, ok.glob, ok.blt, ok.above, ok.inj, ok.has, ok.cab, ok.hd, ok.frames, ok.stk, ok.exf, ok.bs, ok.bsz, ok.noex, ok.exfs, ok.funs, ok.frf⟩
section
variable {X : Cx} {pins : List (Addr × Obj)} {σ : St} {H : Hp} {s : Shared} {E : Value → Shared → Prop}
theorem Inv.wish (I : Inv X pins σ H s) (E : Value → Shared → Prop) : Inv (X.wish E) pins σ H s := ⟨I.ok.wish E, I.os, I.bare, I.base, I.loc, I.cell, I.free, I.freeC, I.pin, I.hok, I.len⟩
theorem Inv.unwish (I : Inv (X.wish E) pins σ H s) : Inv X pins σ H s := ⟨I.ok.unwish, I.os, I.bare, I.base, I.loc, I.cell, I.free, I.freeC, I.pin, I.hok, I.len⟩
theorem SP.unwish {D : Ends} {f : Flow} {s' : Shared} (h : SP (X.wish E) pins D f s') : SP X pins D f s' := by
  cases f with
  | next => obtain ⟨σ', H', I, q⟩ := h; exact ⟨σ', H', I.unwish, q⟩
  | brk => obtain ⟨σ', H', I, q⟩ := h; exact ⟨σ', H', I.unwish, q⟩
  | cont => obtain ⟨σ', H', I, q⟩ := h; exact ⟨σ', H', I.unwish, q⟩
  | ret u => obtain ⟨v, σ', H', I, r, q⟩ := h; exact ⟨v, σ', H', I.unwish, r, q⟩
theorem PSs.nox {st : List Stmt} {t : TS} (h : PSs X.nox st t) : PSs X st t := fun pins s σ H D I hw =>
  wpAny_mono (h pins s σ H D (I.wish _) hw) (fun _ _ q => q.unwish) fun _ _ z => False.elim z
end

/-! ### blocks and small statements -/
section
variable {X : Cx} {st : Stmt} {rest : List Stmt} {t u : TS} {e : Expr} {te : TE} {pos : Pos}
def tNext : TS := fun D σ H => D.nx σ H
def tSeq (t u : TS) : TS := fun D σ H => t { D with nx := u D } σ H
theorem pss_nil : PSs X [] tNext := fun _ _ σ H _ I h => wpAny_execs_nil ⟨σ, H, I, h⟩
theorem pss_cons (h1 : PS X st t) (h2 : PSs X rest u) : PSs X (st :: rest) (tSeq t u) := by
  intro pins s σ H D I h
  refine wpAny_execs_cons (thn (h1 pins s σ H { D with nx := u D } I h) fun f s1 q => ?_)
  cases f with
  | next =>
    obtain ⟨σ', H', I', q⟩ := q
    exact h2 pins s1 σ' H' D I' q
  | ret v => exact q
  | brk => exact q
  | cont => exact q
theorem pss_one (h1 : PS X st t) : PSs X [st] t := by
  intro pins s σ H D I h
  refine wpAny_execs_cons (thn (h1 pins s σ H D I h) fun f s1 q => ?_)
  cases f with
  | next => exact wpAny_execs_nil q
  | ret v => exact q
  | brk => exact q
  | cont => exact q
/-- in a def's body nothing is shown -/
theorem Inv.quiet {pins : List (Addr × Obj)} {σ : St} {H : Hp} {s : Shared} (I : Inv X pins σ H s) : interactive X.env = false := by simp [interactive, I.ok.kind]
/-- an expression whose value is dropped -/
def tDrop (te : TE) : TS := fun D σ H => te σ H fun _ H1 => D.nx σ H1
theorem ps_expr (he : PE X e te) (hs : swapsWith e none pos.line X.env = pure false := by rfl) : PS X (.Expr e pos) (tDrop te) := by
  intro pins s σ H D I h
  exact wpAny_Expr_any (thn (he pins s σ H _ I h) fun v s1 ⟨x, H1, I1, r1, q1⟩ => ⟨σ, H1, I1, q1⟩) I.quiet hs
def tRet (te : TE) : TS := fun D σ H => te σ H D.rt
theorem ps_ret (he : PE X e te) : PS X (.Return (some e) pos) (tRet te) := by
  intro pins s σ H D I h
  exact wpAny_Return_some (thn (he pins s σ H _ I h) fun v s1 ⟨x, H1, I1, r1, q1⟩ => ⟨x, σ, H1, I1, r1, q1⟩)
def tIfS (c : TT) (t u : TS) : TS := fun D σ H => c σ H fun b H1 => if b = true then t D σ H1 else u D σ H1
theorem ps_if {c : Expr} {a b : List Stmt} {tc : TT} (hc : PT X c tc) (ha : PSs X a t) (hb : PSs X b u) : PS X (.If c a b pos) (tIfS tc t u) := by
  intro pins s σ H D I h
  refine wpAny_If (thn (hc pins s σ H _ I h) fun d s1 ⟨H1, I1, q1⟩ => ?_)
  cases d with
  | true => exact ha pins s1 σ H1 D I1 q1
  | false => exact hb pins s1 σ H1 D I1 q1
end

/-! ### targets -/
abbrev TG := V → St → Hp → (St → Hp → Prop) → Prop
abbrev TGs := List V → St → Hp → (St → Hp → Prop) → Prop
def PG (X : Cx) (target : Expr) (t : TG) : Prop :=
  ∀ (pins : List (Addr × Obj)) (s : Shared) (σ : St) (H : Hp) (v : V) (u : Value) (Q : St → Hp → Prop), Inv X pins σ H s → RelV v u → t v σ H Q →
    wpAny (model X.prog X.w) X.A (assign target X.env u) (fun _ s' => ∃ σ' H', Inv X pins σ' H' s' ∧ Q σ' H') X.xe s
/-- several targets, one after another -/
def PGs (X : Cx) (ts : List Expr) (t : TGs) : Prop :=
  ∀ (pins : List (Addr × Obj)) (s : Shared) (σ : St) (H : Hp) (vs : List V) (us : List Value) (Q : St → Hp → Prop), Inv X pins σ H s → Vals vs us → t vs σ H Q →
    wpAny (model X.prog X.w) X.A (assignInOrder ((assignEach ts X.env).map (·.2)) us) (fun _ s' => ∃ σ' H', Inv X pins σ' H' s' ∧ Q σ' H') X.xe s
/-- o[i] = v, by values -/
abbrev TSet := V → V → V → Hp → (Hp → Prop) → Prop
def PSet (X : Cx) (t : TSet) : Prop :=
  ∀ (pins : List (Addr × Obj)) (s : Shared) (σ : St) (H : Hp) (o i v : V) (ov iv u : Value) (Q : Hp → Prop), Inv X pins σ H s → RelV o ov → RelV i iv → RelV v u → t o i v H Q →
    wpAny (model X.prog X.w) X.A (setItem ov iv u) (fun _ s' => ∃ H', Inv X pins σ H' s' ∧ Q H') X.xe s
section
variable {X : Cx} {pos : Pos}
def gName (i : Nat) : TG := fun v σ H Q => Q (σ.set i (some v)) H
theorem pg_name {i : Nat} {x : Str} (hN : X.N.Nodup) (hi : X.N[i]? = some x) (hx : Loc X.env.scope x) (hf : X.fn x = true ∨ X.env.scope.names.lookup x = some .local := by first | exact .inl rfl | exact .inr rfl | assumption) : PG X (.Name x pos) (gName i) := by
  intro pins s σ H v u Q I r h
  exact wpAny_assign_Name (store_ok I hN hi hx r (fun s' I' => ⟨_, H, I', h⟩) hf)
def gNil : TGs := fun vs σ H Q => vs = [] ∧ Q σ H
def gCons (t : TG) (u : TGs) : TGs := fun vs σ H Q => ∃ v r, vs = v :: r ∧ t v σ H fun σ' H' => u r σ' H' Q
theorem pgs_nil : PGs X [] gNil := by
  intro pins s σ H vs us Q I r h
  obtain ⟨e, h⟩ := h
  subst e
  cases r
  exact assignInOrder_nil ⟨σ, H, I, h⟩
theorem pgs_cons {e : Expr} {es : List Expr} {t : TG} {u : TGs} (h1 : PG X e t) (h2 : PGs X es u)
    (hs : (assignEach (e :: es) X.env).map (·.2) = assign e X.env :: (assignEach es X.env).map (·.2) := by rfl) : PGs X (e :: es) (gCons t u) := by
  intro pins s σ H vs us Q I r h
  obtain ⟨v, vr, e1, h⟩ := h
  subst e1
  cases r with
  | cons r rr =>
    rw [hs]
    refine assignInOrder_cons (thn (h1 pins s σ H _ _ _ I r h) fun _ s1 ⟨σ1, H1, I1, q1⟩ => ?_)
    exact h2 pins s1 σ1 H1 _ _ Q I1 rr q1
/-- (a, b, ..) = a tuple of that length -/
def gTup (K : PySem.W.Frag) (n : Nat) (t : TGs) : TG := fun v σ H Q => ∃ a xs, v = .ref a ∧ SqT K H a xs ∧ xs.length = n ∧ t xs σ H Q
theorem pg_tup {es : List Expr} {k : Nat} {t : TGs} {n : Nat} (hc : X.calm = true) (h : PGs X es t)
    (hn : (assignEach es X.env).length = n := by rfl) (hst : (assignEach es X.env).findIdx? (·.1) = none := by rfl) : PG X (.Tuple es k pos) (gTup X.K n t) := by
  intro pins s σ H v u Q I r hw
  obtain ⟨a, xs, e1, hq, hl, hw⟩ := hw
  subst e1
  cases r
  obtain ⟨its, rv, ht, hz⟩ := I.tuple hq
  refine assign_Tuple_tuple (I.ok.hd hc) ht (by simp [hn, ← hl, rv.length]) hst fun h' hx => ?_
  have I1 : Inv X pins σ H { s with heap := h' } := I.kept (t' := s.toks) fun b o e => hx b o (Nat.ne_of_lt (Heap.lt_size e)) e
  exact h pins _ σ H xs _ Q I1 (by simpa using rv) hw
/-- o[i] = .. -/
def gSub (to ti : TE) (t : TSet) : TG := fun v σ H Q => to σ H fun o H1 => ti σ H1 fun i H2 => t o i v H2 fun H3 => Q σ H3
theorem pg_sub {o i : Expr} {to ti : TE} {t : TSet} (ho : PE X o to) (hi : PE X i ti) (hs : PSet X t)
    (ha : ∀ v, assign (.Subscript o i pos) X.env v = (do
      let ov ← holding [v] (eval o X.env)
      let iv ← holding [v, ov] (eval i X.env)
      standAt pos
      holding [v, ov, iv] (setItem ov iv v)
      release [v, ov, iv] []) := by intro _; rfl) : PG X (.Subscript o i pos) (gSub to ti t) := by
  intro pins s σ H v u Q I r h
  rw [ha]
  refine wpAny_bind (wpAny_holding (thn (ho pins s σ H _ I h) fun ov s1 ⟨x, H1, I1, r1, q1⟩ => ?_))
  refine wpAny_bind (wpAny_holding (thn (hi pins s1 σ H1 _ I1 q1) fun iv s2 ⟨y, H2, I2, r2, q2⟩ => ?_))
  refine wpAny_bind (wpAny_standAt (wpAny_bind (wpAny_holding (thn (hs pins s2 σ H2 x y v ov iv u _ I2 r1 r2 r q2) fun _ s3 ⟨H3, I3, q3⟩ => ?_))))
  exact wpAny_release ⟨σ, H3, I3, q3⟩
/-- target = value -/
def tAsg (te : TE) (g : TG) : TS := fun D σ H => te σ H fun x H1 => g x σ H1 D.nx
theorem ps_asg {tg e : Expr} {te : TE} {g : TG} (he : PE X e te) (hg : PG X tg g) (hs : swapsWithSole [tg] e pos.line X.env = pure false := by rfl) (hw : swappedStores [tg] e X.env = pure none := by rfl)
    (h1 : (assignEach [tg] X.env).map (·.2) = [assign tg X.env] := by rfl) : PS X (.Assign [tg] e pos) (tAsg te g) := by
  intro pins s σ H D I h
  refine wpAny_Assign_stores (thn (he pins s σ H _ I h) fun v s1 ⟨x, H1, I1, r1, q1⟩ => ?_) hs hw
  rw [h1]
  exact thn (hg pins s1 σ H1 x v _ I1 r1 q1) fun _ s2 q => q
/-- name = value -/
theorem ps_set {i : Nat} {x : Str} {e : Expr} {te : TE} {pos' : Pos} (hN : X.N.Nodup) (hi : X.N[i]? = some x) (hx : Loc X.env.scope x) (he : PE X e te) (hs : swapsWith e (some (.Name x pos')) pos.line X.env = pure false := by rfl) (hf : X.fn x = true ∨ X.env.scope.names.lookup x = some .local := by first | exact .inl rfl | exact .inr rfl | assumption) :
    PS X (.Assign [.Name x pos'] e pos) (tAsg te (gName i)) := by
  intro pins s σ H D I h
  refine wpAny_Assign_Name (thn (he pins s σ H _ I h) fun v s1 ⟨y, H1, I1, r1, q1⟩ => ?_) hs
  exact store_ok I1 hN hi hx r1 (fun s2 I2 => ⟨_, H1, I2, q1⟩) hf
/-- a, b = x, y with plain local names: stored from the right; the pair itself is not tracked (the opening rows as in PyProof/Rows/TupAssign.lean:23) -/
def tPar (i j : Nat) (ta : TA) : TS := fun D σ H => ta σ H fun vs H1 => ∃ v w, vs = [v, w] ∧ D.nx ((σ.set i (some v)).set j (some w)) H1
theorem ps_par {i j : Nat} {x y : Str} {a b : Expr} {ta : TA} {px py pt : Pos} {kt k2 pt2} (hc : X.calm = true) (hN : X.N.Nodup) (hi : X.N[i]? = some x) (hj : X.N[j]? = some y) (hij : i ≠ j)
    (hx : X.env.scope.names.lookup x = some .local) (hy : X.env.scope.names.lookup y = some .local) (ha : PA X [a, b] ta)
    (hw : swappedStores [.Tuple [.Name x px, .Name y py] kt pt] (.Tuple [a, b] k2 pt2) X.env = pure (some [x, y]))
    (hs : swapsWithSole [.Tuple [.Name x px, .Name y py] kt pt] (.Tuple [a, b] k2 pt2) pos.line X.env = pure false := by rfl) :
    PS X (.Assign [.Tuple [.Name x px, .Name y py] kt pt] (.Tuple [a, b] k2 pt2) pos) (tPar i j ta) := by
  intro pins s σ H D I h
  rw [exec_Assign_arm]
  refine wpAny_bind (wpAny_standAt ?_)
  rw [hs]
  refine wpAny_bind (wpAny_pure ?_)
  rw [if_neg (by decide)]
  refine wpAny_bind (Tuple_ (thn (ha _ pins s σ H _ I h) fun us s1 ⟨vs, H1, I1, r1, q1⟩ => ?_))
  obtain ⟨v, w, e1, q1⟩ := q1
  subst e1
  obtain ⟨u1, u2, rfl, rv, rw'⟩ : ∃ u1 u2, us = [u1, u2] ∧ RelV v u1 ∧ RelV w u2 := by
    cases r1 with
    | cons p q =>
      cases q with
      | cons p' q' =>
        cases q'
        exact ⟨_, _, rfl, p, p'⟩
  refine wpAny_newObj_type ?_ (by show 2 ≤ sizeLine; decide)
  have I2 : Inv X pins σ H1 { s1 with heap := s1.heap.push { cls := .type "tuple", data := .seq [u1, u2].toArray } } := I1.kept (t' := s1.toks) fun b o e => Heap.get?_push_of_some _ e
  rw [hw]
  refine wpAny_bind (wpAny_pure ?_)
  show wpAny (model X.prog X.w) X.A (do rule "assign.swapped-stores"; let items ← unpackItems (.ref s1.heap.objs.size) 2 none; assignInOrder [fun v => bindName X.env y v, fun v => bindName X.env x v] items.reverse; pure Flow.next) _ _ _
  refine wpAny_bind (wpAny_rule (wpAny_bind (unpackItems_tuple (items := #[u1, u2]) (I.ok.hd hc) (IsTup.new s1.heap _) fun h' hx' => ?_)))
  have I3 := I2.kept (h' := h') (t' := s1.toks) fun b o e => hx' b o (Nat.ne_of_lt (Heap.lt_size e)) e
  show wpAny _ _ (assignInOrder [fun v => bindName X.env y v, fun v => bindName X.env x v] [u2, u1] >>= fun _ => pure Flow.next) _ _ _
  refine wpAny_bind (assignInOrder_cons (wpAny_bindName (store_ok I3 hN hj (.inl hy) rw' (fun s2 I4 => ?_) (.inr hy))))
  refine assignInOrder_cons (wpAny_bindName (store_ok I4 hN hi (.inl hx) rv (fun s3 I5 => assignInOrder_nil (wpAny_pure ?_)) (.inr hx)))
  rw [List.set_comm _ _ (Ne.symm hij)] at I5
  exact ⟨_, H1, I5, q1⟩
end

/-! ### while -/
section
variable {X : Cx} {pos : Pos}
/-- the invariant W with its measure -/
def tWhile (c : TT) (tb : TS) : TS := fun D σ H => ∃ W : Nat → St → Hp → Prop, (∃ m, W m σ H) ∧ ∀ m σ H, W m σ H →
  c σ H fun b H1 => if b = true then ∃ N : St → Hp → Prop, (∀ σ' H', N σ' H' → ∃ m', m' < m ∧ W m' σ' H') ∧ tb { D with nx := N, ct := N, bk := D.nx } σ H1 else D.nx σ H1
theorem ps_while {c : Expr} {body : List Stmt} {tc : TT} {tb : TS} (hp : PassesOwn (model X.prog X.w) X.A X.env X.xe) (hc : PT X c tc) (hb : PSs X body tb) : PS X (.While c body [] pos) (tWhile tc tb) := by
  intro pins s σ H D I h
  obtain ⟨W, ⟨m0, w0⟩, turn⟩ := h
  refine wpAny_While (codeAny_whileLoop (fun n s' => ∃ σ' H', Inv X pins σ' H' s' ∧ W n σ' H') ?_ m0 ⟨σ, H, I, w0⟩)
  rintro n s1 ⟨σ1, H1, I1, w1⟩
  refine wpAny_passesOwn hp (thn (hc pins s1 σ1 H1 _ I1 (turn n σ1 H1 w1)) fun b s2 ⟨H2, I2, q2⟩ => ?_)
  cases b with
  | true =>
    obtain ⟨N, hN, q2⟩ := q2
    rw [if_pos rfl]
    refine wpAny_passesOwn hp (thn (hb pins s2 σ1 H2 _ I2 q2) fun f s3 q3 => ?_)
    cases f with
    | next =>
      obtain ⟨σ3, H3, I3, n3⟩ := q3
      obtain ⟨m', hm, w3⟩ := hN σ3 H3 n3
      exact ⟨m', hm, σ3, H3, I3, w3⟩
    | cont =>
      obtain ⟨σ3, H3, I3, n3⟩ := q3
      obtain ⟨m', hm, w3⟩ := hN σ3 H3 n3
      exact ⟨m', hm, σ3, H3, I3, w3⟩
    | brk => exact q3
    | ret v => exact q3
  | false =>
    rw [if_neg Bool.false_ne_true]
    exact wpAny_execs_nil ⟨σ1, H2, I2, q2⟩
end

/-! ### what a loop or a comprehension walks -/
/-- at turn i: it yields x (the heap may grow), or it stops -/
structure It where
  go : Nat → Hp → Prop
  yld : Nat → Hp → V → Hp → Prop
  stop : Nat → Hp → Prop
/-- the iterator's own objects may turn: they are not the frame's, not pinned, younger than the entry (or a comprehension's own) -/
def FpOk (X : Cx) (pins : List (Addr × Obj)) (H : Hp) (b : Addr) : Prop :=
  H b = none ∧ b ≠ X.env.locals ∧ b ∉ X.fs ∧ (b ∈ X.ex ∨ X.s₀.heap.objs.size ≤ b) ∧ (∀ x c, X.env.cells.lookup x = some c → c ≠ b) ∧ ∀ p ∈ X.pn ++ pins, p.1 ≠ b
theorem Inv.fpOk {X : Cx} {pins : List (Addr × Obj)} {σ : St} {H H' : Hp} {s : Shared} {b : Addr} (I : Inv X pins σ H s) (hb : s.heap.objs.size ≤ b) (hn : H' b = none) : FpOk X pins H' b := by
  refine ⟨hn, Nat.ne_of_gt (Nat.lt_of_lt_of_le I.lt hb), I.nofs hb, .inr (Nat.le_trans I.sz hb), fun x c e z => ?_, fun p hp z => ?_⟩
  · obtain ⟨v, q⟩ := I.cell x c e
    exact absurd (Nat.lt_of_lt_of_le q.lt (by rw [z]; exact hb)) (Nat.lt_irrefl _)
  · exact absurd (Nat.lt_of_lt_of_le (Heap.lt_size (I.pin p hp).1) (by rw [z]; exact hb)) (Nat.lt_irrefl _)
structure Turn (P : Program) (w : World) (K : PySem.W.Frag) (tg : Expr) (J : It) (fp : List Addr) (it : Addr) (tn : Nat → Heap → Prop) : Prop where
  mem : it ∈ fp
  obj : ∀ i h, tn i h → ∀ b ∈ fp, ∃ o, h.get? b = some o ∧ ∀ v, o.data ≠ .cell v
  keep : ∀ i h h', tn i h → (∀ b ∈ fp, ∀ o, h.get? b = some o → h'.get? b = some o) → tn i h'
  item : ∀ (X : Cx), X.prog = P → X.w = w → X.K = K → X.calm = true → ∀ (i : Nat) (pins : List (Addr × Obj)) (s : Shared) (σ : St) (H : Hp) (E : Value → Shared → Prop), Inv X pins σ H s → (∀ b ∈ fp, FpOk X pins H b) → tn i s.heap → J.go i H →
    wpAny (model P w) X.A (pyNext (.ref it)) (fun r s1 => ∃ u, r = some u ∧
      wpAny (model P w) X.A (letOwnedTupleGo tg (.ref it) u) (fun _ s2 => ∃ x H', Inv X pins σ H' s2 ∧ RelV x u ∧ J.yld i H x H' ∧ tn (i + 1) s2.heap ∧ ∀ b ∈ fp, H' b = none) E s1) E s
  done : ∀ (X : Cx), X.prog = P → X.w = w → X.K = K → X.calm = true → ∀ (i : Nat) (pins : List (Addr × Obj)) (s : Shared) (σ : St) (H : Hp) (E : Value → Shared → Prop), Inv X pins σ H s → (∀ b ∈ fp, FpOk X pins H b) → tn i s.heap → J.stop i H →
    wpAny (model P w) X.A (pyNext (.ref it)) (fun r s1 => r = none ∧ Inv X pins σ H s1) E s
  self : ∀ (A : Around) (i : Nat) (s : Shared) (Q : Value → Shared → Prop) (E : Value → Shared → Prop), tn i s.heap → Q (.ref it) s → wpAny (model P w) A (pyIter (.ref it)) Q E s
abbrev TI := St → Hp → (It → Hp → Prop) → Prop
/-- an iterator has come -/
def PIE (X : Cx) (pins : List (Addr × Obj)) (σ : St) (tg : Expr) (R : It → Hp → Prop) (itv : Value) (s2 : Shared) : Prop :=
  ∃ (it : Addr) (fp : List Addr) (tn : Nat → Heap → Prop) (J : It) (H' : Hp), itv = .ref it ∧ Inv X pins σ H' s2 ∧ Turn X.prog X.w X.K tg J fp it tn ∧ tn 0 s2.heap ∧ (∀ b ∈ fp, FpOk X pins H' b) ∧ R J H'
def PI (X : Cx) (tg iter : Expr) (wi : TI) : Prop :=
  ∀ (pins : List (Addr × Obj)) (s : Shared) (σ : St) (H : Hp) (R : It → Hp → Prop), Inv X pins σ H s → wi σ H R →
    wpAny (model X.prog X.w) X.A (eval iter X.env) (fun v s1 => wpAny (model X.prog X.w) X.A (pyIter v) (PIE X pins σ tg R) X.xe s1) X.xe s

/-- the step ahead of the store is nothing for an iterator that keeps no tuple -/
theorem go_of {M : Model} {A : Around} {E : Value → Shared → Prop} {s : Shared} {tg : Expr} {it : Addr} {u : Value} {o : Obj} {n : String} {vs : Array Value} {Q : Unit → Shared → Prop} (ho : s.heap.get? it = some o) (hc : o.cls = .type n) (hd : o.data = .fields vs)
    (hn : ["enumerate", "zip", "dict_itemiterator", "dict_reverseitemiterator", "odict_iterator", "itertools.zip_longest", "itertools.pairwise"].contains n = false) (hQ : Q () s) : wpAny M A (letOwnedTupleGo tg (.ref it) u) Q E s := by
  unfold letOwnedTupleGo
  cases tg <;> first
    | exact wpAny_pure hQ
    | (cases u <;> first
        | exact wpAny_pure hQ
        | (refine wpAny_bind (wpAny_load ho ?_)
           rw [hc, hd]
           show wpAny M A (if (["enumerate", "zip", "dict_itemiterator", "dict_reverseitemiterator", "odict_iterator", "itertools.zip_longest", "itertools.pairwise"].contains n && vs[0]? == some (rawInt _)) = true then _ else _) Q E s
           rw [if_neg (by intro h; rw [hn, Bool.false_and] at h; cases h)]
           exact wpAny_pure hQ))

/-- the list at a, as it stands at each turn (a loop may append to it) -/
def Itl (K : PySem.W.Frag) (a : Addr) : It :=
  ⟨fun i H => ∃ xs x, SqL K H a xs ∧ xs[i]? = some x, fun i H x H' => H' = H ∧ ∀ xs, SqL K H a xs → xs[i]? = some x, fun i H => ∃ xs, SqL K H a xs ∧ xs.length ≤ i⟩
theorem turn_list {P : Program} {w : World} {K : PySem.W.Frag} {tg : Expr} (a it : Addr) : Turn P w K tg (Itl K a) [it] it (fun i h => h.IsListIter it a i) where
  mem := by simp
  obj := fun i h st b hb => by
    have e : b = it := by simpa using hb
    subst e
    obtain ⟨o, e, c, d⟩ := st
    exact ⟨o, e, fun v z => by rw [d] at z; cases z⟩
  keep := fun i h h' st k => st.at fun o e => k it (by simp) o e
  item := by
    intro X hP hw hK hc i pins s σ H E I hf st hg
    subst hP hw hK
    obtain ⟨xs, x, hq, hx⟩ := hg
    obtain ⟨its, rv, p, hz⟩ := I.list hq
    obtain ⟨u, hu, ru⟩ := rv.get hx
    obtain ⟨f0, f1, f2, f3, f4, f5⟩ := hf it (by simp)
    refine wpAny_pyNext_list_item st p.isList (x := u) (by simpa using hu) fun h' st' sb => ?_
    have I1 : Inv X pins σ H { s with heap := h' } := I.turned (t' := s.toks) (fun b o hb e => (sb.2 b hb).trans e) f0 f1 f3 f4 f5
    obtain ⟨o, e, c, d⟩ := id st'
    exact ⟨u, rfl, go_of (s := { s with heap := h' }) e c d (by decide) ⟨x, H, I1, ru, ⟨rfl, fun ys hy => by rw [I.list_inj hy hq]; exact hx⟩, st', fun b hb => (hf b hb).1⟩⟩
  done := by
    intro X hP hw hK hc i pins s σ H E I hf st hg
    subst hP hw hK
    obtain ⟨xs, hq, hx⟩ := hg
    obtain ⟨its, rv, p, hz⟩ := I.list hq
    obtain ⟨f0, f1, f2, f3, f4, f5⟩ := hf it (by simp)
    have hl := rv.length
    exact wpAny_pyNext_list_end (I.ok.hd hc) st p.isList (by simp; omega) fun h' eb => ⟨rfl, I.turned (t' := s.toks) (fun b o hb e => eb b o hb e) f0 f1 f3 f4 f5⟩
  self := fun _ _ _ _ _ st h => wpAny_pyIter_listiter st h
end L2

namespace L2
open PySem PySem.Spec PyProof.Rows
section
variable {X : Cx} {tg : Expr}
def iList (K : PySem.W.Frag) (tl : TE) : TI := fun σ H R => tl σ H fun x H1 => ∃ a, x = .ref a ∧ (∃ xs, SqL K H1 a xs) ∧ R (Itl K a) H1
theorem pi_list {l : Expr} {tl : TE} (hl : PE X l tl) : PI X tg l (iList X.K tl) := by
  intro pins s σ H R I h
  refine thn (hl pins s σ H _ I h) fun v s1 ⟨x, H1, I1, r1, q1⟩ => ?_
  obtain ⟨a, e, ⟨xs, hq⟩, q⟩ := q1
  subst e
  cases r1
  obtain ⟨its, rv, p, hz⟩ := I1.list hq
  refine wpAny_pyIter_list p.isList ?_
  refine ⟨s1.heap.objs.size, [s1.heap.objs.size], _, _, H1, rfl, I1.kept (t' := s1.toks) fun b o e => Heap.get?_push_of_some _ e, turn_list a _, ⟨_, Heap.get?_push_size _ rfl, rfl, rfl⟩, fun b hb => ?_, q⟩
  have e : b = s1.heap.objs.size := by simpa using hb
  subst e
  exact I1.fpOk (Nat.le_refl _) (I1.hok.fresh (Nat.le_refl _))

/-! ### for -/
/-- W: the invariant by the turn and a measure; N: what the body is to reach -/
def tFor (wi : TI) (g : TG) (tb : TS) : TS := fun D σ H => wi σ H fun J H1 => ∃ W : Nat → Nat → St → Hp → Prop, (∃ m, W 0 m σ H1) ∧ ∀ i m σ H, W i m σ H →
  (J.stop i H ∧ D.nx σ H) ∨ (J.go i H ∧ ∃ N : St → Hp → Prop, (∀ σ' H', N σ' H' → ∃ m', m' < m ∧ W (i + 1) m' σ' H') ∧ ∀ x H', J.yld i H x H' → g x σ H' fun σ2 H2 => tb { D with nx := N, ct := N, bk := D.nx } σ2 H2)
/-- the records at fp as they stand -/
def pinsAt (fp : List Addr) (h : Heap) : List (Addr × Obj) := fp.filterMap fun b => (h.get? b).map fun o => (b, o)
theorem mem_pinsAt {fp : List Addr} {h : Heap} {b : Addr} {o : Obj} (hb : b ∈ fp) (e : h.get? b = some o) : (b, o) ∈ pinsAt fp h := List.mem_filterMap.mpr ⟨b, hb, by rw [e]; rfl⟩
theorem of_pinsAt {fp : List Addr} {h : Heap} {p : Addr × Obj} (hp : p ∈ pinsAt fp h) : p.1 ∈ fp ∧ h.get? p.1 = some p.2 := by
  obtain ⟨b, hb, e⟩ := List.mem_filterMap.mp hp
  cases q : h.get? b with
  | none => rw [q] at e; cases e
  | some o =>
    rw [q] at e
    have e' : (b, o) = p := Option.some.inj e
    subst e'
    exact ⟨hb, q⟩
theorem Inv.pinned {pins : List (Addr × Obj)} {σ : St} {H : Hp} {s : Shared} {fp : List Addr} (I : Inv X pins σ H s) (hf : ∀ b ∈ fp, FpOk X pins H b) (ho : ∀ b ∈ fp, ∃ o, s.heap.get? b = some o ∧ ∀ v, o.data ≠ .cell v) : Inv X (pins ++ pinsAt fp s.heap) σ H s :=
  I.pins_of fun p hp => (List.mem_append.mp hp).elim (fun z => I.pin p (List.mem_append_right _ z)) fun z => by
    obtain ⟨hb, e⟩ := of_pinsAt z
    obtain ⟨f0, f1, f2, _⟩ := hf p.1 hb
    obtain ⟨o, e', d⟩ := ho p.1 hb
    rw [e] at e'; cases e'
    exact ⟨e, f0, f1, f2, d⟩
theorem Inv.unpinned {pins pl : List (Addr × Obj)} {σ : St} {H : Hp} {s : Shared} (I : Inv X (pins ++ pl) σ H s) : Inv X pins σ H s := I.pins_of fun p hp => I.pin p (List.mem_append_right _ (List.mem_append_left _ hp))
theorem ps_for {iter : Expr} {body : List Stmt} {wi : TI} {g : TG} {tb : TS} {pos : Pos} (hp : PassesOwn (model X.prog X.w) X.A X.env X.xe) (hc : X.calm = true) (hi : PI X tg iter wi) (hg : PG X tg g) (hb : PSs X body tb)
    (hs : ∀ x, foldedSetIterable iter X.env x = pure x := by intro _; rfl) : PS X (.For tg iter body [] pos) (tFor wi g tb) := by
  intro pins s σ H D I h
  refine wpAny_For (thn (hi pins s σ H _ I h) fun v s1 h1 => thn h1 fun itv s2 h2 => ?_) hs
  obtain ⟨it, fp, tn, J, H2, e, I2, T, st2, f2, W, ⟨m0, w0⟩, turn⟩ := h2
  subst e
  -- what stays true of the iterator's objects through the loop
  have stat : ∀ {H' : Hp}, (∀ b ∈ fp, H' b = none) → ∀ b ∈ fp, FpOk X pins H' b := fun hn b hb => ⟨hn b hb, (f2 b hb).2⟩
  refine codeAny_forLoop_any (fun n s' => ∃ i σ' H', Inv X pins σ' H' s' ∧ tn i s'.heap ∧ (∀ b ∈ fp, H' b = none) ∧ W i n σ' H') ?_ m0 ⟨0, σ, H2, I2, st2, fun b hb => (f2 b hb).1, w0⟩
  rintro n s3 ⟨i, σ3, H3, I3, st3, fr3, w3⟩
  rcases turn i n σ3 H3 w3 with ⟨stop, qn⟩ | ⟨go, N, hN, step⟩
  · refine wpAny_passesOwn hp (thn (T.done X rfl rfl rfl hc i pins s3 σ3 H3 X.xe I3 (stat fr3) st3 stop) fun r s4 ⟨hr, I4⟩ => ?_)
    subst hr
    exact wpAny_execs_nil ⟨σ3, H3, I4, qn⟩
  · refine wpAny_passesOwn hp (thn (T.item X rfl rfl rfl hc i pins s3 σ3 H3 X.xe I3 (stat fr3) st3 go) fun r s4 ⟨u, hr, h4⟩ => ?_)
    subst hr
    refine wpAny_passesOwn hp (thn h4 fun _ s5 ⟨x, H5, I5, r5, y5, st5, fr5⟩ => ?_)
    have I5' := I5.pinned (stat fr5) (T.obj _ _ st5)
    refine wpAny_passesOwn hp (thn (hg _ s5 σ3 H5 x u _ I5' r5 (step x H5 y5)) fun _ s6 ⟨σ6, H6, I6, q6⟩ => ?_)
    refine wpAny_passesOwn hp (thn (hb _ s6 σ6 H6 _ I6 q6) fun f s7 q7 => ?_)
    have again : ∀ {σ7 : St} {H7 : Hp}, Inv X (pins ++ pinsAt fp s5.heap) σ7 H7 s7 → N σ7 H7 → ∃ m, m < n ∧ ∃ i σ' H', Inv X pins σ' H' s7 ∧ tn i s7.heap ∧ (∀ b ∈ fp, H' b = none) ∧ W i m σ' H' := fun {σ7 H7} I7 n7 => by
      obtain ⟨m', hm, w7⟩ := hN σ7 H7 n7
      refine ⟨m', hm, i + 1, σ7, H7, I7.unpinned, T.keep _ _ _ st5 fun b hb o e => (I7.pin (b, o) (List.mem_append_right _ (List.mem_append_right _ (mem_pinsAt hb e)))).1, fun b hb => ?_, w7⟩
      obtain ⟨o, e, d⟩ := T.obj _ _ st5 b hb
      exact (I7.pin (b, o) (List.mem_append_right _ (List.mem_append_right _ (mem_pinsAt hb e)))).2.1
    cases f with
    | next => obtain ⟨σ7, H7, I7, n7⟩ := q7; exact again I7 n7
    | cont => obtain ⟨σ7, H7, I7, n7⟩ := q7; exact again I7 n7
    | brk => obtain ⟨σ7, H7, I7, q7⟩ := q7; exact ⟨σ7, H7, I7.unpinned, q7⟩
    | ret v => obtain ⟨x7, σ7, H7, I7, r7, q7⟩ := q7; exact ⟨x7, σ7, H7, I7.unpinned, r7, q7⟩
end

/-! ### the forms one uses -/
/-- over a list that the body leaves as it is -/
theorem for_list {K : PySem.W.Frag} {a : Addr} {xs : List V} {g : TG} {tb : TS} {D : Ends} {σ : St} {H : Hp} (Pv : Nat → St → Hp → Prop) (h0 : Pv 0 σ H) (hl : ∀ i σ H, i ≤ xs.length → Pv i σ H → SqL K H a xs)
    (hs : ∀ i x σ H, xs[i]? = some x → Pv i σ H → g x σ H fun σ2 H2 => tb { D with nx := Pv (i + 1), ct := Pv (i + 1), bk := D.nx } σ2 H2) (hd : ∀ σ H, Pv xs.length σ H → D.nx σ H) :
    ∃ W : Nat → Nat → St → Hp → Prop, (∃ m, W 0 m σ H) ∧ ∀ i m σ H, W i m σ H →
      ((Itl K a).stop i H ∧ D.nx σ H) ∨ ((Itl K a).go i H ∧ ∃ N : St → Hp → Prop, (∀ σ' H', N σ' H' → ∃ m', m' < m ∧ W (i + 1) m' σ' H') ∧ ∀ x H', (Itl K a).yld i H x H' → g x σ H' fun σ2 H2 => tb { D with nx := N, ct := N, bk := D.nx } σ2 H2) := by
  refine ⟨fun i m σ H => m = xs.length - i ∧ i ≤ xs.length ∧ Pv i σ H, ⟨xs.length, by simp, Nat.zero_le _, h0⟩, ?_⟩
  rintro i m σ H ⟨rfl, hi, p⟩
  have q := hl i σ H hi p
  by_cases hlt : i < xs.length
  · refine .inr ⟨⟨xs, xs[i], q, by simp [hlt]⟩, Pv (i + 1), fun σ' H' p' => ⟨xs.length - (i + 1), by omega, rfl, hlt, p'⟩, fun x H' y => ?_⟩
    obtain ⟨e, y⟩ := y
    subst e
    exact hs i x σ _ (y xs q) p
  · have e : i = xs.length := by omega
    subst e
    exact .inl ⟨⟨xs, q, Nat.le_refl _⟩, hd σ H p⟩
/-- while, by a word and a measure of the state -/
theorem while_by {c : TT} {tb : TS} {D : Ends} {σ : St} {H : Hp} (Pv : St → Hp → Prop) (μ : St → Hp → Nat) (h0 : Pv σ H)
    (hs : ∀ σ H, Pv σ H → c σ H fun b H1 => if b = true then tb { D with nx := fun σ' H' => Pv σ' H' ∧ μ σ' H' < μ σ H, ct := fun σ' H' => Pv σ' H' ∧ μ σ' H' < μ σ H, bk := D.nx } σ H1 else D.nx σ H1)
    (mono : ∀ σ H Q Q', (∀ b H1, Q b H1 → Q' b H1) → c σ H Q → c σ H Q') : tWhile c tb D σ H := by
  refine ⟨fun m σ H => m = μ σ H ∧ Pv σ H, ⟨_, rfl, h0⟩, ?_⟩
  rintro m σ H ⟨rfl, p⟩
  refine mono σ H _ _ (fun b H1 q => ?_) (hs σ H p)
  cases b with
  | true => exact ⟨_, fun σ' H' ⟨p', l⟩ => ⟨_, l, rfl, p'⟩, q⟩
  | false => exact q
end L2

namespace L2
open PySem PySem.Spec PyProof.Rows

abbrev R2 := V → V → Hp → VK → Prop
/-- a two-place operation on values: f is binaryOp op, inplaceOp op or compareOp op -/
def OpR (X : Cx) (f : Value → Value → Sem Value) (r : R2) : Prop :=
  ∀ (pins : List (Addr × Obj)) (s : Shared) (σ : St) (H : Hp) (x y : V) (v u : Value) (Q : VK), Inv X pins σ H s → RelV x v → RelV y u → r x y H Q →
    wpAny (model X.prog X.w) X.A (f v u) (EP X pins σ Q) X.xe s
/-- a one-place operation -/
def UnR (X : Cx) (f : Value → Sem Value) (r : V → Hp → VK → Prop) : Prop :=
  ∀ (pins : List (Addr × Obj)) (s : Shared) (σ : St) (H : Hp) (x : V) (v : Value) (Q : VK), Inv X pins σ H s → RelV x v → r x H Q →
    wpAny (model X.prog X.w) X.A (f v) (EP X pins σ Q) X.xe s
/-- a call of a value that is known (a builtin, a type) with values -/
def CallR (X : Cx) (f : Value) (r : List V → Hp → VK → Prop) : Prop :=
  ∀ (pins : List (Addr × Obj)) (s : Shared) (σ : St) (H : Hp) (xs : List V) (us : List Value) (Q : VK), Inv X pins σ H s → Vals xs us → r xs H Q →
    wpAny (model X.prog X.w) X.A (call f us) (EP X pins σ Q) X.xe s

def tOp (r : R2) (ta tb : TE) : TE := fun σ H Q => ta σ H fun x H1 => tb σ H1 fun y H2 => r x y H2 Q
def tUn (r : V → Hp → VK → Prop) (ta : TE) : TE := fun σ H Q => ta σ H fun x H1 => r x H1 Q
/-- ints in, under C, and a value out -/
def rI (C : Int → Int → Prop) (g : Int → Int → V) : R2 := fun x y H Q => ∃ i j, x = .int i ∧ y = .int j ∧ C i j ∧ Q (g i j) H
def rI0 (g : Int → Int → V) : R2 := fun x y H Q => ∃ i j, x = .int i ∧ y = .int j ∧ Q (g i j) H
def rU (g : Int → V) : V → Hp → VK → Prop := fun x H Q => ∃ i, x = .int i ∧ Q (g i) H

section
variable {X : Cx} {a b c : Expr} {ta tb tc : TE} {pos : Pos}

theorem binT (ha : PE X a ta) (hb : PE X b tb) {pins : List (Addr × Obj)} {s : Shared} {σ : St} {H : Hp} {R : V → V → Hp → Prop} (I : Inv X pins σ H s)
    (h : ta σ H fun x H1 => tb σ H1 fun y H2 => R x y H2) {Q : Value → Shared → Prop} {f : Value → Value → Sem Value}
    (hf : ∀ v u s2 x y H2, Inv X pins σ H2 s2 → RelV x v → RelV y u → R x y H2 → wpAny (model X.prog X.w) X.A (f v u) Q X.xe s2) :
    wpAny (model X.prog X.w) X.A (eval a X.env) (fun v s₁ => wpAny (model X.prog X.w) X.A (eval b X.env) (fun u s₂ => wpAny (model X.prog X.w) X.A (f v u) Q X.xe s₂) X.xe s₁) X.xe s := by
  refine thn (ha pins s σ H _ I h) fun v s1 ⟨x, H1, I1, r1, q1⟩ => ?_
  refine thn (hb pins s1 σ H1 _ I1 q1) fun u s2 ⟨y, H2, I2, r2, q2⟩ => ?_
  exact hf v u s2 x y H2 I2 r1 r2 q2

theorem pe_op {op : Operator} {r : R2} (ho : OpR X (binaryOp op) r) (ha : PE X a ta) (hb : PE X b tb) : PE X (.BinOp a op b pos) (tOp r ta tb) := by
  intro pins s σ H Q I h
  exact wpAny_BinOp (binT ha hb I h fun v u s2 x y H2 I2 rx ry q => ho pins s2 σ H2 x y v u Q I2 rx ry q)
theorem pe_un {op : UnaryOp} {r : V → Hp → VK → Prop} (ho : UnR X (unaryOp op) r) (ha : PE X a ta) : PE X (.UnaryOp op a pos) (tUn r ta) := by
  intro pins s σ H Q I h
  exact UnaryOp_ (thn (ha pins s σ H _ I h) fun v s1 ⟨x, H1, I1, r1, q1⟩ => ho pins s1 σ H1 x v Q I1 r1 q1)

/-! ### ints -/
theorem opI {f : Value → Value → Sem Value} {C : Int → Int → Prop} {g : Int → Int → Int}
    (rule : ∀ (i j : Int) (t u : Tok) (s : Shared) (Q : Value → Shared → Prop) (E : Value → Shared → Prop), C i j → Q (.int (g i j) s.toks) { s with toks := s.toks + 1 } → wpAny (model X.prog X.w) X.A (f (.int i t) (.int j u)) Q E s) :
    OpR X f (rI C fun i j => .int (g i j)) := by
  intro pins s σ H x y v u Q I rx ry h
  obtain ⟨i, j, rfl, rfl, hc, q⟩ := h
  obtain ⟨t, rfl⟩ := rx
  obtain ⟨t', rfl⟩ := ry
  exact rule i j t t' s _ _ hc ⟨.int (g i j), H, I.tok _, ⟨_, rfl⟩, q⟩
theorem opI0 {f : Value → Value → Sem Value} {g : Int → Int → Int}
    (rule : ∀ (i j : Int) (t u : Tok) (s : Shared) (Q : Value → Shared → Prop) (E : Value → Shared → Prop), Q (.int (g i j) s.toks) { s with toks := s.toks + 1 } → wpAny (model X.prog X.w) X.A (f (.int i t) (.int j u)) Q E s) :
    OpR X f (rI0 fun i j => .int (g i j)) := by
  intro pins s σ H x y v u Q I rx ry h
  obtain ⟨i, j, rfl, rfl, q⟩ := h
  obtain ⟨t, rfl⟩ := rx
  obtain ⟨t', rfl⟩ := ry
  exact rule i j t t' s _ _ ⟨.int (g i j), H, I.tok _, ⟨_, rfl⟩, q⟩
theorem opB0 {f : Value → Value → Sem Value} {g : Int → Int → Bool}
    (rule : ∀ (i j : Int) (t u : Tok) (s : Shared) (Q : Value → Shared → Prop) (E : Value → Shared → Prop), Q (.bool (g i j)) s → wpAny (model X.prog X.w) X.A (f (.int i t) (.int j u)) Q E s) :
    OpR X f (rI0 fun i j => .bl (g i j)) := by
  intro pins s σ H x y v u Q I rx ry h
  obtain ⟨i, j, rfl, rfl, q⟩ := h
  obtain ⟨t, rfl⟩ := rx
  obtain ⟨t', rfl⟩ := ry
  exact rule i j t t' s _ _ ⟨.bl (g i j), H, I, rfl, q⟩

def CDiv (i j : Int) : Prop := 0 < j ∧ j < 1073741824
def CPow (i j : Int) : Prop := 0 ≤ j ∧ j ≤ 1000000 ∧ i.natAbs < 2 ^ 64
def CMul (i j : Int) : Prop := (-(2 ^ 64) < i ∧ i < 2 ^ 64) ∨ (-(2 ^ 64) < j ∧ j < 2 ^ 64)
theorem CMul.ok {i j : Int} (h : CMul i j) : IntMulOk i j := by
  rcases h with ⟨h1, h2⟩ | ⟨h1, h2⟩
  · exact .of_left (intBits_le_64 h1 h2)
  · exact .of_right (intBits_le_64 h1 h2)

theorem op_add : OpR X (binaryOp .Add) (rI0 fun i j => .int (i + j)) := opI0 fun _ _ _ _ _ _ _ q => add_int q
theorem op_sub : OpR X (binaryOp .Sub) (rI0 fun i j => .int (i - j)) := opI0 fun _ _ _ _ _ _ _ q => sub_int q
theorem op_mul : OpR X (binaryOp .Mult) (rI CMul fun i j => .int (i * j)) := opI fun _ _ _ _ _ _ _ hc q => mul_int q hc.ok
/-- // by a positive divisor -/
theorem op_fdiv : OpR X (binaryOp .FloorDiv) (rI CDiv fun i j => .int (i / j)) := opI fun i j _ _ _ _ _ hc q => by
  have h1 : (0 : Int) < j := hc.1
  have h2 : j < 1073741824 := hc.2
  exact floordiv_int (by omega) (by rw [Int.fdiv_eq_ediv_of_nonneg i (by omega)]; exact q) (.inl (PyProof.noPylong_small (by omega)))
/-- % by a positive divisor of any size -/
theorem op_mod : OpR X (binaryOp .Mod) (rI (fun _ j => 0 < j) fun i j => .int (i % j)) := opI fun i j _ _ _ _ _ hc q => by
  have h1 : (0 : Int) < j := hc
  exact mod_int' (by omega) (by rw [Int.fmod_eq_emod_of_nonneg i (by omega)]; exact q)
theorem op_pow : OpR X (binaryOp .Pow) (rI CPow fun i j => .int (i ^ j.toNat)) := opI fun _ _ _ _ _ _ _ hc q => pow_int_small hc.1 hc.2.1 hc.2.2 q


theorem unI {f : Value → Sem Value} {g : Int → Int}
    (rule : ∀ (i : Int) (t : Tok) (s : Shared) (Q : Value → Shared → Prop) (E : Value → Shared → Prop), Q (.int (g i) s.toks) { s with toks := s.toks + 1 } → wpAny (model X.prog X.w) X.A (f (.int i t)) Q E s) :
    UnR X f (rU fun i => .int (g i)) := by
  intro pins s σ H x v Q I rx h
  obtain ⟨i, rfl, q⟩ := h
  obtain ⟨t, rfl⟩ := rx
  exact rule i t s _ _ ⟨.int (g i), H, I.tok _, ⟨_, rfl⟩, q⟩
theorem un_neg : UnR X (unaryOp .USub) (rU fun i => .int (-i)) := unI fun _ _ _ _ _ q => neg_int q

/-! ### bools among ints: n += (a < b) -/
end

/-! ### comparisons -/
/-- the scalars that == tells apart as data does -/
def scal : V → V → Bool
  | .non, .non => true | .non, .int _ => true | .int _, .non => true | .non, .bl _ => true | .bl _, .non => true | .non, .str _ => true | .str _, .non => true
  | .int _, .int _ => true | .bl _, .bl _ => true | .str _, .str _ => true | .byt _, .byt _ => true
  | .int _, .str _ => true | .str _, .int _ => true | .bl _, .str _ => true | .str _, .bl _ => true
  | _, _ => false
def rEq : R2 := fun x y H Q => scal x y = true ∧ Q (.bl (decide (x = y))) H
def rNe : R2 := fun x y H Q => scal x y = true ∧ Q (.bl (!decide (x = y))) H

theorem dec_int {i j : Int} : decide (V.int i = V.int j) = (i == j) := by
  rw [Bool.eq_iff_iff]
  simp
theorem dec_bl {i j : Bool} : decide (V.bl i = V.bl j) = (i == j) := by
  rw [Bool.eq_iff_iff]
  simp
theorem dec_str {i j : Str} : decide (V.str i = V.str j) = (i == j) := by
  rw [Bool.eq_iff_iff]
  simp
theorem dec_byt {i j : Array UInt8} : decide (V.byt i = V.byt j) = (i.toList == j.toList) := by
  rw [Bool.eq_iff_iff]
  cases i
  cases j
  simp

section
variable {X : Cx} {a b c : Expr} {ta tb tc : TE} {pos : Pos}
theorem fin_bl {pins : List (Addr × Obj)} {σ : St} {H : Hp} {s : Shared} {Q : VK} {k k' : Bool} (I : Inv X pins σ H s) (q : Q (.bl k) H) (e : k = k') : EP X pins σ Q (.bool k') s := by
  subst e
  exact ⟨.bl k, H, I, rfl, q⟩
theorem op_eq : OpR X (compareOp .Eq) rEq := by
  intro pins s σ H x y v u Q I rx ry h
  obtain ⟨hs, q⟩ := h
  cases x with
  | non =>
    cases rx
    cases y with
    | non => cases ry; exact PySem.EqNone.eq_none_none (fin_bl I q (by simp))
    | bl j => cases ry; exact PySem.EqNone.eq_none_bool (fin_bl I q (by simp))
    | int j => obtain ⟨t', rfl⟩ := ry; exact PySem.EqNone.eq_none_int (fin_bl I q (by simp))
    | str j => obtain ⟨t', rfl⟩ := ry; exact PySem.EqNone.eq_none_str (fin_bl I q (by simp))
    | _ => exact absurd (show false = true from hs) Bool.false_ne_true
  | bl i =>
    cases rx
    cases y with
    | non => cases ry; exact PySem.EqNone.eq_bool_none (fin_bl I q (by simp))
    | bl j => cases ry; exact eq_bool (fin_bl I q dec_bl)
    | str j => obtain ⟨t', rfl⟩ := ry; exact PySem.EqMixed.eq_bool_str (fin_bl I q (by simp))
    | _ => exact absurd (show false = true from hs) Bool.false_ne_true
  | int i =>
    obtain ⟨t, rfl⟩ := rx
    cases y with
    | non => cases ry; exact PySem.EqNone.eq_int_none (fin_bl I q (by simp))
    | int j => obtain ⟨t', rfl⟩ := ry; exact eq_int (fin_bl I q dec_int)
    | str j => obtain ⟨t', rfl⟩ := ry; exact PySem.EqMixed.eq_int_str (fin_bl I q (by simp))
    | _ => exact absurd (show false = true from hs) Bool.false_ne_true
  | str i =>
    obtain ⟨t, rfl⟩ := rx
    cases y with
    | non => cases ry; exact PySem.EqNone.eq_str_none (fin_bl I q (by simp))
    | bl j => cases ry; exact PySem.EqMixed.eq_str_bool (fin_bl I q (by simp))
    | int j => obtain ⟨t', rfl⟩ := ry; exact PySem.EqMixed.eq_str_int (fin_bl I q (by simp))
    | str j => obtain ⟨t', rfl⟩ := ry; exact eq_str (fin_bl I q dec_str)
    | _ => exact absurd (show false = true from hs) Bool.false_ne_true
  | byt i =>
    obtain ⟨t, rfl⟩ := rx
    cases y with
    | byt j => obtain ⟨t', rfl⟩ := ry; exact PySem.W.eq_bytes (fin_bl I q dec_byt)
    | _ => exact absurd (show false = true from hs) Bool.false_ne_true
  | _ => cases y <;> exact absurd (show false = true from hs) Bool.false_ne_true
theorem op_ne : OpR X (compareOp .NotEq) rNe := by
  intro pins s σ H x y v u Q I rx ry h
  obtain ⟨hs, q⟩ := h
  cases x with
  | non =>
    cases rx
    cases y with
    | non => cases ry; exact PySem.EqNone.ne_none_none (fin_bl I q (by simp))
    | bl j => cases ry; exact PySem.EqNone.ne_none_bool (fin_bl I q (by simp))
    | int j => obtain ⟨t', rfl⟩ := ry; exact PySem.EqNone.ne_none_int (fin_bl I q (by simp))
    | str j => obtain ⟨t', rfl⟩ := ry; exact PySem.EqNone.ne_none_str (fin_bl I q (by simp))
    | _ => exact absurd (show false = true from hs) Bool.false_ne_true
  | bl i =>
    cases rx
    cases y with
    | non => cases ry; exact PySem.EqNone.ne_bool_none (fin_bl I q (by simp))
    | bl j => cases ry; exact ne_bool (fin_bl I q (congrArg not dec_bl))
    | str j => obtain ⟨t', rfl⟩ := ry; exact PySem.EqMixed.ne_bool_str (fin_bl I q (by simp))
    | _ => exact absurd (show false = true from hs) Bool.false_ne_true
  | int i =>
    obtain ⟨t, rfl⟩ := rx
    cases y with
    | non => cases ry; exact PySem.EqNone.ne_int_none (fin_bl I q (by simp))
    | int j => obtain ⟨t', rfl⟩ := ry; exact ne_int (fin_bl I q (congrArg not dec_int))
    | str j => obtain ⟨t', rfl⟩ := ry; exact PySem.EqMixed.ne_int_str (fin_bl I q (by simp))
    | _ => exact absurd (show false = true from hs) Bool.false_ne_true
  | str i =>
    obtain ⟨t, rfl⟩ := rx
    cases y with
    | non => cases ry; exact PySem.EqNone.ne_str_none (fin_bl I q (by simp))
    | bl j => cases ry; exact PySem.EqMixed.ne_str_bool (fin_bl I q (by simp))
    | int j => obtain ⟨t', rfl⟩ := ry; exact PySem.EqMixed.ne_str_int (fin_bl I q (by simp))
    | str j => obtain ⟨t', rfl⟩ := ry; exact ne_str (fin_bl I q (congrArg not dec_str))
    | _ => exact absurd (show false = true from hs) Bool.false_ne_true
  | byt i =>
    obtain ⟨t, rfl⟩ := rx
    cases y with
    | byt j => obtain ⟨t', rfl⟩ := ry; exact PySem.W.ne_bytes (fin_bl I q (congrArg not dec_byt))
    | _ => exact absurd (show false = true from hs) Bool.false_ne_true
  | _ => cases y <;> exact absurd (show false = true from hs) Bool.false_ne_true

theorem op_lt : OpR X (compareOp .Lt) (rI0 fun i j => .bl (decide (i < j))) := opB0 fun _ _ _ _ _ _ _ q => lt_int q
theorem op_gt : OpR X (compareOp .Gt) (rI0 fun i j => .bl (decide (j < i))) := opB0 fun _ _ _ _ _ _ _ q => gt_int q
theorem op_ge : OpR X (compareOp .GtE) (rI0 fun i j => .bl (decide (j ≤ i))) := opB0 fun _ _ _ _ _ _ _ q => ge_int q




theorem nomark (b : Expr) {op : CmpOp} (h : op ≠ .In := by decide) (h2 : op ≠ .NotIn := by decide) : behindInMarks op b = false := by
  have e1 : (op == CmpOp.In) = false := by cases op <;> first | rfl | exact absurd rfl h
  have e2 : (op == CmpOp.NotIn) = false := by cases op <;> first | rfl | exact absurd rfl h2
  cases b <;> simp [behindInMarks, e1, e2]
/-- a comparison as a value; hm: nomark b, or (for in, not in) by with_unfolding_all rfl -/
theorem pe_cmpR {op : CmpOp} {r : R2} (ho : OpR X (compareOp op) r) (ha : PE X a ta) (hb : PE X b tb) (hm : behindInMarks op b = false) : PE X (.Compare a [op] [b] pos) (tOp r ta tb) := by
  intro pins s σ H Q I h
  exact wpAny_Compare1 (binT ha hb I h fun v u s2 x y H2 I2 rx ry q => ho pins s2 σ H2 x y v u Q I2 rx ry q) hm
/-- a reading of a value as a test -/
def tTest (t : TE) : TT := fun σ H Q => t σ H fun x H' => ∃ k, x = .bl k ∧ Q k H'
theorem pt_cmpR {op : CmpOp} {r : R2} (ho : OpR X (compareOp op) r) (ha : PE X a ta) (hb : PE X b tb) (hm : behindInMarks op b = false) : PT X (.Compare a [op] [b] pos) (tTest (tOp r ta tb)) := by
  intro pins s σ H Q I h
  refine wpAny_isTrue_Compare1 (thn (ha pins s σ H _ I h) fun v s1 ⟨x, H1, I1, r1, q1⟩ => thn (hb pins s1 σ H1 _ I1 q1) fun u s2 ⟨y, H2, I2, r2, q2⟩ =>
    thn (ho pins s2 σ H2 x y v u _ I2 r1 r2 q2) fun c s3 ⟨z, H3, I3, r3, k, e, q3⟩ => ?_) hm
  subst e
  cases r3
  exact wpAny_truthy_bool ⟨H3, I3, q3⟩

/-! ### truth -/
theorem line63 : (sizeLine : Nat) < 2 ^ 63 := by rw [sizeLine_eq]; decide

/-! ### strs and bytes -/


/-! ### scalar builtins, by CallR -/
theorem vals1 {x : V} {us : List Value} (r : Vals [x] us) : ∃ u, us = [u] ∧ RelV x u := by
  cases r with
  | cons r1 r2 => cases r2; exact ⟨_, rfl, r1⟩
theorem vals2 {x y : V} {us : List Value} (r : Vals [x, y] us) : ∃ u w', us = [u, w'] ∧ RelV x u ∧ RelV y w' := by
  cases r with
  | cons r1 r2 =>
    cases r2 with
    | cons r3 r4 => cases r4; exact ⟨_, _, rfl, r1, r3⟩
theorem call_abs : CallR X (.builtin "abs") (fun xs H Q => ∃ i, xs = [.int i] ∧ Q (.int (if i < 0 then -i else i)) H) := by
  intro pins s σ H xs us Q I r h
  obtain ⟨i, rfl, q⟩ := h
  obtain ⟨u, rfl, t, rfl⟩ := vals1 r
  exact call_abs_int fun u tk => ⟨.int (if i < 0 then -i else i), H, I.tok _, ⟨_, rfl⟩, q⟩
theorem call_int1 : CallR X (.type "int") (fun xs H Q => (∃ i, xs = [.int i] ∧ Q (.int i) H) ∨ ∃ k, xs = [.bl k] ∧ Q (.int (if k then 1 else 0)) H) := by
  intro pins s σ H xs us Q I r h
  rcases h with ⟨i, rfl, q⟩ | ⟨k, rfl, q⟩
  · obtain ⟨u, rfl, t, rfl⟩ := vals1 r
    exact call_int_int ⟨.int i, H, I, ⟨_, rfl⟩, q⟩
  · obtain ⟨u, rfl, r1⟩ := vals1 r
    cases r1
    exact call_int_bool ⟨.int (if k then 1 else 0), H, I.tok _, ⟨_, rfl⟩, q⟩
end
end L2

namespace L2
open PySem PySem.Spec PyProof.Rows

/-! ### an instance, its attributes a map -/
structure ObjM (h : Heap) (x dx C : Addr) (mA : Str → Option Value) : Prop where
  obj : h.get? x = some (PySem.W.instObj C dx)
  ns : h.Ns1 dx mA
  ne : dx ≠ x

theorem lookIn_ns {h : Heap} {dx : Addr} {mA : Str → Option Value} (n : h.Ns1 dx mA) : ∃ od, h.get? dx = some od ∧ ∀ name, PySem.W.lookIn name od = some (mA name) := by
  obtain ⟨o, es, ep, ho, hd, hk, _, hm⟩ := n
  refine ⟨o, ho, fun name => ?_⟩
  have e := hm name
  unfold nsFind findBy at e
  rw [← Array.find?_toList] at e
  unfold PySem.W.lookIn
  rw [hd]
  dsimp only
  split
  · rename_i y q
    rw [q] at e
    exact congrArg some e
  · rename_i q
    rw [q] at e
    have a : es.toList.any (·.refKey) = false := by
      rw [List.any_eq_false]
      intro y hy
      obtain ⟨z, t, hkey⟩ := hk y (Array.mem_toList_iff.mp hy)
      simp [DictEntry.refKey, hkey]
    have a' : ¬ es.toList.any (·.refKey) = true := by rw [a]; exact Bool.false_ne_true
    rw [if_neg a']
    exact congrArg some e

theorem ObjM.look {h : Heap} {x dx C : Addr} {mA : Str → Option Value} (I : ObjM h x dx C mA) : ∃ od, PySem.W.InstAt h x (PySem.W.instObj C dx) C (some od) ∧ ∀ name, PySem.W.lookIn name od = some (mA name) :=
  let ⟨od, ho, hl⟩ := lookIn_ns I.ns
  ⟨od, ⟨I.obj, rfl, rfl, ho⟩, hl⟩

section
variable {prog : Program} {w : World} {A : Around} {E : Value → Shared → Prop} {s : Shared} {K : PySem.W.Frag} {x dx C f : Addr} {mA : Str → Option Value} {name : Str} {v : Value}





end

/-! ### the attributes as a list of pairs -/


section
variable {P : Program} {w : World} {H H' : Hp} {h h' : Heap} {a C dx : Addr} {fs fs' : List (Str × V)}
theorem ins_get (hok : HOk P w H h) (e : H a = some (.ins C dx fs)) : ∃ mA, ObjM h a dx C mA ∧ (∀ f, RelO (fs.lookup f) (mA f)) ∧ PySem.Within mA (fs.map (·.1)) ∧ fs.length ≤ 1000 ∧ H dx = some (.own a) := by
  obtain ⟨d, z, ne, ob, mA, n, r, q⟩ := (show ObjOk P w H h a (.ins C dx fs) from hok a _ e)
  exact ⟨mA, ⟨ob, n, ne⟩, r, q, z, d⟩
end

/-! ### what of the text a class must have -/
structure Cls (K : PySem.W.Frag) (C : Addr) : Prop where
  pg : PySem.W.plainGet K C Str.empty = true
  hd : PySem.W.hasDictIn K C = true
  po : PySem.W.plainOver K C = true
  sa : PySem.W.findIn K (.ref C) "__setattr__" = some (some (.builtin "object.__setattr__"))
theorem Cls.get {K : PySem.W.Frag} {C : Addr} (c : Cls K C) (f : Str) : PySem.W.plainGet K C f = true := c.pg

section
variable {X : Cx} {pins : List (Addr × Obj)} {σ : St} {H : Hp} {s : Shared} {a C dx : Addr} {fs : List (Str × V)} {f : Str} {v : V} {A : Around} {E : Value → Shared → Prop}






end

/-! ### readings and rules -/

section
variable {X : Cx} {o e value : Expr} {f : Str} {pos pos' tpos : Pos} {ta tv : TE}

end

/-! ### isinstance -/
section
variable {X : Cx} {pins : List (Addr × Obj)} {σ : St} {H : Hp} {s : Shared} {A : Around} {E : Value → Shared → Prop} {Q : Value → Shared → Prop} {c : Value} {b : Bool}
/-- the type of a value, as the fragment's deciders take it; for an instance its class -/
inductive TyOf (K : PySem.W.Frag) (H : Hp) : V → Value → Prop where
  | non : TyOf K H .non (.type "NoneType")
  | bl (x : Bool) : TyOf K H (.bl x) (.type "bool")
  | int (i : Int) : TyOf K H (.int i) (.type "int")
  | str (x : Str) : TyOf K H (.str x) (.type "str")
  | flt (x : UInt64) : TyOf K H (.flt x) (.type "float")
  | lst {a : Addr} {xs : List V} (e : H a = some (.lst xs)) : TyOf K H (.ref a) (.type "list")
  | frz {a : Addr} {o : Obj} {xs : List V} (e : H a = some (.frz o (.lst xs))) : TyOf K H (.ref a) (.type "list")
  | tup {a : Addr} {xs : List V} (e : H a = some (.tup xs)) : TyOf K H (.ref a) (.type "tuple")
  | dK {a : Addr} {kvs : List (Key × V)} (e : H a = some (.dK kvs)) : TyOf K H (.ref a) (.type "dict")
  | dT {a : Addr} {kvs : List (List Key × V)} (e : H a = some (.dT kvs)) : TyOf K H (.ref a) (.type "dict")
  | ins {a C dx : Addr} {fs : List (Str × V)} (e : H a = some (.ins C dx fs)) (cl : Cls K C) (ha : PySem.W.findIn K (.ref C) "__class__" = some (some (.builtin "object.__class__")))
      (hn : PySem.W.specialIn K (.builtin "object.__class__") "__get__" = some (some (.builtin "getset_descriptor.__get__"))) (htk : PySem.W.takesIn K (.builtin "object.__class__") = some true)
      (hm : PySem.W.mroIn K C (.type "object") = some true) : TyOf K H (.ref a) (.ref C)
end
end L2

namespace L2
open PySem PySem.Spec PyProof.Rows

/-! ### room -/
structure Room (k : Nat) (A : Around) : Prop where
  hd : A.handled = none
  dp : A.depth + 3 * k + 5 < recursionLimit
  un : A.units + 16 * k + 200 < cLine
theorem Room.mono {j k : Nat} {A : Around} (r : Room k A) (h : j ≤ k) : Room j A := ⟨r.hd, by have := r.dp; omega, by have := r.un; omega⟩
theorem Room.deeper {k : Nat} {A : Around} (r : Room (k + 1) A) (env : Env) : Room k (A.deeper env) :=
  ⟨r.hd, by have := r.dp; show A.depth + 1 + 3 * k + 5 < _; omega, by have := r.un; show A.units + 3 + 16 * k + 200 < _; omega⟩
theorem Room.depth {k : Nat} {A : Around} (r : Room k A) : A.depth < recursionLimit := by have := r.dp; omega
theorem Room.units0 {k : Nat} {A : Around} (r : Room k A) : A.units < cLine := by have := r.un; omega

/-! ### argument lists and displays -/
def tNil : TA := fun _ H Q => Q [] H
def tCons (ta : TE) (tr : TA) : TA := fun σ H Q => ta σ H fun x H1 => tr σ H1 fun xs H2 => Q (x :: xs) H2
section
variable {X : Cx} {e : Expr} {es : List Expr} {te : TE} {t : TA} {pos : Pos}
theorem pa_nil : PA X [] tNil := fun _ _ _ _ H Q I h => Calls.spliced_nil ⟨[], H, I, .nil, h⟩
theorem pa_cons (ha : PE X e te) (hr : PA X es t) (hs : starEach (e :: es) X.env = (false, eval e X.env) :: starEach es X.env := by rfl) : PA X (e :: es) (tCons te t) := by
  intro pos pins s σ H Q I h
  rw [hs]
  show wpAny _ _ (spliced ((false, eval e X.env) :: backTo pos (starEach es X.env))) _ _ s
  refine Calls.spliced_cons (thn (ha pins s σ H _ I h) fun u s1 ⟨x, H1, I1, r1, q1⟩ => ?_)
  exact thn (hr pos pins s1 σ H1 _ I1 q1) fun us s2 ⟨xs, H2, I2, r2, q2⟩ => ⟨x :: xs, H2, I2, .cons r1 r2, q2⟩

/-- a tuple, a list of written items -/
def tTup (t : TA) : TE := fun σ H Q => t σ H fun xs H1 => xs.length ≤ sizeLine ∧ ∀ p, H1 p = none → Q (.ref p) (upd H1 p (.tup xs))
def tLst (t : TA) : TE := fun σ H Q => t σ H fun xs H1 => xs.length ≤ sizeLine ∧ ∀ p, H1 p = none → Q (.ref p) (upd H1 p (.lst xs))
theorem pe_tup {x1} (h : PA X es t) : PE X (.Tuple es x1 pos) (tTup t) := by
  intro pins s σ H Q I hq
  refine wpAny_Tuple_spliced (thn (h pos pins s σ H _ I hq) fun us s1 ⟨xs, H1, I1, r, z, q⟩ => ⟨by rw [← r.length]; exact z, ?_⟩)
  have hf : H1 s1.heap.objs.size = none := I1.hok.fresh (Nat.le_refl _)
  refine ⟨.ref s1.heap.objs.size, upd H1 s1.heap.objs.size (.tup xs), I1.laid (t' := s1.toks) (fun b u e => Heap.get?_push_of_some _ e) (Nat.le_refl _) ?_, rfl, q _ hf⟩
  exact ⟨z, us, r, ⟨_, Heap.get?_push_size _ rfl, rfl, _, rfl⟩⟩
theorem pe_lst (h : PA X es t) : PE X (.List es pos) (tLst t) := by
  intro pins s σ H Q I hq
  refine wpAny_List_spliced (thn (h pos pins s σ H _ I hq) fun us s1 ⟨xs, H1, I1, r, z, q⟩ => ⟨by rw [← r.length]; exact z, ?_⟩)
  have hf : H1 s1.heap.objs.size = none := I1.hok.fresh (Nat.le_refl _)
  refine ⟨.ref s1.heap.objs.size, upd H1 s1.heap.objs.size (.lst xs), I1.laid (t' := s1.toks) (fun b u e => Heap.get?_push_of_some _ e) (Nat.le_refl _) ?_, rfl, q _ hf⟩
  exact ⟨z, us, 0, r, Heap.get?_push_size _ rfl⟩
end

/-! ### what a def promises -/
/-- a def's promise: the bound arguments in the parameters' order, the heap, the wanted end, the wanted exception -/
abbrev Sp := List V → Hp → VK → XK → Prop
/-- how an exception lies behind a call (file 08 gives it): the callers' frames, abstract heap and state ahead of the call, the wish, the exception, the state -/
abbrev CXT := List Env → Hp → Shared → XK → Value → Shared → Prop

/-- the state at a call -/
structure Env0 (P : Program) (w : World) (K : PySem.W.Frag) (mg : Str → Option Value) (base : Heap) (A : Around) (outer : List Env) (s : Shared) (H : Hp) : Prop where
  frames : A.frames = some outer
  mod : Mod K mg base
  bs : ∀ b o, base.get? b = some o → s.heap.get? b = some o ∧ H b = none
  bsz : base.objs.size ≤ s.heap.objs.size
  funs : s.heap.FunFrames base outer
  frf : ∀ b ∈ frs outer, H b = none
  hok : HOk P w H s.heap
  bare : AllBare s.gens
/-- a call's end -/
def CE (outer : List Env) (P : Program) (w : World) (H : Hp) (s : Shared) (Q : VK) (u : Value) (s' : Shared) : Prop :=
  ∃ v H', s'.os = s.os ∧ AllBare s'.gens ∧ Un (frs outer) [] H H' s.heap s'.heap ∧ HOk P w H' s'.heap ∧ RelV v u ∧ Q v H'
def CR (CX : CXT) (outer : List Env) (P : Program) (w : World) (H : Hp) (s : Shared) (Q : VK) (E : XK) (r : Result) (s' : Shared) : Prop :=
  match r with
  | .ok (.ret u) => CE outer P w H s Q u s'
  | .ok _ => False
  | .error e => CX outer H s E e s'
structure FnOk (P : Program) (w : World) (K : PySem.W.Frag) (mg : Str → Option Value) (base : Heap) (CX : CXT) (k : Nat) (f : Addr) (fd : FuncData) (ps : List Str) (sp : Sp) : Prop where
  len : ∀ vs H Q E, sp vs H Q E → vs.length = ps.length
  run : ∀ (A : Around) (outer : List Env) (s : Shared) (H : Hp) (args : Args) (us : List Value) (vs : List V) (Q : VK) (E : XK), Room k A → Env0 P w K mg base A outer s H → BindsTo s fd args (ps.zip us) → Vals vs us → sp vs H Q E →
    codeAny (model P w) A (.call (.ref f) args) (CR CX outer P w H s Q E) s


section
variable {X : Cx} {pins : List (Addr × Obj)} {σ : St} {H : Hp} {s s' : Shared}
/-- from a body: what a callee wants -/
theorem Inv.env0 (I : Inv X pins σ H s) : Env0 X.prog X.w X.K X.mg X.base X.A X.stack s H :=
  ⟨I.ok.frames, I.ok.mod, I.bs, Nat.le_trans I.ok.bsz I.sz, I.stack, I.stkFree, I.hok, I.bare⟩
/-- behind a call -/
theorem Inv.after {Q : VK} {u : Value} (I : Inv X pins σ H s) (h : CE X.stack X.prog X.w H s Q u s') : EP X pins σ Q u s' := by
  obtain ⟨v, H', os, bare, un, hok, r, q⟩ := h
  obtain ⟨hh, g, d, t, os'⟩ := s'
  obtain rfl : os' = s.os := os
  exact ⟨v, H', I.call (h' := hh) (g' := g) (d' := d) (t' := t) (ch := []) un hok bare (fun b z => absurd z (by simp)), r, q⟩
end

/-! ### calls -/
/-- f(..): the written arguments, then the defaults dvs; E: what is wanted of an exception -/
def tCall (sp : Sp) (dvs : List V) (E : XK) (t : TA) : TE := fun σ H Q => t σ H fun vs H1 => sp (vs ++ dvs) H1 Q E

/-- how the parameters are bound: us the positional arguments, kw the keywords' values by name, ds the defaults that fill up -/
def Binds (K : PySem.W.Frag) (fd : FuncData) (ps : List Str) (ds : List Value) : Prop :=
  ∀ (s : Shared) (us : List Value), K.In s.heap → (us ++ ds).length = ps.length → BindsTo s fd ⟨us, []⟩ (ps.zip (us ++ ds))
/-- every parameter is given -/
theorem Binds.all {K : PySem.W.Frag} {fd : FuncData} {ps : List Str} (h : ∀ us : List Value, us.length = ps.length → bindArgs fd ⟨us, []⟩ = pure (ps.zip us)) : Binds K fd ps [] := fun s us _ hl => by
  rw [List.append_nil] at hl ⊢
  exact .of_eq (h us hl)

/-- an exception of a callee reaches what this body wants of exceptions -/
def Passes (CX : CXT) (X : Cx) (E : XK) : Prop := ∀ (pins : List (Addr × Obj)) (σ : St) (H : Hp) (s : Shared) (e : Value) (s' : Shared), Inv X pins σ H s → CX X.stack H s E e s' → X.xe e s'

section
variable {X : Cx} {CX : CXT} {k : Nat} {f C : Addr} {fd : FuncData} {ps : List Str} {sp : Sp} {dvs : List V} {ds : List Value} {E : XK} {x m : Str} {p pos apos : Pos} {e o : Expr} {es : List Expr} {ta : TE} {t : TA}

/-- the callee runs -/
theorem run_fn {pins : List (Addr × Obj)} {σ : St} {H : Hp} {s : Shared} {Q : VK} {us : List Value} {vs : List V} (F : FnOk X.prog X.w X.K X.mg X.base CX k f fd ps sp) (hr : Room k X.A) (hb : Binds X.K fd ps ds) (hd : Vals dvs ds) (hx : Passes CX X E)
    (I : Inv X pins σ H s) (r : Vals vs us) (h : sp (vs ++ dvs) H Q E) : wpAny (model X.prog X.w) X.A (call (.ref f) us) (EP X pins σ Q) X.xe s := by
  have r2 : Vals (vs ++ dvs) (us ++ ds) := r.append hd
  have hl : (us ++ ds).length = ps.length := by rw [← r2.length]; exact F.len _ _ _ _ h
  refine wpAny_call (codeAny_mono (F.run X.A X.stack s H ⟨us, []⟩ (us ++ ds) (vs ++ dvs) Q E hr I.env0 (hb s us I.kIn hl) r2 h) fun r s' hq => ?_)
  cases r with
  | error e => exact hx pins σ H s e s' I hq
  | ok fl =>
    cases fl with
    | ret u => exact I.after hq
    | next => exact False.elim hq
    | brk => exact False.elim hq
    | cont => exact False.elim hq

theorem pe_call (F : FnOk X.prog X.w X.K X.mg X.base CX k f fd ps sp) (hr : Room k X.A) (hg : Gl X x) (hm : X.mg x = some (.ref f)) (hk : PySem.W.keepIn X.K (.ref f) = true) (hb : Binds X.K fd ps ds) (hd : Vals dvs ds) (hx : Passes CX X E)
    (ha : PA X (e :: es) t) (hdb : (x == ("__debug__" : Str)) = false := by decide) (he : starEach (e :: es) X.env = (false, eval e X.env) :: starEach es X.env := by rfl) (hpl : (backTo pos (starEach es X.env)).any (·.1) = false := by rfl) :
    PE X (.Call (.Name x p) (e :: es) [] pos) (tCall sp dvs E t) := by
  intro pins s σ H Q I h
  refine wpAny_Call_Name_kw (ld_glob I hg hm ?_ hdb)
  refine PySem.W.callWith_K (h₀ := X.base) I.ok.mod.kin hk (thn (ha pos pins s σ H _ I h) fun us s1 ⟨vs, H1, I1, r, q⟩ => ⟨I1.kIn, ?_⟩) he hpl
  exact run_fn F hr hb hd hx I1 r q



end

/-! ### keywords -/
section
variable {X : Cx} {CX : CXT} {k : Nat} {f C : Addr} {fd : FuncData} {ps ks : List Str} {sp : Sp} {E : XK} {x m : Str} {p pos apos kpos : Pos} {e o : Expr} {es : List Expr} {kws : List Keyword} {te ta : TE} {t tk : TA} {nm : Option Str}

variable {g : List Value → List Value → List Value} {gV : List V → List V → List V}
end

/-! ### a def's body keeps its promise -/
/-- names: the parameters first -/
structure FnScope (N P : List Str) (sc : Scope) : Prop where
  kind : sc.kind = .function
  co : sc.isCoroutine = false
  gen : sc.isGenerator = false
  nd : N.Nodup
  pre : N.take P.length = P
  par : ∀ x ∈ P, sc.names.lookup x = some .local ∨ sc.names.lookup x = some .cell
  nofree : ∀ y ∈ sc.names, y.2 ≠ .free

theorem bindL_out {kindOf : Str → Option NameKind} {x : Str} : ∀ {binds : List (Str × Value)} {m : Str → Option Value}, (∀ v, (x, v) ∉ binds) → bindL kindOf binds m x = m x
  | [], _, _ => rfl
  | (n, v) :: r, m, h => by
    unfold bindL
    rw [bindL_out fun w hw => h w (List.mem_cons_of_mem _ hw)]
    split
    · have : x ≠ n := by rintro rfl; exact h v List.mem_cons_self
      simp [this]
    · rfl
theorem bindC_out {kindOf : Str → Option NameKind} {x : Str} : ∀ {binds : List (Str × Value)} {m : Str → Option Value}, (∀ v, (x, v) ∉ binds) → bindC kindOf binds m x = m x
  | [], _, _ => rfl
  | (n, v) :: r, m, h => by
    unfold bindC
    rw [bindC_out fun w hw => h w (List.mem_cons_of_mem _ hw)]
    split
    · rfl
    · have : x ≠ n := by rintro rfl; exact h v List.mem_cons_self
      simp [this]
theorem bindL_get {kindOf : Str → Option NameKind} {x : Str} {v : Value} : ∀ {P : List Str} {vs : List Value} {i : Nat} {m : Str → Option Value}, P.Nodup → P[i]? = some x → vs[i]? = some v → kindOf x = some .local →
    bindL kindOf (P.zip vs) m x = some v
  | [], _, _, _, _, h, _, _ => by simp at h
  | _ :: _, [], _, _, _, _, h, _ => by simp at h
  | p :: P, w :: vs, 0, m, nd, h1, h2, hk => by
    simp at h1 h2; subst h1; subst h2
    show bindL kindOf ((p, w) :: P.zip vs) m p = _
    unfold bindL
    rw [bindL_out fun v hv => (List.nodup_cons.mp nd).1 (List.of_mem_zip hv).1, if_pos hk]
    simp
  | p :: P, w :: vs, i + 1, m, nd, h1, h2, hk => by
    show bindL kindOf ((p, w) :: P.zip vs) m x = _
    unfold bindL
    exact bindL_get (i := i) (List.nodup_cons.mp nd).2 (by simpa using h1) (by simpa using h2) hk
theorem bindC_get {kindOf : Str → Option NameKind} {x : Str} {v : Value} : ∀ {P : List Str} {vs : List Value} {i : Nat} {m : Str → Option Value}, P.Nodup → P[i]? = some x → vs[i]? = some v → kindOf x ≠ some .local →
    bindC kindOf (P.zip vs) m x = some v
  | [], _, _, _, _, h, _, _ => by simp at h
  | _ :: _, [], _, _, _, _, h, _ => by simp at h
  | p :: P, w :: vs, 0, m, nd, h1, h2, hk => by
    simp at h1 h2; subst h1; subst h2
    show bindC kindOf ((p, w) :: P.zip vs) m p = _
    unfold bindC
    rw [bindC_out fun v hv => (List.nodup_cons.mp nd).1 (List.of_mem_zip hv).1, if_neg hk]
    simp
  | p :: P, w :: vs, i + 1, m, nd, h1, h2, hk => by
    show bindC kindOf ((p, w) :: P.zip vs) m x = _
    unfold bindC
    exact bindC_get (i := i) (List.nodup_cons.mp nd).2 (by simpa using h1) (by simpa using h2) hk

/-- the names' values at the entry -/
def start (N : List Str) (vs : List V) : St := vs.map some ++ List.replicate (N.length - vs.length) none

/-- the context of a def's body, at its entry; an exception leaves the frame, then lies as CX says -/
def cxOf (CX : CXT) (P : Program) (w : World) (K : PySem.W.Frag) (mg : Str → Option Value) (base : Heap) (N : List Str) (qual : Str) (scope : Scope) (f : Addr) (cd : Value) (A : Around) (outer : List Env) (s : Shared) (H : Hp) (E : XK) : Cx where
  prog := P
  w := w
  K := K
  mg := mg
  base := base
  A := A.deeper (envOfC qual scope s.heap.objs.size f cd)
  N := N
  s₀ := s
  H₀ := H
  env := envOfC qual scope s.heap.objs.size f cd
  outer := outer
  stack := envOfC qual scope s.heap.objs.size f cd :: outer
  ex := []
  calm := true
  fn := fun _ => true
  pn := []
  xe := fun e s' => wpAny (model P w) (A.deeper (envOfC qual scope s.heap.objs.size f cd)) (leaving (envOfC qual scope s.heap.objs.size f cd) e) (fun _ s'' => CX outer H s E e s'') (fun e' s'' => CX outer H s E e' s'') s'

theorem cell_has {sc : Scope} {n : Nat} {x : Str} (h : sc.names.lookup x = some .cell) : ∃ c, (cellsFrom n sc.names []).lookup x = some c := by
  have q := PySem.W.cellsFrom_some sc.names n [] (.inl h)
  exact Option.isSome_iff_exists.mp q

theorem inv_start {CX : CXT} {P : Program} {w : World} {K : PySem.W.Frag} {mg : Str → Option Value} {base : Heap} {N ps : List Str} {qual : Str} {scope : Scope} {f : Addr} {cd : Value} {A : Around} {outer : List Env} {s s1 : Shared} {H : Hp} {E : XK} {us : List Value} {vs : List V}
    (S : FnScope N ps scope) (hd : A.handled = none) (e0 : Env0 P w K mg base A outer s H) (hl : vs.length = ps.length) (r : Vals vs us)
    (x : InCallC s s.heap.objs.size (bindL (envOfC qual scope s.heap.objs.size f cd).kindOf (ps.zip us) fun _ => none) (cellsFrom (s.heap.objs.size + 1) scope.names []) (bindC (envOfC qual scope s.heap.objs.size f cd).kindOf (ps.zip us) fun _ => none) s1) :
    Inv (cxOf CX P w K mg base N qual scope f cd A outer s H E) [] (start N vs) H s1 := by
  have hpl : ps.length ≤ N.length := by have := congrArg List.length S.pre; rw [List.length_take] at this; omega
  obtain ⟨h1, tk, rfl, hk⟩ := x.done
  have noA : ∀ b : Addr, b ∉ (cxOf CX P w K mg base N qual scope f cd A outer s H E).ex := fun b z => absurd (show b ∈ ([] : List Addr) from z) (by simp)
  refine ⟨⟨e0.mod, S.kind, rfl, rfl, Nat.le_refl _, fun y z c h1 h2 => ?_, fun y hy => ?_, fun y c _ h => ?_, fun _ => hd, Around.frames_deeper e0.frames, .inr ⟨rfl, rfl⟩, fun b z => absurd z (noA b), e0.bs, e0.bsz, fun b _ _ => noA b, fun b z => absurd z (noA b), e0.funs, e0.frf⟩,
    rfl, e0.bare, Un.kept hk, ⟨_, x.toInCall.ns, fun i y v h1 h2 h3 => ?_⟩, fun y c h => ⟨_, x.cell y c h⟩, e0.hok.fresh (Nat.le_refl _), fun y c h => ?_, fun p hp => absurd (show p ∈ ([] : List (Addr × Obj)) from hp) (by simp), e0.hok.kept hk, ?_⟩
  · exact name_of_addr x.apart (PySem.mem_of_lookup h1) (PySem.mem_of_lookup h2)
  · have hy : scope.names.lookup y = some .cell ∨ scope.names.lookup y = some .free := hy
    rcases hy with hy | hy
    · exact cell_has hy
    · exact absurd rfl (S.nofree _ (PySem.mem_of_lookup hy))
  · exact Nat.le_of_lt (x.above y c (PySem.mem_of_lookup h))
  · have hi : i < vs.length := by
      unfold start at h2
      by_cases hi : i < vs.length
      · exact hi
      · rw [List.getElem?_append_right (by simpa using hi)] at h2
        rw [List.getElem?_replicate] at h2
        split at h2 <;> cases h2
    have ha : vs[i]? = some v := by
      unfold start at h2
      rw [List.getElem?_append_left (by simpa using hi), List.getElem?_map] at h2
      cases e : vs[i]? with
      | none => rw [e] at h2; cases h2
      | some a => rw [e] at h2; cases h2; rfl
    obtain ⟨u, hu, rv⟩ := r.get ha
    have hp : ps[i]? = some y := by
      rw [← S.pre, List.getElem?_take_of_lt (by omega)]; exact h1
    have ndP : ps.Nodup := by rw [← S.pre]; exact S.nd.sublist (List.take_sublist _ _)
    refine ⟨u, rv, ?_⟩
    rcases S.par y (List.mem_of_getElem? hp) with k | k
    · exact .inl ⟨k, bindL_get ndP hp hu k⟩
    · obtain ⟨c, e⟩ := cell_has (n := s.heap.objs.size + 1) k
      refine .inr ⟨.inl k, c, e, ?_⟩
      have q := x.cell y c e
      rw [bindC_get ndP hp hu (by show scope.names.lookup y ≠ _; rw [k]; decide)] at q
      exact q
  · exact e0.hok.fresh (Nat.le_of_lt (x.above y c (PySem.mem_of_lookup h)))
  · unfold start
    show _ = N.length
    rw [List.length_append, List.length_map, List.length_replicate]
    omega

/-- THE RULE: a def (or a method) of the text, by its body. The body's reading t is chosen for each entry; it is run at the parameters' values -/
theorem fn_of {CX : CXT} {P : Program} {w : World} {K : PySem.W.Frag} {mg : Str → Option Value} {base : Heap} {k : Nat} {f : Addr} {name qual : Str} {params : Arguments} {body : List Stmt} {scope : Scope} {dV kV doc pm cdv ct oc : Value} {an od : Option Addr}
    {osl : Array (Option Value)} {N ps : List Str} {sp : Sp} (lk : K.lookup f = some ⟨oc, od, .func (PySem.W.fnOf name qual params body scope dV kV doc pm an cdv ct), osl⟩) (hcd : PySem.W.codeIn K cdv qual = true) (S : FnScope N ps scope)
    (len : ∀ vs H Q E, sp vs H Q E → vs.length = ps.length)
    (hbody : ∀ (A : Around) (outer : List Env) (s : Shared) (H : Hp) (vs : List V) (Q : VK) (E : XK), Room k (A.deeper (envOfC qual scope s.heap.objs.size f cdv)) → sp vs H Q E →
      ∃ t, PSs (cxOf CX P w K mg base N qual scope f cdv A outer s H E) body t ∧ t { nx := fun _ H' => Q .non H', rt := Q } (start N vs) H) :
    FnOk P w K mg base CX (k + 1) f (PySem.W.fnOf name qual params body scope dV kV doc pm an cdv ct) ps sp := by
  refine ⟨len, fun A outer s H args us vs Q E hr e0 hb r hsp => ?_⟩
  have hl := len _ _ _ _ hsp
  have KX : K.In s.heap := e0.mod.kin.keeps fun b o e => (e0.bs b o e).1
  have lim : s.heap.NoLimit := e0.mod.nolimit.keeps fun b o e => (e0.bs b o e).1
  have hkind : ∀ y ∈ ps.zip us, scope.names.lookup y.1 = some .local ∨ (scope.names.lookup y.1 = some .cell ∧ ((cellsFrom (s.heap.objs.size + 1) scope.names []).lookup y.1).isSome = true) := fun ⟨n, v⟩ hy => by
    rcases S.par n (List.of_mem_zip hy).1 with q | q
    · exact .inl q
    · exact .inr ⟨q, PySem.W.cellsFrom_some _ _ _ (.inl q)⟩
  refine codeAny_call_function hr.depth (KX _ _ lk) rfl S.co S.gen rfl (PySem.W.codeRec_of KX hcd) (hb _ _ _ _ ?_)
  refine wpAny_newFunctionEnv_cells S.kind hkind fun env he s1 x => ?_
  subst he
  refine ⟨lim.keeps x.toInCall.keep, codeAny_func ?_⟩
  obtain ⟨t, ht, hq⟩ := hbody A outer s H vs Q E (hr.deeper _) hsp
  have I : Inv (cxOf CX P w K mg base N qual scope f cdv A outer s H E) [] (start N vs) H s1 := inv_start S hr.hd e0 hl r x
  refine wpAny_mono (ht [] s1 (start N vs) H _ I hq) (fun fl s' hs => ?_) fun e s' hs => hs
  have fin : ∀ {σ' : St} {H' : Hp} {v : V} {u : Value}, Inv (cxOf CX P w K mg base N qual scope f cdv A outer s H E) [] σ' H' s' → RelV v u → Q v H' → CE outer P w H s Q u s' :=
    fun {σ' H' v u} J rv q => ⟨v, H', J.os, J.bare, J.base, J.hok, rv, q⟩
  cases fl with
  | ret u =>
    obtain ⟨v, σ', H', J, rv, q⟩ := hs
    exact fin J rv q
  | next =>
    obtain ⟨σ', H', J, q⟩ := hs
    exact fin (v := V.non) (u := Value.none) J rfl q
  | brk =>
    obtain ⟨_, _, _, q⟩ := hs
    exact False.elim q
  | cont =>
    obtain ⟨_, _, _, q⟩ := hs
    exact False.elim q
end L2

namespace L2
open PySem PySem.Spec PyProof.Rows
section
variable {X : Cx} {x : Str} {p pos : Pos} {e : Expr} {es : List Expr} {t : TA} {id T : String} {r : List V → Hp → VK → Prop}

def tCB (r : List V → Hp → VK → Prop) (t : TA) : TE := fun σ H Q => t σ H fun vs H1 => r vs H1 Q
/-- f(e, ..), f a built-in function -/
theorem pe_callB (hc : CallR X (.builtin id) r) (hg : Gl X x) (hm : X.mg x = none) (hv : bootBuiltins x = some (.builtin id)) (ha : PA X (e :: es) t) (hn : x ≠ "__name__" := by decide) (hdb : (x == ("__debug__" : Str)) = false := by decide)
    (he : starEach (e :: es) X.env = (false, eval e X.env) :: starEach es X.env := by rfl) (hpl : (backTo pos (starEach es X.env)).any (·.1) = false := by rfl) : PE X (.Call (.Name x p) (e :: es) [] pos) (tCB r t) := by
  intro pins s σ H Q I h
  refine wpAny_Call_Name_kw (ld_blt I hg hm hv ?_ hn hdb)
  exact PyProof.Rows.callWith_builtin1 (thn (ha pos pins s σ H _ I h) fun us s1 ⟨vs, H1, I1, r1, q1⟩ => hc pins s1 σ H1 vs us Q I1 r1 q1) he hpl
/-- T(e, ..), T a built-in type -/
theorem pe_callTy (hc : CallR X (.type T) r) (hg : Gl X x) (hm : X.mg x = none) (hv : bootBuiltins x = some (.type T)) (ha : PA X (e :: es) t) (hn : x ≠ "__name__" := by decide) (hdb : (x == ("__debug__" : Str)) = false := by decide)
    (he : starEach (e :: es) X.env = (false, eval e X.env) :: starEach es X.env := by rfl) (hpl : (backTo pos (starEach es X.env)).any (·.1) = false := by rfl) : PE X (.Call (.Name x p) (e :: es) [] pos) (tCB r t) := by
  intro pins s σ H Q I h
  refine wpAny_Call_Name_kw (ld_blt I hg hm hv ?_ hn hdb)
  exact PyProof.Rows.callWith_type1 (thn (ha pos pins s σ H _ I h) fun us s1 ⟨vs, H1, I1, r1, q1⟩ => hc pins s1 σ H1 vs us Q I1 r1 q1) he hpl
end
end L2

namespace HT
open PySem PyProof.Rows



section
open PySem.SeqAt
open PySem.AutoSeq1 (wpAny_loadPart')
open PySem.MeetsSeq PySem.MeetsSeq2 PySem.MeetsSeq3

end

section
variable {prog : Program} {w : World} {A : Around} {E : Value → Shared → Prop} {s : Shared}



/-! ### t[a:b], not the whole -/
/-- a slice's bound as a place among n (d where it is left out) -/
def sIx (n d : Nat) : Option Int → Nat
  | none => d
  | some v => if v < 0 then (v + (n : Int)).toNat else min v.toNat n

end
end HT

namespace L2
open PySem PySem.Spec PyProof.Rows

/-! ### the parts of a slice -/
abbrev TO := St → Hp → (Option Int → Hp → Prop) → Prop
/-- a slice's part (left out, or an int) -/
def PO (X : Cx) (e : Option Expr) (t : TO) : Prop :=
  ∀ (pins : List (Addr × Obj)) (s : Shared) (σ : St) (H : Hp) (Q : Option Int → Hp → Prop), Inv X pins σ H s → t σ H Q →
    wpAny (model X.prog X.w) X.A (evalPart e X.env) (fun u s' => ∃ o H', Inv X pins σ H' s' ∧ IsPart u o ∧ Q o H') X.xe s
def tNoPart : TO := fun _ H Q => Q none H
def tPart (t : TE) : TO := fun σ H Q => t σ H fun x H1 => ∃ i, x = .int i ∧ Q (some i) H1


section
variable {X : Cx} {e : Expr} {te : TE} {lo hi : Option Expr} {tl th : TO} {pos p2 : Pos}

theorem po_none : PO X none tNoPart := by
  intro pins s σ H Q I h
  rw [evalPart_none]
  exact wpAny_pure ⟨none, H, I, .none, h⟩
theorem po_some (h : PE X e te) : PO X (some e) (tPart te) := by
  intro pins s σ H Q I hw
  rw [evalPart_some]
  refine thn (h pins s σ H _ I hw) fun u s1 ⟨x, H1, I1, r1, q1⟩ => ?_
  obtain ⟨i, rfl, q⟩ := q1
  obtain ⟨t, rfl⟩ := r1
  exact ⟨some i, H1, I1, .int i t, q⟩

/-- what a slice of a value is, by values: the slice object stands at sl -/
def SlR (X : Cx) (r : V → Option Int → Option Int → Hp → VK → Prop) : Prop :=
  ∀ (pins : List (Addr × Obj)) (s : Shared) (σ : St) (H : Hp) (x : V) (v vl vu : Value) (lo hi : Option Int) (sl : Addr) (Q : VK), Inv X pins σ H s → RelV x v → s.heap.IsSliceOf sl vl vu .none → IsPart vl lo → IsPart vu hi → r x lo hi H Q →
    ∃ T id, typeLookup (.type T) "__getitem__" = pure (some (.builtin id)) ∧ s.TypeIs v T ∧ wpAny (model X.prog X.w) X.A (getItem v (.ref sl)) (EP X pins σ Q) X.xe s
def tSl (r : V → Option Int → Option Int → Hp → VK → Prop) (te : TE) (tl th : TO) : TE := fun σ H Q => te σ H fun x H1 => tl σ H1 fun l H2 => th σ H2 fun u H3 => r x l u H3 Q
/-- a[lo:hi], any a -/
theorem pe_slice {r : V → Option Int → Option Int → Hp → VK → Prop} (hr : SlR X r) (he : PE X e te) (hl : PO X lo tl) (hu : PO X hi th) : PE X (.Subscript e (.Slice lo hi none p2) pos) (tSl r te tl th) := by
  intro pins s σ H Q I h
  refine Subscript_ (thn (he pins s σ H _ I h) fun v s1 ⟨x, H1, I1, r1, q1⟩ => ?_)
  refine wpAny_Slice (thn (hl pins s1 σ H1 _ I1 q1) fun vl s2 ⟨l, H2, I2, pl, q2⟩ => thn (hu pins s2 σ H2 _ I2 q2) fun vu s3 ⟨u, H3, I3, pu, q3⟩ => ?_)
  rw [evalPart_none]
  refine wpAny_pure ?_
  have I4 : Inv X pins σ H3 { s3 with heap := s3.heap.push { cls := .type "slice", data := .fields #[vl, vu, .none] } } := I3.kept (t' := s3.toks) fun b ob q => Heap.get?_push_of_some _ q
  obtain ⟨T, id, hT, ht, hg⟩ := hr pins { s3 with heap := s3.heap.push { cls := .type "slice", data := .fields #[vl, vu, .none] } } σ H3 x v vl vu l u s3.heap.objs.size Q I4 r1 (Heap.IsSliceOf.new ..) pl pu q3
  show wpAny (model X.prog X.w) X.A (subscriptTail e (.Slice lo hi none p2) v (.ref s3.heap.objs.size)) (EP X pins σ Q) X.xe { s3 with heap := s3.heap.push { cls := .type "slice", data := .fields #[vl, vu, .none] } }
  exact tail_any (ops := [.ref s3.heap.objs.size, v]) ht hT hg (by with_unfolding_all rfl)

/-- the items of xs[lo:hi] -/
def cutV (xs : List V) (lo hi : Option Int) : List V := (xs.drop (HT.sIx xs.length 0 lo)).take (HT.sIx xs.length xs.length hi - HT.sIx xs.length 0 lo)
theorem cutV_length (xs : List V) (lo hi : Option Int) : (cutV xs lo hi).length ≤ xs.length := by
  unfold cutV
  rw [List.length_take, List.length_drop]
  omega

/-! ### t < u, t + u -/
end
end L2

namespace L2
open PySem PySem.Spec PyProof.Rows

/-! ### places -/
/-- the place that an index of any sign means -/
def ixN (n : Nat) (i : Int) : Option Nat := if 0 ≤ i then (if i < n then some i.toNat else none) else if -(n : Int) ≤ i then some (i + n).toNat else none
def atI {α : Type} (xs : List α) (i : Int) : Option α := (ixN xs.length i).bind fun j => xs[j]?
theorem ixN_seq {n : Nat} {i : Int} {j : Nat} (h : ixN n i = some j) : seqIndex? i n = some j ∧ j < n ∧ -(n : Int) ≤ i ∧ i < n := by
  unfold ixN at h
  by_cases h0 : 0 ≤ i
  · rw [if_pos h0] at h
    by_cases h1 : i < n
    · rw [if_pos h1] at h
      have e : i.toNat = j := Option.some.inj h
      exact ⟨by rw [seqIndex_of h0 h1, e], by omega, by omega, h1⟩
    · rw [if_neg h1] at h; cases h
  · rw [if_neg h0] at h
    by_cases h1 : -(n : Int) ≤ i
    · rw [if_pos h1] at h
      have e : (i + n).toNat = j := Option.some.inj h
      exact ⟨by rw [seqIndex_neg (by omega) h1, e], by omega, h1, by omega⟩
    · rw [if_neg h1] at h; cases h
theorem atI_get {α : Type} {xs : List α} {i : Int} {v : α} (h : atI xs i = some v) : ∃ j, seqIndex? i xs.length = some j ∧ xs[j]? = some v ∧ j < xs.length ∧ -(xs.length : Int) ≤ i ∧ i < xs.length := by
  unfold atI at h
  cases e : ixN xs.length i with
  | none => rw [e] at h; cases h
  | some j =>
    rw [e] at h
    obtain ⟨h1, h2, h3, h4⟩ := ixN_seq e
    exact ⟨j, h1, h, h2, h3, h4⟩

/-! ### what may be subscripted -/
/-- what stands as an index of a plain subscript -/
def PlainIx (b : Expr) : Prop := ∀ o i, subscripted b false o i = operate [o, i] (getItem o i)
/-- a subscript by values -/
def IxR (X : Cx) (r : R2) : Prop :=
  ∀ (value slice : Expr) (pins : List (Addr × Obj)) (s : Shared) (σ : St) (H : Hp) (x y : V) (v u : Value) (Q : VK), Inv X pins σ H s → RelV x v → RelV y u → r x y H Q →
    subscripted slice false v u = operate [v, u] (getItem v u) → wpAny (model X.prog X.w) X.A (subscriptTail value slice v u) (EP X pins σ Q) X.xe s
/-- a call of a builtin's method by values: the receiver, the arguments -/
def MtR (X : Cx) (id : String) (r : V → List V → Hp → VK → Prop) : Prop :=
  ∀ (pins : List (Addr × Obj)) (s : Shared) (σ : St) (H : Hp) (x : V) (xs : List V) (v : Value) (us : List Value) (Q : VK), Inv X pins σ H s → RelV x v → Vals xs us → r x xs H Q →
    wpAny (model X.prog X.w) X.A (call (.builtin id) (v :: us)) (EP X pins σ Q) X.xe s
section
variable {X : Cx} {a b : Expr} {ta tb : TE} {pos : Pos}
/-- a[b] -/
theorem pe_ix {r : R2} (hr : IxR X r) (ha : PE X a ta) (hb : PE X b tb) (hs : PlainIx b) : PE X (.Subscript a b pos) (tOp r ta tb) := by
  intro pins s σ H Q I h
  exact Subscript_ (binT ha hb I h fun v u s2 x y H2 I2 rx ry q => hr a b pins s2 σ H2 x y v u Q I2 rx ry q (hs _ _))

def rIxL (K : PySem.W.Frag) : R2 := fun x y H Q => ∃ p xs i v, x = .ref p ∧ y = .int i ∧ SqL K H p xs ∧ atI xs i = some v ∧ Q v H
def rIxT (K : PySem.W.Frag) : R2 := fun x y H Q => ∃ p xs i v, x = .ref p ∧ y = .int i ∧ SqT K H p xs ∧ atI xs i = some v ∧ Q v H
theorem ix_list : IxR X (rIxL X.K) := by
  intro value slice pins s σ H x y v u Q I rx ry h hs
  obtain ⟨p, xs, i, z, rfl, rfl, hq, he, q⟩ := h
  cases rx
  obtain ⟨t, rfl⟩ := ry
  obtain ⟨its, r, pl, hz⟩ := I.list hq
  obtain ⟨j, h1, h2, h3, h4, h5⟩ := atI_get he
  obtain ⟨w, ew, rw'⟩ := r.get h2
  have hl := r.length
  have hn := line63
  have fin : EP X pins σ Q w s := ⟨z, H, I, rw', q⟩
  by_cases h0 : 0 ≤ i
  · have hj : i.toNat = j := by
      rw [seqIndex_of h0 h5] at h1
      exact Option.some.inj h1
    exact item_listR pl.isList h0 (by omega) (by rw [hj]; simpa using ew) fin hs
  · have hj : (i + (its.toArray.size : Int)).toNat = j := by
      rw [seqIndex_neg (by omega) h4] at h1
      rw [List.size_toArray, ← hl]
      exact Option.some.inj h1
    exact subscriptTail_builtinR (x := w) pl.isList.typeIs slot_list_getitem.lookup
      (wpAny_getItem_list_neg (Q := fun r s' => r = w ∧ EP X pins σ Q r s') pl.isList (by omega) (by rw [List.size_toArray] <;> omega) (by omega) (by rw [hj]; simpa using ew) ⟨rfl, fin⟩) hs
theorem ix_tup : IxR X (rIxT X.K) := by
  intro value slice pins s σ H x y v u Q I rx ry h hs
  obtain ⟨p, xs, i, z, rfl, rfl, hq, he, q⟩ := h
  cases rx
  obtain ⟨t, rfl⟩ := ry
  obtain ⟨its, r, pl, hz⟩ := I.tuple hq
  obtain ⟨j, h1, h2, h3, h4, h5⟩ := atI_get he
  obtain ⟨w, ew, rw'⟩ := r.get h2
  have hl := r.length
  have hn := line63
  have fin : EP X pins σ Q w s := ⟨z, H, I, rw', q⟩
  exact subscriptTail_builtinR (x := w) pl.typeIs slot_tuple_getitem.lookup
    (getItem_tuple (j := j) (Q := fun r s' => r = w ∧ EP X pins σ Q r s') pl (by omega) (by omega) (by rw [List.size_toArray, ← hl]; exact h1) (by simpa using ew) ⟨rfl, fin⟩) hs

/-! ### xs[i] = v, any sign -/
/-- the list's object behind a store -/
theorem mapSeq_set (its : List Value) (n j : Nat) (u : Value) : Obj.mapSeq (·.setIfInBounds j u) { cls := .type "list", data := .seq its.toArray n } = { cls := .type "list", data := .seq (its.set j u).toArray n } := by
  simp [Obj.mapSeq]
theorem Inv.lst {pins : List (Addr × Obj)} {σ : St} {H : Hp} {s : Shared} {p : Addr} {xs : List V} (I : Inv X pins σ H s) (h : H p = some (.lst xs)) :
    ∃ (its : List Value) (n : Nat), Vals xs its ∧ s.heap.get? p = some { cls := .type "list", data := .seq its.toArray n } ∧ xs.length ≤ sizeLine := by
  obtain ⟨z, its, n, r, e⟩ := I.hok p _ h
  exact ⟨its, n, r, e, z⟩
/-- the list at p is written by an update of its object -/
theorem Inv.lstUpd {pins : List (Addr × Obj)} {σ : St} {H : Hp} {s : Shared} {p : Addr} {xs ys : List V} {its its' : List Value} {n n' : Nat} {f : Obj → Obj} (I : Inv X pins σ H s) (h : H p = some (.lst xs))
    (ho : s.heap.get? p = some { cls := .type "list", data := .seq its.toArray n }) (hf : f { cls := .type "list", data := .seq its.toArray n } = { cls := .type "list", data := .seq its'.toArray n' }) (r : Vals ys its') (hz : ys.length ≤ sizeLine) (t : Nat) :
    Inv X pins σ (upd H p (.lst ys)) { s with heap := s.heap.update p f, toks := t } := by
  have e : (s.heap.update p f).get? p = some { cls := .type "list", data := .seq its'.toArray n' } := by
    rw [Heap.get?_update_self f ho (by rw [hf] <;> rfl), hf]
  refine I.write (x := p) (e := p) (by rw [h]; trivial) (.inl rfl) (fun b u hb q => (Heap.get?_update_other _ _ (Ne.symm hb)).trans q) ⟨_, e⟩ ?_
  exact ⟨hz, its', n', r, e⟩
def rSetL : V → V → V → Hp → (Hp → Prop) → Prop := fun o i v H Q => ∃ p xs k j, o = .ref p ∧ i = .int k ∧ H p = some (.lst xs) ∧ ixN xs.length k = some j ∧ Q (upd H p (.lst (xs.set j v)))
theorem set_list : PSet X rSetL := by
  intro pins s σ H o i v ov iv u Q I ro ri rv h
  obtain ⟨p, xs, k, j, rfl, rfl, hp, hj, q⟩ := h
  cases ro
  obtain ⟨t, rfl⟩ := ri
  obtain ⟨its, n, r, ho, hz⟩ := I.lst hp
  obtain ⟨h1, h2, h3, h4⟩ := ixN_seq hj
  have hl := r.length
  have hn := line63
  have I' : Inv X pins σ (upd H p (.lst (xs.set j v))) { s with heap := s.heap.update p (Obj.mapSeq (·.setIfInBounds j u)) } :=
    I.lstUpd hp ho (mapSeq_set its n j u) (r.set rv j) (by rw [List.length_set]; exact hz) s.toks
  by_cases h0 : 0 ≤ k
  · have hk : k.toNat = j := by
      rw [seqIndex_of h0 h4] at h1
      exact Option.some.inj h1
    exact PySem.W.ki_setAt ho h0 (by omega) (by rw [List.size_toArray, ← hl]; exact h4) (by rw [hk]; exact ⟨_, I', q⟩)
  · have hk : (k + (its.toArray.size : Int)).toNat = j := by
      rw [seqIndex_neg (by omega) h3] at h1
      rw [List.size_toArray, ← hl]
      exact Option.some.inj h1
    exact PySem.W.ki_setBack ho (by omega) (by rw [List.size_toArray, ← hl]; exact h3) (by omega) (by rw [hk]; exact ⟨_, I', q⟩)

/-! ### slices -/
theorem slice_bounds (lo hi : Option Int) (n : Nat) : (sliceBounds lo hi none n).1 = ((HT.sIx n 0 lo : Nat) : Int) ∧ (sliceBounds lo hi none n).2.1 = ((HT.sIx n n hi : Nat) : Int) ∧ (sliceBounds lo hi none n).2.2 = 1 := by
  refine ⟨?_, ?_, rfl⟩
  · cases lo with
    | none => simp [sliceBounds, HT.sIx]
    | some i =>
      simp only [sliceBounds, HT.sIx, Option.getD_none, show (1 : Int) > 0 by decide, if_true]
      by_cases h : i < 0
      · simp only [h, if_true] <;> omega
      · simp only [h, if_false] <;> omega
  · cases hi with
    | none => simp [sliceBounds, HT.sIx]
    | some i =>
      simp only [sliceBounds, HT.sIx, Option.getD_none, show (1 : Int) > 0 by decide, if_true]
      by_cases h : i < 0
      · simp only [h, if_true] <;> omega
      · simp only [h, if_false] <;> omega
theorem slicePick_cut (its : List Value) (lo hi : Option Int) : slicePick its.toArray lo hi none = ((its.drop (HT.sIx its.length 0 lo)).take (HT.sIx its.length its.length hi - HT.sIx its.length 0 lo)).toArray := by
  obtain ⟨h1, h2, h3⟩ := slice_bounds lo hi its.toArray.size
  unfold slicePick
  rw [h1, h2, h3]
  simp only [sliceRange_one, pick_run, List.size_toArray] <;> rfl
/-- xs[lo:hi] of a list: a new list -/
def rSlL (K : PySem.W.Frag) : V → Option Int → Option Int → Hp → VK → Prop := fun x lo hi H Q => ∃ a xs, x = .ref a ∧ SqL K H a xs ∧ ∀ p, H p = none → Q (.ref p) (upd H p (.lst (cutV xs lo hi)))
theorem sl_list : SlR X (rSlL X.K) := by
  intro pins s σ H x v vl vu lo hi sl Q I rx hs pl pu h
  obtain ⟨a, xs, rfl, hx, q⟩ := h
  cases rx
  obtain ⟨its, r, ht, hz⟩ := I.list hx
  have hlen := r.length
  refine ⟨"list", _, slot_list_getitem.lookup, ht.isList.typeIs, ?_⟩
  refine wpAny_getItem_list_slice ht.isList hs pl pu .none (by simp) ?_ (by rw [List.size_toArray] <;> omega)
  rw [slicePick_cut, ← hlen]
  refine ⟨.ref s.heap.objs.size, _, I.laid (t' := s.toks) (o := .lst (cutV xs lo hi)) (fun b ob q => Heap.get?_push_of_some _ q) (Nat.le_refl _) ?_, rfl, q _ (I.hok.fresh (Nat.le_refl _))⟩
  exact ⟨Nat.le_trans (cutV_length xs lo hi) hz, _, 0, (r.drop (HT.sIx xs.length 0 lo)).take (HT.sIx xs.length xs.length hi - HT.sIx xs.length 0 lo), Heap.get?_push_size _ rfl⟩

/-! ### in, not in: flat items -/
def flatV : V → Bool
  | .non => true
  | .bl _ => true
  | .int _ => true
  | .str _ => true
  | _ => false
/-- == of flat values -/
def eqV : V → V → Bool
  | .non, .non => true
  | .bl a, .bl b => a == b
  | .bl a, .int b => (if a then 1 else 0) == b
  | .int a, .bl b => a == (if b then 1 else 0)
  | .int a, .int b => a == b
  | .str a, .str b => a == b
  | _, _ => false
theorem eqAt_V {A : Around} {s : Shared} {y x : V} {u v : Value} (ry : RelV y u) (rx : RelV x v) (fy : flatV y = true) (fx : flatV x = true) : SeqAt.EqAt A s u v (eqV y x) := by
  cases y with
  | non =>
    cases ry
    cases x with
    | non => cases rx; exact SeqAt.EqAt.same _
    | bl b => cases rx; exact SeqAt.EqAt.none_bool b
    | int b => obtain ⟨t, rfl⟩ := rx; exact SeqAt.EqAt.none_int b t
    | str b => obtain ⟨t, rfl⟩ := rx; exact SeqAt.EqAt.none_str b t
    | _ => exact absurd (show false = true from fx) Bool.false_ne_true
  | bl a =>
    cases ry
    cases x with
    | non => cases rx; exact SeqAt.EqAt.bool_none a
    | bl b => cases rx; exact SeqAt.EqAt.bool_bool a b
    | int b => obtain ⟨t, rfl⟩ := rx; exact SeqAt.EqAt.bool_int a b t
    | str b => obtain ⟨t, rfl⟩ := rx; exact SeqAt.EqAt.bool_str a b t
    | _ => exact absurd (show false = true from fx) Bool.false_ne_true
  | int a =>
    obtain ⟨t', rfl⟩ := ry
    cases x with
    | non => cases rx; exact SeqAt.EqAt.int_none a t'
    | bl b => cases rx; exact SeqAt.EqAt.int_bool a t' b
    | int b => obtain ⟨t, rfl⟩ := rx; exact SeqAt.EqAt.int_int a t' b t
    | str b => obtain ⟨t, rfl⟩ := rx; exact SeqAt.EqAt.int_str a t' b t
    | _ => exact absurd (show false = true from fx) Bool.false_ne_true
  | str a =>
    obtain ⟨t', rfl⟩ := ry
    cases x with
    | non => cases rx; exact SeqAt.EqAt.str_none a t'
    | bl b => cases rx; exact SeqAt.EqAt.str_bool a t' b
    | int b => obtain ⟨t, rfl⟩ := rx; exact SeqAt.EqAt.str_int a t' b t
    | str b => obtain ⟨t, rfl⟩ := rx; exact SeqAt.EqAt.str_str a t' b t
    | _ => exact absurd (show false = true from fx) Bool.false_ne_true
  | _ => exact absurd (show false = true from fy) Bool.false_ne_true

/-! ### len, list(x), tuple(x) of any list or tuple that is read -/
theorem call_len_seq : CallR X (.builtin "len") (fun xs H Q => ∃ p ys, xs = [.ref p] ∧ (SqL X.K H p ys ∨ SqT X.K H p ys) ∧ Q (.int ys.length) H) := by
  intro pins s σ H xs us Q I r h
  obtain ⟨p, ys, rfl, hq, q⟩ := h
  obtain ⟨u, rfl, rx⟩ := vals1 r
  cases rx
  have hn := line63
  rcases hq with hq | hq
  · obtain ⟨its, r', pl, hz⟩ := I.list hq
    have hlen := r'.length
    exact Calls.call_len_list pl.isList (by simp only [List.size_toArray] <;> omega) ⟨.int ys.length, H, I.tok _, ⟨s.toks + 1, by rw [List.size_toArray, hlen]⟩, q⟩
  · obtain ⟨its, r', pl, hz⟩ := I.tuple hq
    have hlen := r'.length
    exact len_tuple pl (by simp only [List.size_toArray] <;> omega) ⟨.int ys.length, H, I.tok _, ⟨s.toks + 1, by rw [List.size_toArray, hlen]⟩, q⟩
theorem call_list_of : CallR X (.type "list") (fun xs H Q => ∃ p ys, xs = [.ref p] ∧ (SqL X.K H p ys ∨ SqT X.K H p ys) ∧ ∀ l, H l = none → Q (.ref l) (upd H l (.lst ys))) := by
  intro pins s σ H xs us Q I r h
  obtain ⟨p, ys, rfl, hq, q⟩ := h
  obtain ⟨u, rfl, rx⟩ := vals1 r
  cases rx
  have fin : ∀ (its : List Value), Vals ys its → ys.length ≤ sizeLine → ∀ (h' : Heap) (c' : Nat), (∀ b o', s.heap.get? b = some o' → h'.get? b = some o') →
      h'.get? s.heap.objs.size = some { cls := .type "list", dict := none, data := .seq its.toArray c', slots := #[] } → EP X pins σ Q (.ref s.heap.objs.size) { s with heap := h' } := fun its r' hz h' c' kp e =>
    ⟨.ref s.heap.objs.size, _, I.laid (t' := s.toks) kp (Nat.le_refl _) (show ObjOk X.prog X.w _ h' _ (.lst ys) from ⟨hz, its, c', r', e⟩), rfl, q _ (I.hok.fresh (Nat.le_refl _))⟩
  rcases hq with hq | hq
  · obtain ⟨its, r', pl, hz⟩ := I.list hq
    have hlen := r'.length
    obtain ⟨o, ho, hc, n, hd⟩ := pl.isList
    exact call_list_seq p (.inl rfl) ho hc hd (fun h' c' kp e => fin its r' hz h' c' kp e) (by simp only [List.size_toArray] <;> omega)
  · obtain ⟨its, r', pl, hz⟩ := I.tuple hq
    have hlen := r'.length
    obtain ⟨o, ho, hc, n, hd⟩ := pl
    exact call_list_seq p (.inr rfl) ho hc hd (fun h' c' kp e => fin its r' hz h' c' kp e) (by simp only [List.size_toArray] <;> omega)

/-! ### the call of a builtin's method: o.m(..) -/
/-- the value is of that builtin type -/
def tyV (K : PySem.W.Frag) (T : String) (x : V) (H : Hp) : Prop := match x with
  | .str _ => T = "str"
  | .int _ => T = "int"
  | .ref p => (T = "list" ∧ ∃ xs, SqL K H p xs) ∨ (T = "tuple" ∧ ∃ o, K.lookup p = some o ∧ o.cls = .type "tuple" ∧ o.dict = none) ∨
      (T = "dict" ∧ ((∃ kvs, H p = some (.dK kvs)) ∨ ∃ kvs, H p = some (.dT kvs))) ∨ (T = "set" ∧ ∃ S n, H p = some (.set S n))
  | _ => False
theorem tyV_is {pins : List (Addr × Obj)} {σ : St} {H : Hp} {s : Shared} {T : String} {x : V} {v : Value} (I : Inv X pins σ H s) (r : RelV x v) (ty : tyV X.K T x H) :
    s.TypeIs v T ∧ ∀ a, v = .ref a → ∃ ob, s.heap.get? a = some ob ∧ ob.dict = none := by
  cases x with
  | str z =>
    obtain ⟨t, rfl⟩ := r
    cases (show T = "str" from ty)
    exact ⟨typeIs_str s z t, fun _ e => nomatch e⟩
  | int i =>
    obtain ⟨t, rfl⟩ := r
    cases (show T = "int" from ty)
    exact ⟨typeIs_int s i t, fun _ e => nomatch e⟩
  | ref p =>
    cases r
    rcases ty with ⟨rfl, xs, hq⟩ | ⟨rfl, o, hk, hc, hd⟩ | ⟨rfl, hk⟩ | ⟨rfl, S, n, hk⟩
    · obtain ⟨its, _, pl, _⟩ := I.list hq
      refine ⟨pl.isList.typeIs, fun a e => ?_⟩
      cases e
      obtain ⟨o, n, e, c, hd, _⟩ := pl
      exact ⟨o, e, hd⟩
    · refine ⟨⟨o, I.kIn p o hk, hc⟩, fun a e => ?_⟩
      cases e
      exact ⟨o, I.kIn _ o hk, hd⟩
    · have z : ∃ o, s.heap.get? p = some o ∧ o.ExactDict := by
        rcases hk with ⟨kvs, hk⟩ | ⟨kvs, hk⟩
        · obtain ⟨_, _, _, _, o, _, _, e, ex, _⟩ := I.hok p _ hk
          exact ⟨o, e, ex⟩
        · obtain ⟨_, _, _, _, o, _, _, e, ex, _⟩ := I.hok p _ hk
          exact ⟨o, e, ex⟩
      obtain ⟨o, e, ex⟩ := z
      refine ⟨⟨o, e, ex.1⟩, fun a e2 => ?_⟩
      cases e2
      exact ⟨o, e, ex.2.1⟩
    · obtain ⟨o, _, _, _, e, ex, _⟩ := I.hok p _ hk
      refine ⟨⟨o, e, ex.1⟩, fun a e2 => ?_⟩
      cases e2
      exact ⟨o, e, ex.2.1⟩
  | _ => exact False.elim ty
def tBM (K : PySem.W.Frag) (T : String) (r : V → List V → Hp → VK → Prop) (to : TE) (t : TA) : TE := fun σ H Q => to σ H fun x H1 => tyV K T x H1 ∧ t σ H1 fun xs H2 => r x xs H2 Q
variable {o e : Expr} {es : List Expr} {to : TE} {t : TA} {name : Str} {apos cpos : Pos} {T id : String} {r : V → List V → Hp → VK → Prop}
theorem pe_bm (pa : PlainAttrs T) (slot : Slot T name id) (hty : typeOf (.builtin id) = pure (.type "method_descriptor")) (hm : MtR X id r) (ho : PE X o to) (ha : PA X (e :: es) t)
    (hbase : attributeBase o name X.env (eval o X.env) = eval o X.env := by rfl)
    (hfew : ((backTo cpos (starEach (e :: es) X.env)).all (fun x => !x.1) && (backToKw cpos (keywordEach [] X.env)).all (fun x => x.1.isSome)
      && decide ((e :: es).length + ([] : List Keyword).length + (if ([] : List Keyword).isEmpty then 0 else 1) < 30)) = true := by rfl)
    (hline : (apos.endLine == cpos.line) = true := by rfl) (hs : starEach (e :: es) X.env = (false, eval e X.env) :: starEach es X.env := by rfl) (hplain : (backTo cpos (starEach es X.env)).any (·.1) = false := by rfl) :
    PE X (.Call (.Attribute o name apos) (e :: es) [] cpos) (tBM X.K T r to t) := by
  intro pins s σ H Q I h
  refine wpAny_Call_method_late hbase hfew hline rfl (thn (ho pins s σ H _ I h) fun v s1 ⟨x, H1, I1, r1, ty, q1⟩ => ?_)
  obtain ⟨h1, h2⟩ := tyV_is I1 r1 ty
  refine ⟨T, id, pa, slot, hty, h1, h2, ?_⟩
  have hA := ha cpos pins s1 σ H1 _ I1 q1
  rw [hs] at hA ⊢
  refine Calls.callWith_builtin (by show (false || (backTo cpos (starEach es X.env)).any (·.1)) = false; rw [hplain] <;> rfl) (Calls.evalArgs_plain ?_)
  exact thn hA fun us s2 ⟨vs, H2, I2, r2, q2⟩ => hm pins s2 σ H2 x vs v us Q I2 r1 r2 q2
/- xs.append(e), list.index on a module's tuple .. are MtR facts of 06m -/
end
end L2

namespace L2
open PySem PySem.Spec PyProof.Rows

def MtM (X : Cx) (id : String) (r : V → List V → Hp → VK → Prop) : Prop :=
  ∀ (pins : List (Addr × Obj)) (s : Shared) (σ : St) (H : Hp) (x : V) (xs : List V) (v : Value) (us : List Value) (Q : VK), Inv X pins σ H s → RelV x v → Vals xs us → r x xs H Q →
    wpAny (model X.prog X.w) X.A (call (.builtin id) (v :: us)) (EP X pins σ Q) X.xe s

/-! ### lists of values -/
theorem Vals.one : ∀ {x : V} {us : List Value}, Vals [x] us → ∃ u, us = [u] ∧ RelV x u
  | _, _, .cons r .nil => ⟨_, rfl, r⟩

section
variable {X : Cx} {pins : List (Addr × Obj)} {σ : St} {H : Hp} {s : Shared} {l b : Addr} {xs ys zs : List V}

/-! ### the two steps: a tracked list is rewritten, a new list is laid -/
theorem Inv.lset {its its' : List Value} {n : Nat} {f : Array Value → Array Value} {t' : Nat} (I : Inv X pins σ H s) (hH : H l = some (.lst xs))
    (e : s.heap.get? l = some { cls := .type "list", data := .seq its.toArray n }) (hf : f its.toArray = its'.toArray) (hv : Vals ys its') (hz : ys.length ≤ sizeLine) :
    Inv X pins σ (upd H l (.lst ys)) { s with heap := s.heap.update l (Obj.mapSeq f), toks := t' } := by
  have q := PySem.IsL.update e f
  rw [hf] at q
  refine I.write (x := l) (e := l) (by rw [hH]; exact trivial) (.inl rfl) (fun b' u hb hu => (Heap.get?_update_other s.heap (Obj.mapSeq f) (Ne.symm hb)).trans hu) ⟨_, q⟩ ?_
  exact ⟨hz, its', _, hv, q⟩
theorem Inv.lnew {its : List Value} {t' : Nat} (I : Inv X pins σ H s) (hv : Vals ys its) (hz : ys.length ≤ sizeLine) :
    Inv X pins σ (upd H s.heap.objs.size (.lst ys)) { s with heap := s.heap.push { cls := .type "list", data := .seq its.toArray }, toks := t' } :=
  I.laid (fun _ _ q => Heap.get?_push_of_some _ q) (Nat.le_refl _) ⟨hz, its, 0, hv, Heap.get?_push_size _ rfl⟩
theorem Inv.fresh (I : Inv X pins σ H s) : H s.heap.objs.size = none := I.hok.fresh (Nat.le_refl _)
theorem Inv.lstM (I : Inv X pins σ H s) (hH : H l = some (.lst xs)) : xs.length ≤ sizeLine ∧ ∃ (its : List Value) (n : Nat), Vals xs its ∧ xs.length = its.length ∧ s.heap.get? l = some { cls := .type "list", data := .seq its.toArray n } := by
  obtain ⟨z, its, n, r, e⟩ := I.hok l _ hH
  exact ⟨z, its, n, r, r.length, e⟩

end

section
variable {X : Cx}

/-! ### methods -/
def rAppend : V → List V → Hp → VK → Prop := fun x vs H Q => ∃ l xs y, x = .ref l ∧ vs = [y] ∧ H l = some (.lst xs) ∧ xs.length < sizeLine ∧ Q .non (upd H l (.lst (xs ++ [y])))
theorem mt_append : MtM X "list.append" rAppend := by
  intro pins s σ H x vs v us Q I rx rv h
  obtain ⟨l, xs, y, rfl, rfl, hH, hz, q⟩ := h
  cases rx
  obtain ⟨u, rfl, ru⟩ := rv.one
  obtain ⟨z, its, n, r, hl, e⟩ := I.lstM hH
  refine call_meets F.slot_list_append ⟨_, e, rfl⟩ F.entry_list_append (F.args_list_append_2 _ _) (PySem.list_append l its.toArray n u (by rw [List.size_toArray]; omega)) ⟨e, ?_⟩
  refine ⟨.non, _, I.lset (its' := its ++ [u]) hH e (by simp) (r.append (.cons ru .nil)) ?_, rfl, q⟩
  rw [List.length_append, List.length_singleton]
  omega






/-! ### list + list, list += list, list * int -/
def rCat : R2 := fun x y H Q => ∃ l b xs zs, x = .ref l ∧ y = .ref b ∧ H l = some (.lst xs) ∧ H b = some (.lst zs) ∧ xs.length + zs.length ≤ sizeLine ∧ ∀ p, H p = none → Q (.ref p) (upd H p (.lst (xs ++ zs)))
theorem op_cat : OpR X (binaryOp .Add) rCat := by
  intro pins s σ H x y v u Q I rx ry h
  obtain ⟨l, b, xs, zs, rfl, rfl, hH, hB, hz, q⟩ := h
  cases rx
  cases ry
  obtain ⟨z, its, n, r, hl, e⟩ := I.lstM hH
  obtain ⟨z2, its2, n2, r2, hl2, e2⟩ := I.lstM hB
  refine PySem.P.add_list e e2 ?_ (by rw [List.size_toArray, List.size_toArray]; omega)
  have ea : its.toArray ++ its2.toArray = (its ++ its2).toArray := by simp
  rw [ea]
  exact ⟨.ref _, _, I.lnew (t' := s.toks) (r.append r2) (by rw [List.length_append]; omega), rfl, q _ I.fresh⟩

/-! ### del xs[i] -/
end

/-! ### xs[a:b] = ys -/
section
variable {prog : Program} {w : World} {A : Around} {E : Value → Shared → Prop} {s : Shared}
set_option maxRecDepth 100000 in
end

section
variable {X : Cx}
end
end L2

namespace Att
open PySem PySem.W PySem.Calls PyProof.Rows

/-! ### the script -/
theorem ints_of_wellAll {P : Params} {h : Heap} : ∀ (ns : List Int) (vs : List Value), WellAll P h vs (ns.map WData.int) → IntsAre vs ns := by
  intro ns
  induction ns with
  | nil =>
    intro vs w
    rw [List.map_nil] at w
    cases w
    exact .nil
  | cons n ns ih =>
    intro vs w
    rw [List.map_cons] at w
    cases w with
    | cons a b =>
      cases a
      exact .cons _ _ (ih _ b)

theorem script_of {l : OpenLaw} {n : Nat} (hn : l.most = some n) {P : Params} {h : Heap} {args : List WData} {vals : List Value}
    (hpre : l.row.toRowW.claim.pre args = true) (hwl : WellAll P h vals args) :
    ∃ a vs ns, vals = [Value.ref a] ∧ args = [WData.list (ns.map WData.int)] ∧ h.get? a = some { cls := .type "list", data := .seq vs.toArray } ∧ IntsAre vs ns ∧ ns.length ≤ n := by
  have hsh : WShape.hasAll [] args [.list .int] = true := (pre_splitW hpre).1
  have hc : l.pre.holds [] { args := args } = true := (pre_splitW hpre).2
  obtain ⟨d, r, rfl, h1, h2⟩ := hasAllW_cons hsh
  obtain rfl := hasAllW_nil h2
  obtain ⟨xs, rfl, h3⟩ := hasW_list h1
  obtain ⟨ns, rfl⟩ := items_int h3
  have hlen : ns.length ≤ n := by
    unfold OpenLaw.pre at hc
    have h4 : (WTm.not (.lt (.lit (.int (n : Int))) (.len (.arg 0)))).holds [] { args := [.list (ns.map .int)] } = true := by
      have h4 := (holds_andW hc).1
      rw [hn] at h4
      exact h4
    have h5 := condW_of h4 (w_not (w_lt w_lit (w_len_list (w_arg rfl))))
    rw [List.length_map] at h5
    refine Nat.le_of_not_lt fun q => ?_
    have q' : (n : Int) < ((ns.length : Nat) : Int) := by omega
    first
      | (rw [decide_eq_true q'] at h5; exact absurd h5 (by decide))
      | (simp at h5; omega)
  cases hwl with
  | cons w1 w2 =>
    cases w2
    cases w1 with
    | list ho hall => exact ⟨_, _, ns, rfl, rfl, ho, ints_of_wellAll ns _ hall, hlen⟩

theorem post_true (l : OpenLaw) (args : List WData) : l.row.toRowW.claim.post args (.bool true) args = true :=
  postW_of (r := l.row.toRowW) (X := (true == true))
    (show WShape.has [] (.bool true) .bool = true by first | rfl | decide | simp [WShape.has, WShape.arms, WShape.armsAll])
    (show (WTm.eq .res (.lit (.bool true))).value [] { args := args, res := some (.bool true), after := args } = some (.bool (true == true)) from w_eq_bool (w_res rfl) w_lit) rfl

/-! ### the attachment: holds_open's last premise (the goal 'hc' behind k_head) from a wpAny of the law's body -/

/-- the same from a codeAny of the CALL (for a layer whose function contracts speak of calls) -/
theorem attach_call {l : OpenLaw} {n : Nat} {q : Program} {loose : List Str} {XP : (Str → Option Value) → Heap → Prop} {YP : World → Heap → Prop} {d : DefRec}
    (hn : l.most = some n) (hdf : d.params.defaults = [])
    (call : ∀ (w : World) (s₀ s₁ : Shared) (mg mb : Str → Option Value) (fa : Addr) (o : Obj) (pm cd doc : Value) (a : Addr) (vs : List Value) (ns : List Int),
      Ground q loose [] XP w s₀ mg mb s₁.heap → YP w s₁.heap →
      s₁.heap.get? fa = some o → o.data = .func (docDef d.name d.params d.body d.scope pm cd doc) → s₁.heap.CodeRec cd d.name → mg d.name = some (.ref fa) →
      s₁.heap.get? a = some { cls := .type "list", data := .seq vs.toArray } → IntsAre vs ns → ns.length ≤ n → s₁.gens = #[] →
      codeAny (model l.prog w) callerA (.call (.ref fa) ⟨[.ref a], []⟩) (fun r s' => r = .ok (.ret (.bool true)) ∧ OldK s₁.heap s'.heap ∧ s'.os = s₁.os ∧ AllBare s'.gens) s₁) :
    WalkO q loose XP YP l.row.toRowW d [] (fun f vs => PySem.call f vs) := by
  intro w s₀ s₁ mg mb G Y fa o pm cd doc dV kV ho hd hcd hD hmg hg args vals as hpre hlay hrd hwl hlo
  obtain rfl : dV = .none := Dflts.none hD hdf
  obtain rfl : kV = .none := Dflts.noKw hD
  obtain ⟨a, vs, ns, rfl, rfl, hobj, hints, hlen⟩ := script_of hn hpre hwl
  refine enter_call (codeAny_mono (call w s₀ s₁ mg mb fa o pm cd doc a vs ns G Y ho (fd_plain hd) hcd hmg hobj hints hlen hg) fun r s' hq => ?_)
  obtain ⟨rfl, h2, h3, h4⟩ := hq
  exact ⟨.inl ⟨.bool true, .bool true, [], rfl, fun _ => rfl, .bool true, post_true l _, fun _ => ⟨List.Pairwise.nil, fun _ hm => (nomatch hm)⟩⟩, h2, h3, h4⟩


/-! ### rules over ANY heap (no ledger) from facts about the written part K: the library's own take a ledger (News) for what they write -/
section
variable {prog : Program} {w : World} {A : Around} {E : Value → Shared → Prop} {s : Shared} {K : Frag}





/-! the whole heap as the ledger: makes every rule that writes through a ledger a rule over any heap -/

end
end Att

namespace L2
open PySem PySem.Spec PyProof.Rows

theorem vals_ints : ∀ {vs : List Value} {ns : List Int}, IntsAre vs ns → Vals (ns.map V.int) vs
  | _, _, .nil => .nil
  | _, _, .cons n t h => .cons ⟨t, rfl⟩ (vals_ints h)

/-- nothing is tracked but the script, known to the object (or it is an object of the module) -/
def Only (H : Hp) : Prop := ∀ b, H b = none ∨ ∃ o xs, H b = some (.frz o (.lst xs))

/-- THE HEAD: the law's promise, at the heap behind the top. F, the promise of the law's def, may use that base is part of the heap (so K.In base, base.Ns mainGlobals mg stand in Mod) -/
theorem law_call {P : Program} {w : World} {K : PySem.W.Frag} {mg mb : Str → Option Value} {CX : CXT} {k : Nat} {fa a : Addr} {fd : FuncData} {x : Str} {sp : Sp} {s₁ : Shared} {vs : List Value} {ns : List Int}
    (KX : K.In s₁.heap) (hns : s₁.heap.Ns mainGlobals mg) (hb : s₁.heap.Ns builtinsNs mb) (hbb : ∀ x : Str, x ≠ "__name__" → mb x = bootBuiltins x) (hlim : s₁.heap.NoLimit) (hg : s₁.gens = #[])
    (ha : s₁.heap.get? a = some { cls := .type "list", data := .seq vs.toArray }) (hi : IntsAre vs ns) (hl : ns.length ≤ sizeLine) (hr : Room k callerA)
    (F : ∀ base : Heap, K.In base → base.Ns mainGlobals mg → FnOk P w K mg base CX k fa fd [x] sp) (hbind : ∀ (s : Shared) (u : Value), BindsTo s fd ⟨[u], []⟩ [(x, u)])
    (hsp : ∀ H : Hp, Only H → SqL K H a (ns.map V.int) → sp [.ref a] H (fun v _ => v = .bl true) fun _ _ _ => False)
    (hCX : ∀ H e s', CX [] H s₁ (fun _ _ _ => False) e s' → False) :
    codeAny (model P w) callerA (.call (.ref fa) ⟨[.ref a], []⟩) (fun r s' => r = .ok (.ret (.bool true)) ∧ OldK s₁.heap s'.heap ∧ s'.os = s₁.os ∧ AllBare s'.gens) s₁ := by
  have rv := vals_ints hi
  have lenV := hi.length
  -- from an abstract heap in which nothing but the script may be tracked
  have core : ∀ H : Hp, Only H → SqL K H a (ns.map V.int) → HOk P w H s₁.heap → (∀ b, H b ≠ none → b = a) → (H a ≠ none → K.lookup a = none) →
      codeAny (model P w) callerA (.call (.ref fa) ⟨[.ref a], []⟩) (fun r s' => r = .ok (.ret (.bool true)) ∧ OldK s₁.heap s'.heap ∧ s'.os = s₁.os ∧ AllBare s'.gens) s₁ := by
    intro H hO hS hok hA hK
    have base_of : ∀ {b : Addr} {o : Obj}, s₁.heap.get? b = some o → H b = none → (hidT s₁.heap H).get? b = some o := fun e n => hidT_get e n
    have noA : ∀ {b : Addr} {o : Obj} {es : Array DictEntry} {ep : Nat}, s₁.heap.get? b = some o → o.data = .dict es ep → H b = none := fun {b o es ep} e d => by
      cases q : H b with
      | none => rfl
      | some u =>
        have e' : b = a := hA b (by rw [q]; simp)
        subst e'
        rw [ha] at e; cases e
        have d' : Data.seq vs.toArray _ = Data.dict es ep := d
        cases d'
    have nsK : ∀ {b : Addr} {m : Str → Option Value}, s₁.heap.Ns b m → (hidT s₁.heap H).Ns b m := fun {b m} ⟨o, es, ep, e, d, r⟩ => ⟨o, es, ep, base_of e (noA e d), d, r⟩
    have hKb : K.In (hidT s₁.heap H) := fun b o e => base_of (KX b o e) (by
      cases q : H b with
      | none => rfl
      | some u =>
        have e' : b = a := hA b (by rw [q]; simp)
        subst e'
        rw [hK (by rw [q]; simp)] at e; cases e)
    have hM : Mod K mg (hidT s₁.heap H) := ⟨hKb, nsK hns, ⟨mb, nsK hb, hbb⟩, let ⟨mc, h1, h2⟩ := hlim; ⟨mc, nsK h1, h2⟩⟩
    have e0 : Env0 P w K mg (hidT s₁.heap H) callerA [] s₁ H := ⟨rfl, hM, fun b o e => of_hidT e, Nat.le_of_eq (hidT_size _ _), trivial, fun b hb => absurd (show b ∈ ([] : List Addr) from hb) (by simp), hok, .of_eq hg⟩
    refine codeAny_mono ((F _ hKb (nsK hns)).run callerA [] s₁ H ⟨[.ref a], []⟩ [.ref a] [.ref a] _ _ hr e0 (hbind s₁ (.ref a)) (.cons rfl .nil) (hsp H hO hS)) fun r s' h => ?_
    cases r with
    | error e => exact (hCX H e s' h).elim
    | ok fl =>
      cases fl with
      | next => exact False.elim h
      | brk => exact False.elim h
      | cont => exact False.elim h
      | ret u =>
        obtain ⟨v, H', os, bare, un, hok', r', q⟩ := h
        have q' : v = .bl true := q
        subst q'
        obtain rfl : u = Value.bool true := r'
        refine ⟨rfl, OldK.of_keep fun b o e => ?_, os, bare⟩
        cases q : H b with
        | none => exact un.keep b o e q (by intro z; exact absurd (show b ∈ ([] : List Addr) from z) (by simp)) (by simp)
        | some u =>
          rcases hO b with z | ⟨ob, xs, z⟩
          · rw [q] at z; cases z
          · have z2 := un.frzs b ob _ z
            obtain ⟨e1, _⟩ := hok b _ z
            obtain ⟨e2, _⟩ := hok' b _ z2
            rw [e] at e1; cases e1
            exact e2
  cases hk : K.lookup a with
  | some o =>
    -- the script is one of the module's own objects
    have e := KX a o hk
    rw [ha] at e
    cases e
    refine core (fun _ => none) (fun _ => .inl rfl) (.inr ⟨_, vs.toArray, _, hk, rfl, rfl, rfl, by rw [List.size_toArray, lenV]; exact hl, by simpa using rv⟩) (fun b u z => by have z' : (none : Option HO) = some u := z; cases z') (fun b z => absurd rfl z) fun z => absurd rfl z
  | none =>
    refine core (fun b => if b = a then some (.frz { cls := .type "list", data := .seq vs.toArray } (.lst (ns.map V.int))) else none) (fun b => ?_) (.inl (.inr ⟨{ cls := .type "list", data := .seq vs.toArray }, if_pos rfl⟩)) (fun b u z => ?_) (fun b z => ?_) fun _ => hk
    · by_cases hb : b = a
      · exact .inr ⟨_, _, if_pos hb⟩
      · exact .inl (if_neg hb)
    · by_cases hb : b = a
      · have z' := (if_pos hb).symm.trans z
        cases z'
        subst hb
        exact ⟨ha, by rw [List.length_map]; exact hl, vs, _, rv, ha⟩
      · have z' := (if_neg hb).symm.trans z
        cases z'
    · by_cases hb : b = a
      · exact hb
      · exact absurd (if_neg hb) z
end L2

namespace L2
open PySem PySem.Spec PyProof.Rows


/-- the goal that k_head leaves (case hc), from the law's promise. F gives the function object fd (K's own) once, then the promise over every base -/
theorem walk_of {l : PySem.W.OpenLaw} {n k : Nat} {q : Program} {loose : List Str} {XP : (Str → Option Value) → Heap → Prop} {YP : World → Heap → Prop} {d : DefRec} {K : Params → PySem.W.Frag} {CX : World → CXT} {sp : World → Sp} {x : Str}
    (hn : l.most = some n) (hn2 : n ≤ sizeLine) (hdf : d.params.defaults = []) (hr : Room k callerA)
    (hY : ∀ (w : World) (h : Heap), YP w h → (K w.params).In h)
    (F : ∀ (w : World) (mg : Str → Option Value) (fa : Addr) (h : Heap), (K w.params).In h → h.Ns mainGlobals mg → mg d.name = some (.ref fa) →
      ∃ fd : FuncData, (∀ (s : Shared) (u : Value), BindsTo s fd ⟨[u], []⟩ [(x, u)]) ∧
        ∀ base : Heap, (K w.params).In base → base.Ns mainGlobals mg → FnOk l.prog w (K w.params) mg base (CX w) k fa fd [x] (sp w))
    (hsp : ∀ (w : World) (H : Hp) (a : Addr) (ns : List Int), ns.length ≤ n → Only H → SqL (K w.params) H a (ns.map V.int) → sp w [.ref a] H (fun v _ => v = .bl true) fun _ _ _ => False)
    (hCX : ∀ (w : World) (H : Hp) (s : Shared) (e : Value) (s' : Shared), CX w [] H s (fun _ _ _ => False) e s' → False) :
    PySem.W.WalkO q loose XP YP l.row.toRowW d [] (fun f vs => PySem.call f vs) := by
  refine Att.attach_call hn hdf fun w s₀ s₁ mg mb fa o pm cd doc a vs ns G Y ho hd hcd hmg hobj hints hlen hg => ?_
  have KX := hY w _ Y
  obtain ⟨fd, hb, hF⟩ := F w mg fa _ KX G.T.g hmg
  exact law_call KX G.T.g G.T.b G.T.builtins G.T.nolimit hg hobj hints (Nat.le_trans hlen hn2) hr hF hb (fun H hO hS => hsp w H a ns hlen hO hS) fun H e s' => hCX w H s₁ e s'
end L2

/- THE LAST THEOREM (shape; LID, My.* are yours):
   My.Adr: a structure of the addresses that your layer names (classes, functions); My.Txt K t: a structure (Prop) of the equations over K;
   My.txt_mk : {K} {implicit addresses ..} (e1 : nsIn K mainGlobals "law" = some (some (.ref f))) (e2 : K.lookup f = some ⟨oc, od, .func (fnOf "law" "law" params body scope dV kV doc pm an cdv ct), sl⟩) (e3 : codeIn K cdv "law" = true) .. : ∃ t, My.Txt K t

set_option maxRecDepth 100000 in
set_option maxHeartbeats 0 in
theorem PySem.Challenge.cw_LID_holds : PySem.Challenge.rw_LID.Holds := by
  w_on; o_law; k_head; (case hw => w_witness2)
  k_fill
  refine L2.walk_of (l := PySem.Challenge.rw_LID) (n := 63) (k := 40) (x := "script") (CX := fun w => ..) (sp := fun _ => My.sp_law) rfl (by decide) rfl ⟨rfl, by decide, by decide⟩ (fun w h Y => PySem.W.kIn_of Y) ?F ?S ?C
  case F =>
    intro w mg fa h KX G hmg
    have T : ∃ t, My.Txt (L2.KOf KX) t := by
      dsimp only [L2.KOf]                          -- K must stand as «<heap const> w.params» for k_is
      refine' My.txt_mk ?e1 ?e2 ?e3 ..
      (case e1 => PySem.W.k_is)                    -- in the order: a name -> its address -> its object -> its parts
      (case e2 => PySem.W.k_is)
      ..
    obtain ⟨t, T⟩ := T
    have e0 := hmg.symm.trans (PySem.W.mg_of KX G T.law)
    cases e0                                       -- fa is the law's own address
    exact ⟨_, fun s u => .of_eq rfl, fun base kb nb => My.law_fn T kb nb⟩     -- if «.of_eq rfl» comes too early: refine' ⟨_, ?b, fun base kb nb => My.law_fn T kb nb⟩; exact fun s u => .of_eq rfl
  case S => exact fun w H a ns hl hO hS => ..
  case C => exact ..
(the tactic k_is has no namespace: write k_is) -/

/-! SHORT WORDS over the layer: a def of the text, its body, what a loop and a test want. -/
namespace L2
open PySem PySem.Spec PyProof.Rows

/-! ### the text by places -/
def defArgs (s : Stmt) : Arguments := match s with
  | .FunctionDef _ a _ _ _ _ _ _ _ _ => a
  | _ => { posonlyargs := [], args := [], vararg := none, kwonlyargs := [], kw_defaults := [], kwarg := none, defaults := [] }
def defBody (s : Stmt) : List Stmt := match s with
  | .FunctionDef _ _ b _ _ _ _ _ _ _ => b
  | _ => []
def defScope (s : Stmt) : Scope := match s with
  | .FunctionDef _ _ _ _ _ _ sc _ _ _ => sc
  | _ => { kind := .function, names := [], isGenerator := false, isCoroutine := false }

/-! ### no exception leaves a def -/
abbrev E0 : XK := fun _ _ _ => False

/-! ### a def (or method) of the text as it stands behind the top -/
section
variable {P : Program} {w : World} {K : PySem.W.Frag} {mg : Str → Option Value} {base : Heap}
end

/-! ### expressions in short: the name that stands in the i-th slot -/
section
variable {X : Cx}
theorem pv (i : Nat) {x : Str} {pos : Pos} (hN : X.N[i]? = some x := by rfl) (hv : Vis X.env.scope x := by first | exact Or.inl rfl | exact Or.inr (Or.inl rfl) | exact Or.inr (Or.inr rfl)) (hd : (x == ("__debug__" : Str)) = false := by decide)
    (hcd : (x == ("__classdict__" : Str)) = false := by decide) : PE X (.Name x pos) (tVar i) := pe_var hN hv hd hcd
end

/-! ### tests -/
theorem iteF {A B : Prop} (h : B) : if false = true then A else B := by
  rw [if_neg Bool.false_ne_true]
  exact h
theorem iteT {A B : Prop} (h : A) : if true = true then A else B := by
  rw [if_pos rfl]
  exact h
theorem ite2 {c A B : Prop} [Decidable c] (h1 : c → A) (h2 : ¬ c → B) : if c then A else B := by
  by_cases h : c
  · rw [if_pos h]
    exact h1 h
  · rw [if_neg h]
    exact h2 h

/-! ### heaps -/
/-- all that was tracked is as it was -/
def Same (H H' : Hp) : Prop := ∀ b o, H b = some o → H' b = some o
theorem Same.trans {H H1 H2 : Hp} (a : Same H H1) (b : Same H1 H2) : Same H H2 := fun c o h => b c o (a c o h)
theorem Same.seq {K : PySem.W.Frag} {H H' : Hp} {a : Addr} {xs : List V} (e : Same H H') (h : SqL K H a xs) : SqL K H' a xs := by
  rcases h with (h | ⟨o, h⟩) | h
  · exact .inl (.inl (e _ _ h))
  · exact .inl (.inr ⟨o, e _ _ h⟩)
  · exact .inr h

end L2

/-! ===== Ext1 ===== -/
set_option Elab.async false
set_option linter.all false
set_option maxRecDepth 100000
set_option maxHeartbeats 4000000
namespace L2
open PySem PySem.Spec PyProof.Rows

/-! ### enumerate -/
theorem Inv.turned2 {X : Cx} {pins : List (Addr × Obj)} {σ : St} {H : Hp} {s : Shared} {h' : Heap} {t' : Nat} {e it : Addr} (I : Inv X pins σ H s)
    (k : ∀ b o, b ≠ e → b ≠ it → s.heap.get? b = some o → h'.get? b = some o) (fe : FpOk X pins H e) (fi : FpOk X pins H it) : Inv X pins σ H { s with heap := h', toks := t' } := by
  have nit : ∀ b u, H b = some u → b ≠ e ∧ b ≠ it := fun b u q => ⟨(fun z => by rw [z, fe.1] at q; cases q), (fun z => by rw [z, fi.1] at q; cases q)⟩
  have out : ∀ b, b ∉ [e, it] → b ≠ e ∧ b ≠ it := fun b hb => ⟨fun z => hb (by simp [z]), fun z => hb (by simp [z])⟩
  refine I.step (g' := s.gens) (d' := s.drawn) (ch := [e, it]) (fun b hb => ?_) (fun b o _ _ hc q _ => k b o (out b hc).1 (out b hc).2 q) (fun b o _ _ hc q _ => ⟨o.slots, k b o (out b hc).1 (out b hc).2 q⟩) (fun _ _ _ _ n => n)
    (fun b o hc q => ⟨o, k b o (out b hc).1 (out b hc).2 q⟩) (fun _ _ q => q) (fun _ _ _ q => q) (fun b ps q => ⟨#[], by rw [q]; simp⟩) (fun m hm => ?_) (fun b u q => ?_) I.bare
  · rcases List.mem_cons.mp hb with z | hb
    · rw [z]; exact ⟨fe.2.2.2.1, fe.2.1, fe.2.2.2.2.1, fe.2.2.2.2.2⟩
    · have z : b = it := by simpa using hb
      rw [z]; exact ⟨fi.2.2.2.1, fi.2.1, fi.2.2.2.2.1, fi.2.2.2.2.2⟩
  · obtain ⟨o, es, ep, ho, r⟩ := hm
    exact ⟨o, es, ep, k _ o (Ne.symm fe.2.1) (Ne.symm fi.2.1) ho, r⟩
  · refine (I.hok b u q).stay (fun c v hc r => ?_) (fun _ r => r) fun _ _ r => r
    rcases hc with z | z
    · rw [z] at r ⊢; exact k b v (nit b u q).1 (nit b u q).2 r
    · exact k c v (nit c _ z).1 (nit c _ z).2 r

def Ite (K : PySem.W.Frag) (a : Addr) : It :=
  ⟨fun i H => ∃ xs x, SqL K H a xs ∧ xs[i]? = some x, fun i H x H' => ∃ t y, H t = none ∧ x = .ref t ∧ (∀ xs, SqL K H a xs → xs[i]? = some y) ∧ H' = upd H t (.tup [.int i, y]),
   fun i H => ∃ xs, SqL K H a xs ∧ xs.length ≤ i⟩
theorem turn_enum {P : Program} {w : World} {K : PySem.W.Frag} {es : List Expr} {k : Nat} {pos : Pos} (a e it : Addr) (hne : e ≠ it) :
    Turn P w K (.Tuple es k pos) (Ite K a) [e, it] e (fun i h => (∃ old, IsEnum h e it i old) ∧ h.IsListIter it a i) where
  mem := by simp
  obj := fun i h st b hb => by
    obtain ⟨⟨old, he⟩, o, e1, c, d⟩ := st
    rcases List.mem_cons.mp hb with z | hb
    · rw [z]; exact ⟨_, he, fun v z => by have z' : Data.fields _ = Data.cell v := z; cases z'⟩
    · have z : b = it := by simpa using hb
      rw [z]; exact ⟨o, e1, fun v z => by rw [d] at z; cases z⟩
  keep := fun i h h' st kk => by
    obtain ⟨⟨old, he⟩, st⟩ := st
    exact ⟨⟨old, kk e (by simp) _ he⟩, st.at fun o q => kk it (by simp) o q⟩
  item := by
    intro X hP hw hK hc i pins s σ H E I hf st hg
    subst hP hw hK
    obtain ⟨xs, x, hq, hx⟩ := hg
    obtain ⟨its, rv, p, hz⟩ := I.list hq
    obtain ⟨u, hu, ru⟩ := rv.get hx
    have fe := hf e (by simp)
    have fi := hf it (by simp)
    obtain ⟨⟨old, he⟩, hit⟩ := st
    refine wpAny_pyNext_enum_item he hit p.isList (x := u) (by simpa using hu) hne fun h1 eo it1 tp sz kk => ?_
    refine ⟨_, rfl, wpAny_letOwnedTupleGo_enum (s := { s with heap := h1, toks := s.toks + 1 }) eo fun h2 e2 sb2 => ?_⟩
    have hfr := I.hok.fresh (Nat.le_refl s.heap.objs.size)
    have I1 : Inv X pins σ (upd H s.heap.objs.size (.tup [.int i, x])) { s with heap := s.heap.push { cls := .type "tuple", data := .seq #[.int i s.toks, u] }, toks := s.toks } :=
      I.laid (o := .tup [.int i, x]) (fun b o q => Heap.get?_push_of_some _ q) (Nat.le_refl _) ⟨by show 2 ≤ sizeLine; decide, [.int i s.toks, u], .cons ⟨_, rfl⟩ (.cons ru .nil), IsTup.new _ _⟩
    have lt1 : e < s.heap.objs.size := Heap.lt_size he
    have lt2 : it < s.heap.objs.size := by obtain ⟨o, q, _⟩ := id hit; exact Heap.lt_size q
    have up : ∀ {b : Addr}, FpOk X pins H b → b < s.heap.objs.size → FpOk X pins (upd H s.heap.objs.size (.tup [.int i, x])) b := fun f l => ⟨by rw [upd_ne (Nat.ne_of_lt l)]; exact f.1, f.2⟩
    have I2 := I1.turned2 (h' := h2) (t' := s.toks + 1) (fun b o n1 n2 q => ?_) (up fe lt1) (up fi lt2)
    · refine ⟨.ref s.heap.objs.size, _, I2, rfl, ⟨_, x, hfr, rfl, fun ys hy => by rw [I.list_inj hy hq]; exact hx, rfl⟩, ⟨⟨u, ?_⟩, it1.extBut sb2.extBut (Ne.symm hne)⟩, fun b hb => ?_⟩
      · have e3 : ((i + 1 : Nat) : Int) = (i : Int) + 1 := by push_cast; rfl
        rw [e3]; exact e2
      · rcases List.mem_cons.mp hb with z | hb
        · rw [z]; exact (up fe lt1).1
        · have z : b = it := by simpa using hb
          rw [z]; exact (up fi lt2).1
    · have q1 : (s.heap.push { cls := .type "tuple", data := .seq #[.int i s.toks, u] }).get? b = some o := q
      refine sb2.extBut b o n1 ?_
      by_cases hb : b = s.heap.objs.size
      · subst hb
        rw [Heap.get?_push_size _ rfl] at q1
        cases q1
        exact tp
      · refine kk b o n1 n2 ?_
        rw [← q1]
        exact (Heap.get?_push_ne s.heap b _ hb).symm
  done := by
    intro X hP hw hK hc i pins s σ H E I hf st hg
    subst hP hw hK
    obtain ⟨xs, hq, hx⟩ := hg
    obtain ⟨its, rv, p, hz⟩ := I.list hq
    obtain ⟨⟨old, he⟩, hit⟩ := st
    obtain ⟨f0, f1, f2, f3, f4, f5⟩ := hf it (by simp)
    have hl := rv.length
    exact wpAny_pyNext_enum_end (I.ok.hd hc) he hit p.isList (by simp; omega) fun h' eb => ⟨rfl, I.turned (t' := s.toks) (fun b o hb q => eb b o hb q) f0 f1 f3 f4 f5⟩
  self := fun _ _ _ _ _ st h => by
    obtain ⟨⟨old, he⟩, _⟩ := st
    exact wpAny_pyIter_enum he h
section
variable {X : Cx} {es : List Expr} {tk : Nat} {tpos : Pos}
def iEnum (K : PySem.W.Frag) (ta : TA) : TI := fun σ H R => ta σ H fun vs H1 => ∃ a, vs = [.ref a] ∧ (∃ xs, SqL K H1 a xs) ∧ R (Ite K a) H1
theorem pi_enum {l : Expr} {ta : TA} {p pos : Pos} (hg : Gl X "enumerate") (hm : X.mg "enumerate" = none) (ha : PA X [l] ta) (hs : starEach [l] X.env = [(false, eval l X.env)] := by rfl) :
    PI X (.Tuple es tk tpos) (.Call (.Name "enumerate" p) [l] [] pos) (iEnum X.K ta) := by
  intro pins s σ H R I h
  refine Call_ (ld_blt I hg hm PyProof.Rows.boot_enumerate (PyProof.Rows.callWith_type1 (thn (ha pos pins s σ H _ I h) fun us s1 ⟨vs, H1, I1, r1, q1⟩ => ?_) hs rfl))
  obtain ⟨a, e, ⟨xs, hq⟩, q⟩ := q1
  subst e
  cases r1 with
  | cons r rr =>
    cases rr
    cases r
    obtain ⟨its, rv, pl, hz⟩ := I1.list hq
    refine call_enumerate_list pl.isList fun h' he hit hsz kk => wpAny_pyIter_enum he ?_
    refine ⟨_, [s1.heap.objs.size + 1, s1.heap.objs.size], _, _, H1, rfl, I1.kept (t' := s1.toks) kk, turn_enum a _ _ (Nat.succ_ne_self _), ⟨⟨_, he⟩, hit⟩, fun b hb => ?_, q⟩
    rcases List.mem_cons.mp hb with z | hb
    · rw [z]; exact I1.fpOk (Nat.le_succ _) (I1.hok.fresh (Nat.le_succ _))
    · have z : b = s1.heap.objs.size := by simpa using hb
      rw [z]; exact I1.fpOk (Nat.le_refl _) (I1.hok.fresh (Nat.le_refl _))
end
/-- over enumerate(list), the list left as it is -/
theorem for_enum {K : PySem.W.Frag} {a : Addr} {xs : List V} {g : TG} {tb : TS} {D : Ends} {σ : St} {H : Hp} (Pv : Nat → St → Hp → Prop) (h0 : Pv 0 σ H) (hl : ∀ i σ H, i ≤ xs.length → Pv i σ H → SqL K H a xs)
    (hs : ∀ i x t σ H, xs[i]? = some x → Pv i σ H → H t = none → g (.ref t) σ (upd H t (.tup [.int i, x])) fun σ2 H2 => tb { D with nx := Pv (i + 1), ct := Pv (i + 1), bk := D.nx } σ2 H2) (hd : ∀ σ H, Pv xs.length σ H → D.nx σ H) :
    ∃ W : Nat → Nat → St → Hp → Prop, (∃ m, W 0 m σ H) ∧ ∀ i m σ H, W i m σ H →
      ((Ite K a).stop i H ∧ D.nx σ H) ∨ ((Ite K a).go i H ∧ ∃ N : St → Hp → Prop, (∀ σ' H', N σ' H' → ∃ m', m' < m ∧ W (i + 1) m' σ' H') ∧ ∀ x H', (Ite K a).yld i H x H' → g x σ H' fun σ2 H2 => tb { D with nx := N, ct := N, bk := D.nx } σ2 H2) := by
  refine ⟨fun i m σ H => m = xs.length - i ∧ i ≤ xs.length ∧ Pv i σ H, ⟨xs.length, by simp, Nat.zero_le _, h0⟩, ?_⟩
  rintro i m σ H ⟨rfl, hi, p⟩
  have q := hl i σ H hi p
  by_cases hlt : i < xs.length
  · refine .inr ⟨⟨xs, xs[i], q, by simp [hlt]⟩, Pv (i + 1), fun σ' H' p' => ⟨xs.length - (i + 1), by omega, rfl, hlt, p'⟩, fun x H' y => ?_⟩
    obtain ⟨t, y, n, e1, e2, e3⟩ := y
    subst e1 e3
    exact hs i y t σ _ (e2 xs q) p n
  · have e : i = xs.length := by omega
    subst e
    exact .inl ⟨⟨xs, q, Nat.le_refl _⟩, hd σ H p⟩

/-! ### great numbers -/
def big : Nat := 2 ^ 4000
theorem big_log {n : Nat} (h : n < big) : n.log2 < 4000 := by
  by_cases h0 : n = 0
  · rw [h0]; decide +kernel
  · exact (Nat.log2_lt h0).mpr h
section
variable {X : Cx}
theorem op_fdivB : OpR X (binaryOp .FloorDiv) (rI (fun _ j => j ≠ 0 ∧ j.natAbs < big) fun i j => .int (i.fdiv j)) := opI fun _ _ _ _ _ _ _ hc q => floordiv_int hc.1 q (.inl (PyProof.noPylong_of_log2 (Nat.lt_trans (big_log hc.2) (by decide))))
theorem op_fdivP : OpR X (binaryOp .FloorDiv) (rI (fun _ j => 0 < j ∧ j.natAbs < big) fun i j => .int (i / j)) := opI fun i j _ _ _ _ _ hc q => by
  have h1 : (0 : Int) < j := hc.1
  exact floordiv_int (by omega) (by rw [Int.fdiv_eq_ediv_of_nonneg i (by omega)]; exact q) (.inl (PyProof.noPylong_of_log2 (Nat.lt_trans (big_log hc.2) (by decide))))
theorem bits_lt {k : Int} (h : k.natAbs < big) : Builtin.Int.intBits k ≤ 4000 := by
  unfold Builtin.Int.intBits
  split
  · exact Nat.zero_le _
  · have := big_log h
    omega
theorem mul_ok {i j : Int} (hi : i.natAbs < big) (hj : j.natAbs < big) : IntMulOk i j := by
  have h1 := bits_lt hi
  have h2 := bits_lt hj
  have h4 : 8000 ≤ bitsLine := by decide +kernel
  have h3 : Builtin.Int.intTooBig (Builtin.Int.intBits i + Builtin.Int.intBits j) = false := by
    unfold Builtin.Int.intTooBig
    generalize Builtin.Int.intBits i = a at *
    generalize Builtin.Int.intBits j = b at *
    clear hi hj
    simp
    omega
  unfold IntMulOk
  rw [h3]
  simp
theorem op_mulB : OpR X (binaryOp .Mult) (rI (fun i j => i.natAbs < big ∧ j.natAbs < big) fun i j => .int (i * j)) := opI fun _ _ _ _ _ _ _ hc q => mul_int q (mul_ok hc.1 hc.2)

/-! ### tuples of flat values, equal or not -/
def eqVs : List V → List V → Bool
  | [], [] => true
  | x :: xs, y :: ys => eqV x y && eqVs xs ys
  | _, _ => false
end
end L2

/-! ===== Ext2 ===== -/
set_option Elab.async false
set_option linter.all false
set_option maxRecDepth 100000
set_option maxHeartbeats 4000000
namespace L2
open PySem PySem.Spec PyProof.Rows

/-! ### a traceback's entry, written -/
/-- no traceback yet, or one that is in no flight -/
def TbOk (h : Heap) (e : Addr) (vs : Array Value) : Prop :=
  vs[1]? = some .none ∨ ∃ T oT ts, vs[1]? = some (.ref T) ∧ T ≠ e ∧ h.get? T = some oT ∧ oT.data = .fields ts ∧ ts[3]? = some .none
/-- what stands behind it -/
structure Noted (fs : List Addr) (e L : Addr) (oe : Obj) (vs : Array Value) (h h' : Heap) (T : Addr) (fl : Value) : Prop where
  new : h.get? T = none
  ne : T ≠ e
  exc : h'.get? e = some (oe.mapFields (·.setIfInBounds 1 (.ref T)))
  tb : ∃ oT ts, h'.get? T = some oT ∧ oT.data = .fields ts ∧ ts[3]? = some fl
  keep : ∀ b o, b ∉ fs → b ≠ e → vs[1]? ≠ some (.ref b) → h.get? b = some o → h'.get? b = some o
  slot : ∀ b o, b ∈ fs → h.get? b = some o → ∃ sl, h'.get? b = some { o with slots := sl }
section
variable {M : Model} {A : Around} {E : Value → Shared → Prop} {s : Shared} {env : Env} {outer : List Env} {base : Heap} {L e : Addr} {oe : Obj} {vs : Array Value} {Q : Unit → Shared → Prop}
theorem entry_ok {head : Value} {had : Bool} (hfr : A.frames = some (env :: outer)) (hl : s.heap.FunFrames base (env :: outer)) (hf : env.frame = some L)
    (he : s.heap.get? e = some oe) (hd : oe.data = .fields vs) (hz : 1 < vs.size)
    (h : ∀ h' T, s.heap.get? T = none → T ≠ e → h'.get? e = some (oe.mapFields (·.setIfInBounds 1 (.ref T))) → (∃ oT ts, h'.get? T = some oT ∧ oT.data = .fields ts ∧ ts[3]? = some (rawInt L)) →
      (∀ b o, b ∉ frs (env :: outer) → b ≠ e → s.heap.get? b = some o → h'.get? b = some o) → (∀ b o, b ∈ frs (env :: outer) → s.heap.get? b = some o → ∃ sl, h'.get? b = some { o with slots := sl }) →
      Q () { s with heap := h' }) :
    wpAny M A (do let f ← frameOf env; let p ← entryPlaceOf L had; let n ← EntryCells.newEntry head f .none (rawInt L) .none p; setField (.ref e) 1 n) Q E s := by
  have enf : e ∉ frs (env :: outer) := fun z => by
    obtain ⟨_, o, ho, hn⟩ := hl.mem z
    rw [he] at ho; cases ho
    exact hn vs hd
  refine wpAny_bind (wpAny_frameOf_fun hfr hl hf fun g1 so => ?_)
  refine wpAny_bind (wpAny_entryPlaceOf fun pl hp => ?_)
  unfold EntryCells.newEntry newFields
  refine wpAny_bind (wpAny_newObj_type ?_ (hp.sizeOk5 _ _ _ _ _))
  have e1 : g1.get? e = some oe := (so.2.1 e enf).trans he
  generalize htb : ({ cls := .type "traceback", dict := none, data := .fields ([head, .ref L, .none, rawInt L, .none] ++ (if pl.isEmpty then List.replicate 6 Value.none else pl)).toArray } : Obj) = tb
  have dtb : ∃ ts, tb.data = .fields ts ∧ ts[3]? = some (rawInt L) := by
    subst htb
    exact ⟨_, rfl, by simp⟩
  have ftb : tb.isFreed = false := by subst htb; rfl
  have e2 : (g1.push tb).get? e = some oe := Heap.get?_push_of_some _ e1
  have tne : g1.objs.size ≠ e := Nat.ne_of_gt (Heap.lt_size e1)
  refine wpAny_setField e2 hd hz ?_
  have d3 := Obj.data_mapFields hd (·.setIfInBounds 1 (Value.ref g1.objs.size))
  have keep : ∀ b o, b ≠ e → g1.get? b = some o → ((g1.push tb).update e (Obj.mapFields (·.setIfInBounds 1 (Value.ref g1.objs.size)))).get? b = some o := fun b o hb q => by
    rw [Heap.get?_update_other _ _ (Ne.symm hb)]
    exact Heap.get?_push_of_some _ q
  refine h _ g1.objs.size (Heap.get?_none_of_le (Nat.le_of_eq so.1.symm)) tne (Heap.get?_update_self _ e2 (Obj.isFreed_of_fields d3)) ?_ (fun b o n1 n2 q => keep b o n2 ((so.2.1 b n1).trans q)) (fun b o n1 q => ?_)
  · obtain ⟨ts, q1, q2⟩ := dtb
    refine ⟨tb, ts, ?_, q1, q2⟩
    rw [Heap.get?_update_other _ _ (Ne.symm tne)]
    exact Heap.get?_push_size g1 ftb
  · obtain ⟨sl, q1⟩ := so.2.2 b o q
    exact ⟨sl, keep b _ (fun z => enf (z ▸ n1)) q1⟩
theorem note_ok (hfr : A.frames = some (env :: outer)) (hl : s.heap.FunFrames base (env :: outer)) (hf : env.frame = some L)
    (he : s.heap.get? e = some oe) (hd : oe.data = .fields vs) (hv : TbOk s.heap e vs) (h : ∀ h' T, Noted (frs (env :: outer)) e L oe vs s.heap h' T (rawInt L) → Q () { s with heap := h' }) :
    wpAny M A (noteFrame (.ref e) env) Q E s := by
  unfold noteFrame
  simp only [hf]
  rcases hv with h1 | ⟨T, oT, ts, h1, ne, hT, dT, h3⟩
  · refine wpAny_bind (wpAny_field he hd h1 ?_)
    rw [if_neg (by decide)]
    exact entry_ok hfr hl hf he hd (Array.getElem?_eq_some_iff.mp h1).1 fun h' T a b c d k sl => h h' T ⟨a, b, c, d, fun b o n1 n2 _ q => k b o n1 n2 q, sl⟩
  · refine wpAny_bind (wpAny_field he hd h1 ?_)
    rw [if_pos (show (Value.ref T != Value.none) = true from by simp)]
    refine wpAny_bind (wpAny_field hT dT h3 ?_)
    rw [if_neg (show ¬ ((Value.none == rawInt L) = true) from by simp [rawInt])]
    refine wpAny_bind (wpAny_setField hT dT (Array.getElem?_eq_some_iff.mp h3).1 ?_)
    have oth : ∀ b, b ≠ T → (s.heap.update T (Obj.mapFields (·.setIfInBounds 3 Value.none))).get? b = s.heap.get? b := fun b hb => Heap.get?_update_other _ _ (Ne.symm hb)
    have nf : ∀ b o, s.heap.get? b = some o → (∀ vs, o.data ≠ .fields vs) → b ≠ T := fun b o q hn z => by
      rw [z, hT] at q; cases q
      exact hn ts dT
    have hl2 := hl.of_keeps (h' := s.heap.update T (Obj.mapFields (·.setIfInBounds 3 Value.none))) fun b o q hn => ⟨o, (oth b (nf b o q hn)).trans q, rfl⟩
    refine entry_ok (s := { s with heap := s.heap.update T (Obj.mapFields (·.setIfInBounds 3 Value.none)) }) hfr hl2 hf ((oth e (Ne.symm ne)).trans he) hd (Array.getElem?_eq_some_iff.mp h1).1 fun h' T' a b c d k sl => ?_
    have nT : T' ≠ T := fun z => by
      have a' : (s.heap.update T (Obj.mapFields (·.setIfInBounds 3 Value.none))).get? T' = none := a
      rw [z, Heap.get?_update_self _ hT (Obj.isFreed_of_fields (Obj.data_mapFields dT _))] at a'
      cases a'
    refine h h' T' ⟨(oth T' nT).symm.trans a, b, c, d, fun b o n1 n2 n3 q => k b o n1 n2 ((oth b fun z => n3 (by rw [z]; exact h1)).trans q), fun b o n1 q => ?_⟩
    refine sl b o n1 ((oth b fun z => ?_).trans q)
    obtain ⟨_, o', ho, hn⟩ := hl.mem n1
    exact nf b o' ho hn z
/-- the flight ends -/
theorem land_ok {fs : List Addr} {h0 : Heap} {T : Addr} {fl : Value} (N : Noted fs e L oe vs h0 s.heap T fl) (hd : oe.data = .fields vs) (hz : 1 < vs.size) (hT : T ∉ fs)
    (h : ∀ h', Noted fs e L oe vs h0 h' T .none → Q () { s with heap := h' }) : wpAny M A (setFlight (.ref e) none) Q E s := by
  obtain ⟨oT, ts, q1, q2, q3⟩ := N.tb
  have h3 : 3 < ts.size := (Array.getElem?_eq_some_iff.mp q3).1
  refine wpAny_setFlight_none N.exc (Obj.data_mapFields hd _) (by simp [hz]) q1 q2 h3 (h _ ?_)
  have oth : ∀ b, b ≠ T → (s.heap.update T (Obj.mapFields (·.setIfInBounds 3 Value.none))).get? b = s.heap.get? b := fun b hb => Heap.get?_update_other _ _ (Ne.symm hb)
  have old : ∀ b o, h0.get? b = some o → b ≠ T := fun b o q z => by rw [z, N.new] at q; cases q
  refine ⟨N.new, N.ne, (oth e (Ne.symm N.ne)).trans N.exc, ⟨_, _, Heap.get?_update_self _ q1 (Obj.isFreed_of_fields (Obj.data_mapFields q2 _)), Obj.data_mapFields q2 _, by simp [h3]⟩,
    fun b o n1 n2 n3 q => (oth b (old b o q)).trans (N.keep b o n1 n2 n3 q), fun b o n1 q => ?_⟩
  obtain ⟨sl, q4⟩ := N.slot b o n1 q
  exact ⟨sl, (oth b (old b o q)).trans q4⟩
theorem leave_ok (hfr : A.frames = some (env :: outer)) (hl : s.heap.FunFrames base (env :: outer)) (hf : env.frame = some L)
    (he : s.heap.get? e = some oe) (hd : oe.data = .fields vs) (hv : TbOk s.heap e vs) (h : ∀ h' T, Noted (frs (env :: outer)) e L oe vs s.heap h' T .none → Q () { s with heap := h' }) :
    wpAny M A (leaving env (.ref e)) Q E s := by
  unfold leaving
  have hz : 1 < vs.size := by
    rcases hv with h1 | ⟨T, oT, ts, h1, _⟩
    · exact (Array.getElem?_eq_some_iff.mp h1).1
    · exact (Array.getElem?_eq_some_iff.mp h1).1
  refine wpAny_bind (note_ok hfr hl hf he hd hv fun h1 T N => ?_)
  refine land_ok (s := { s with heap := h1 }) N hd hz (fun z => ?_) fun h' N' => h h' T N'
  obtain ⟨_, o, ho, _⟩ := hl.mem z
  rw [N.new] at ho; cases ho
end

/-! ### what is tracked is there -/
theorem ObjOk.there {P : Program} {w : World} {H : Hp} {h : Heap} {a : Addr} {o : HO} (x : ObjOk P w H h a o) : ∃ ob, h.get? a = some ob := by
  cases o with
  | lst xs => obtain ⟨_, _, _, _, e⟩ := x; exact ⟨_, e⟩
  | tup xs => obtain ⟨_, _, _, o, e, _⟩ := x; exact ⟨_, e⟩
  | dK kvs => obtain ⟨_, _, _, _, o, _, _, e, _⟩ := x; exact ⟨_, e⟩
  | dT kvs => obtain ⟨_, _, _, _, o, _, _, e, _⟩ := x; exact ⟨_, e⟩
  | set S n => obtain ⟨o, _, _, _, e, _⟩ := x; exact ⟨_, e⟩
  | ins C dx fs => obtain ⟨_, _, _, e, _⟩ := x; exact ⟨_, e⟩
  | own y => exact x
  | xd fs => obtain ⟨_, ⟨_, _, _, e, _⟩, _⟩ := x; exact ⟨_, e⟩
  | rng lo hi => obtain ⟨_, _, _, e⟩ := x; exact ⟨_, e⟩
  | frz ob u => obtain ⟨e, _⟩ := x; exact ⟨_, e⟩
  | tbl ps => exact ⟨_, (show h.get? a = some _ from x)⟩
  | met f y => exact ⟨_, (show h.get? a = some _ from x)⟩
  | ext φ => obtain ⟨_, e, _⟩ := x; exact e
theorem HOk.none_of {P : Program} {w : World} {H : Hp} {h : Heap} {a : Addr} (x : HOk P w H h) (e : h.get? a = none) : H a = none := by
  cases q : H a with
  | none => rfl
  | some o =>
    obtain ⟨ob, z⟩ := (x a o q).there
    rw [e] at z; cases z
theorem HOk.keepT {P : Program} {w : World} {H : Hp} {h h' : Heap} (x : HOk P w H h) (k : ∀ b o u, H b = some u → h.get? b = some o → h'.get? b = some o) : HOk P w H h' := fun a o e =>
  (x a o e).stay (fun b u hb q => by
    rcases hb with z | z
    · rw [z] at q ⊢; exact k a u o e q
    · exact k b u _ z q) (fun _ q => q) fun _ _ q => q
theorem Un.post {fs : List Addr} {H H' : Hp} {h h1 h2 : Heap} (u : Un fs [] H H' h h1) (k : ∀ b o p, h.get? b = some p → b ∉ fs → H' b = none → h1.get? b = some o → h2.get? b = some o)
    (sl : ∀ b o, b ∈ fs → h1.get? b = some o → ∃ sl, h2.get? b = some { o with slots := sl }) (th : ∀ b o p, h.get? b = some p → h1.get? b = some o → ∃ o', h2.get? b = some o') : Un fs [] H H' h h2 where
  keep := fun b o q n hb hx => k b o o q hb (u.free b o q n hx) (u.keep b o q n hb hx)
  slot := fun b o q n hb hx => by
    obtain ⟨s1, e1⟩ := u.slot b o q n hb hx
    obtain ⟨s2, e2⟩ := sl b _ hb e1
    exact ⟨s2, e2⟩
  free := u.free
  there := fun b o q hx => by
    obtain ⟨o1, e1⟩ := u.there b o q hx
    exact th b o1 o q e1
  tups := u.tups
  frzs := u.frzs
  tbls := u.tbls
theorem Un.less {fs fs' : List Addr} {H H' : Hp} {h h1 : Heap} (u : Un fs' [] H H' h h1) (hs : ∀ b ∈ fs, b ∈ fs') (hn : ∀ b ∈ fs', b ∉ fs → h.get? b = none) : Un fs [] H H' h h1 where
  keep := fun b o q n hb hx => u.keep b o q n (fun z => by rw [hn b z hb] at q; cases q) hx
  slot := fun b o q n hb hx => u.slot b o q n (hs b hb) hx
  free := u.free
  there := u.there
  tups := u.tups
  frzs := u.frzs
  tbls := u.tbls
end L2

/-! ===== Ext3 ===== -/
set_option Elab.async false
set_option linter.all false
set_option maxRecDepth 100000
set_option maxHeartbeats 4000000
namespace L2
open PySem PySem.Spec PyProof.Rows

/-! ### an exception in flight -/
structure Thrown (h0 h : Heap) (e C T : Addr) (dx : Option Addr) : Prop where
  n0 : h0.get? e = none
  t0 : h0.get? T = none
  ne : T ≠ e
  ob : ∃ oe vs, h.get? e = some oe ∧ oe.cls = .ref C ∧ oe.dict = dx ∧ oe.data = .fields vs ∧ vs[1]? = some (.ref T)
  tb : ∃ oT ts, h.get? T = some oT ∧ oT.data = .fields ts ∧ ts[3]? = some .none
def CXE (P : Program) (w : World) : CXT := fun outer H s E ev s' => ∃ e C T H', ev = .ref e ∧ s'.os = s.os ∧ AllBare s'.gens ∧ Un (frs outer) [] H H' s.heap s'.heap ∧ HOk P w H' s'.heap ∧ H' e = none ∧ H' T = none ∧
  Thrown s.heap s'.heap e C T none ∧ E (.ref C) none H'
theorem passE0 {X : Cx} {P : Program} {w : World} : Passes (CXE P w) X E0 := fun _ _ _ _ _ _ _ h => by
  obtain ⟨_, _, _, _, _, _, _, _, _, _, _, _, z⟩ := h
  exact z.elim
theorem mapF_cls (o : Obj) (f : Array Value → Array Value) : (o.mapFields f).dict = o.dict := by
  obtain ⟨c, d, dt, sl⟩ := o
  cases dt <;> rfl

section
variable {P : Program} {w : World} {K : PySem.W.Frag} {mg : Str → Option Value} {base : Heap} {N : List Str} {qual : Str} {scope : Scope} {f : Addr} {cd : Value} {A : Around} {outer : List Env} {s : Shared} {H : Hp} {E : XK}
theorem frame_own {X : Cx} {pins : List (Addr × Obj)} {σ : St} {H1 : Hp} {s1 : Shared} (I : Inv X pins σ H1 s1) (he : X.ex = []) {H2 : Hp} {h2 : Heap} (u : Un (frs X.stack) [] H1 H2 s1.heap h2) : Un X.fs [] X.H₀ H2 X.s₀.heap h2 := by
  have b0 := I.base
  rw [he] at b0
  have sub : ∀ b ∈ X.fs, b ∈ frs X.stack := fun b hb => by
    rcases I.ok.stk with e | ⟨e, hf⟩
    · rw [e]; exact hb
    · rw [e]; unfold frs; rw [List.filterMap_cons, hf]; exact List.mem_cons_of_mem _ hb
  refine Un.less ((b0.mono sub fun b z => z).trans u) sub fun b z nb => ?_
  rcases List.mem_cons.mp (I.stkSub b z) with e | z2
  · rw [e]; exact Heap.get?_none_of_le I.ok.above
  · exact absurd z2 nb
/-- raised here -/
theorem throw_fn {pins : List (Addr × Obj)} {σ : St} {H1 : Hp} {s1 : Shared} {h1 : Heap} {e C : Addr} {args : List Value} (I : Inv (cxOf (CXE P w) P w K mg base N qual scope f cd A outer s H E) pins σ H1 s1)
    (hx : Heap.MadeExcOf s1.heap h1 e (.ref C) args) (hE : E (.ref C) none H1) : (cxOf (CXE P w) P w K mg base N qual scope f cd A outer s H E).xe (.ref e) { s1 with heap := h1 } := by
  obtain ⟨t, e1, _⟩ := hx.there
  have I1 := I.kept (h' := h1) (t' := s1.toks) hx.keeps
  refine leave_ok (s := { s1 with heap := h1 }) I1.ok.frames I1.stack rfl e1 rfl (.inl rfl) fun h' T Nt => ?_
  have ne : ∀ b o, s1.heap.get? b = some o → b ≠ e := fun b o q z => by rw [z, hx.new] at q; cases q
  have u : Un (frs (cxOf (CXE P w) P w K mg base N qual scope f cd A outer s H E).stack) [] H1 H1 s1.heap h' :=
    (Un.kept (h := s1.heap) (h' := h1) hx.keeps).post (fun b o p q n _ r => Nt.keep b o n (ne b p q) (by simp) r) (fun b o n r => Nt.slot b o n r) (fun b o p q r => by
      by_cases hb : b ∈ frs (cxOf (CXE P w) P w K mg base N qual scope f cd A outer s H E).stack
      · obtain ⟨sl, z⟩ := Nt.slot b o hb r
        exact ⟨_, z⟩
      · exact ⟨o, Nt.keep b o hb (ne b p q) (by simp) r⟩)
  have tn : s1.heap.get? T = none := by
    cases q : s1.heap.get? T with
    | none => rfl
    | some o => have := hx.keeps _ _ q; rw [Nt.new] at this; cases this
  have hok : HOk P w H1 h' := HOk.keepT I.hok fun b o u q r => Nt.keep b o (fun z => by rw [I.stkFree b z] at q; cases q) (ne b o r) (by simp) (hx.keeps b o r)
  have base0 : ∀ {b : Addr}, s1.heap.get? b = none → s.heap.get? b = none := fun {b} q => by
    cases z : s.heap.get? b with
    | none => rfl
    | some o =>
      obtain ⟨o', r⟩ := I.base.there b o z (by intro y; exact absurd (show b ∈ ([] : List Addr) from y) (by simp))
      rw [q] at r; cases r
  refine ⟨e, C, T, H1, rfl, I.os, I.bare, frame_own I rfl u, hok, I.hok.none_of hx.new, I.hok.none_of tn, ⟨base0 hx.new, base0 tn, Nt.ne, ⟨_, _, Nt.exc, Obj.cls_mapFields _ _, mapF_cls _ _, Obj.data_mapFields rfl _, by simp⟩, Nt.tb⟩, hE⟩
end

/-! ### raise C(..), an own class whose making is ValueError's -/
abbrev bmV : List Value := [.type "ValueError", .type "Exception", .type "BaseException", .type "object"]
abbrev ExcK (K : PySem.W.Frag) (C : Addr) : Prop := PySem.W.excIn K C bmV "ValueError.__new__" = true
theorem exc_obj {K : PySem.W.Frag} {h : Heap} {C : Addr} (X : K.In h) (q : ExcK K C) : ∃ bm N nm qn bs hd sn sub ab col dd k0 k1 k2 k3 k5 mN,
    h.get? C = some (excClassObj nm qn C N bs bm hd sn sub ab col dd k0 k1 k2 k3 k5 "ValueError.__new__") ∧ h.Ns N mN ∧ mN "__init__" = none ∧ OwnTail h bmV bm := by
  have q : PySem.W.excIn K C bmV "ValueError.__new__" = true := q
  unfold PySem.W.excIn at q
  split at q
  · rename_i dd cd sl lk
    split at q
    · rename_i C1 bm a0 a1 a2 a3 n a5 em es
      simp only [Bool.and_eq_true, beq_iff_eq, Bool.not_eq_true'] at q
      obtain ⟨⟨⟨⟨⟨c1, c2⟩, c3⟩, c4⟩, c5⟩, c6⟩ := q
      subst c1 c2
      have ob := X _ _ lk
      obtain ⟨l⟩ := sl
      obtain ⟨nm, bs, mro, ns, qn, hd, sn, sub, ab, col, del⟩ := cd
      simp only at em es c3 c5 c6
      subst em es c3
      exact ⟨bm, ns, nm, qn, bs, hd, sn, sub, ab, col, dd, a0, a1, a2, a3, a5, _, ob, .of_isNs (PySem.W.isNs_of_in X c5), PySem.W.nsMap_none_of_in X c5 c6, PySem.W.tail_of_in X c4⟩
    · cases q
  · cases q
def tRaise (C : Addr) (E : XK) (t : TA) : TS := fun _ σ H => t σ H fun vs H1 => vs.length ≤ sizeLine ∧ E (.ref C) none H1
theorem ps_raise {X : Cx} {x : Str} {C : Addr} {e0 : Expr} {es : List Expr} {t : TA} {E : XK} {np cpos pos : Pos}
    (hth : ∀ (pins : List (Addr × Obj)) (σ : St) (H : Hp) (s : Shared) (h1 : Heap) (e : Addr) (args : List Value), Inv X pins σ H s → Heap.MadeExcOf s.heap h1 e (.ref C) args → E (.ref C) none H → X.xe (.ref e) { s with heap := h1 })
    (hc : X.calm = true) (hg : Gl X x) (hm : X.mg x = some (.ref C)) (q : ExcK X.K C) (ha : PA X (e0 :: es) t) (hd : (x == ("__debug__" : Str)) = false := by decide)
    (he : starEach (e0 :: es) X.env = (false, eval e0 X.env) :: starEach es X.env := by rfl) (hp : (backTo cpos (starEach es X.env)).any (·.1) = false := by rfl) :
    PS X (.Raise (some (.Call (.Name x np) (e0 :: es) [] cpos)) none pos) (tRaise C E t) := by
  intro pins s σ H D I h
  obtain ⟨bm, N, nm, qn, bs, hdt, sn, sub, ab, col, dd, k0, k1, k2, k3, k5, mN, hC, hN, hni, T⟩ := exc_obj I.mod.kin q
  refine wpAny_Raise_call_subT (C := C) (nm := nm) (q := qn) (N := N) (bs := bs) (bm := bm) (hdct := hdt) (sn := sn) (sub := sub) (ab := ab) (col := col) (dd := dd) (k0 := k0) (k1 := k1) (k2 := k2) (k3 := k3) (k5 := k5)
    PySem.F.excBase_ValueError (mN := mN) (T.hasType PySem.F.excBase_ValueError.hasBase) (I.ok.hd hc) (by rw [he]; show (false || (backTo cpos (starEach es X.env)).any (·.1)) = false; rw [hp]; rfl) hni (ld_glob I hg hm ⟨rfl, ?_⟩ hd)
  have hb := ha cpos pins s σ H _ I h
  rw [he] at hb ⊢
  exact Calls.evalArgs_plain (thn hb fun us s1 ⟨vs, H1, I1, r1, z1, z2⟩ => ⟨rfl, (by show us.length ≤ sizeLine; rw [← r1.length]; exact z1), I1.bk _ _ hC, hN.keeps I1.bk, T.keeps I1.bk, fun h' e hx => hth pins σ H1 s1 h' e us I1 hx z2⟩)

/-! ### a def with exceptions -/
section
variable {P : Program} {w : World} {K : PySem.W.Frag} {mg : Str → Option Value} {base : Heap}
end
end L2

/-! ===== Ext4 ===== -/
set_option Elab.async false
set_option linter.all false
set_option maxRecDepth 100000
set_option maxHeartbeats 4000000
namespace L2
open PySem PySem.Spec PyProof.Rows

/-! ### expressions and statements that may throw, the frame's names as they were -/
def CXX (X : Cx) (pins : List (Addr × Obj)) (σ : St) (E : XK) (ev : Value) (s' : Shared) : Prop := ∃ H s, Inv X pins σ H s ∧ CXE X.prog X.w X.stack H s E ev s'
abbrev TEX := St → Hp → VK → XK → Prop
def PEX (X : Cx) (e : Expr) (t : TEX) : Prop :=
  ∀ (pins : List (Addr × Obj)) (s : Shared) (σ : St) (H : Hp) (Q : VK) (E : XK), Inv X pins σ H s → t σ H Q E → wpAny (model X.prog X.w) X.A (eval e X.env) (EP X pins σ Q) (CXX X pins σ E) s
abbrev TSX := Ends → XK → St → Hp → Prop
def PSX (X : Cx) (st : List Stmt) (t : TSX) : Prop :=
  ∀ (pins : List (Addr × Obj)) (s : Shared) (σ : St) (H : Hp) (D : Ends) (E : XK), Inv X pins σ H s → t D E σ H → wpAny (model X.prog X.w) X.A (execs st X.env) (SP X pins D) (CXX X pins σ E) s
section
variable {X : Cx} {k : Nat} {f : Addr} {fd : FuncData} {ps : List Str} {sp : Sp} {dvs : List V} {ds : List Value} {x : Str} {p pos : Pos} {e : Expr} {es : List Expr} {t : TA}
def tCallX (sp : Sp) (dvs : List V) (t : TA) : TEX := fun σ H Q E => t σ H fun vs H1 => sp (vs ++ dvs) H1 Q E
theorem pex_call (F : FnOk X.prog X.w X.K X.mg X.base (CXE X.prog X.w) k f fd ps sp) (hr : Room k X.A) (hg : Gl X x) (hm : X.mg x = some (.ref f)) (hk : PySem.W.keepIn X.K (.ref f) = true) (hb : Binds X.K fd ps ds) (hd : Vals dvs ds)
    (ha : PA X.nox (e :: es) t) (hdb : (x == ("__debug__" : Str)) = false := by decide) (he : starEach (e :: es) X.env = (false, eval e X.env) :: starEach es X.env := by rfl) (hpl : (backTo pos (starEach es X.env)).any (·.1) = false := by rfl) :
    PEX X (.Call (.Name x p) (e :: es) [] pos) (tCallX sp dvs t) := by
  intro pins s σ H Q E I h
  refine wpAny_Call_Name_kw (ld_glob I hg hm ?_ hdb)
  refine PySem.W.callWith_K (h₀ := X.base) I.ok.mod.kin hk (wpAny_mono (ha pos pins s σ H _ (I.wish _) h) (fun us s1 ⟨vs, H1, I1, r, q⟩ => ⟨I1.unwish.kIn, ?_⟩) fun _ _ z => False.elim z) he hpl
  have I1' := I1.unwish
  have r2 : Vals (vs ++ dvs) (us ++ ds) := r.append hd
  have hl : (us ++ ds).length = ps.length := by rw [← r2.length]; exact F.len _ _ _ _ q
  refine wpAny_call (codeAny_mono (F.run X.A X.stack s1 H1 ⟨us, []⟩ (us ++ ds) (vs ++ dvs) Q E hr I1'.env0 (hb s1 us I1'.kIn hl) r2 q) fun r s' hq => ?_)
  cases r with
  | error ev => exact ⟨H1, s1, I1', hq⟩
  | ok fl =>
    cases fl with
    | ret u => exact I1'.after hq
    | next => exact False.elim hq
    | brk => exact False.elim hq
    | cont => exact False.elim hq
theorem psx_asg {i : Nat} {y : Str} {te : TEX} {py : Pos} (hN : X.N.Nodup) (hi : X.N[i]? = some y) (hx : Loc X.env.scope y) (he : PEX X e te) (hs : swapsWith e (some (.Name y py)) pos.line X.env = pure false := by rfl)
    (hf : X.fn y = true ∨ X.env.scope.names.lookup y = some .local := by first | exact .inl rfl | exact .inr rfl | assumption) :
    PSX X [.Assign [.Name y py] e pos] (fun D E σ H => te σ H (fun v H1 => D.nx (σ.set i (some v)) H1) E) := by
  intro pins s σ H D E I h
  refine wpAny_execs_cons (wpAny_Assign_Name (wpAny_mono (he pins s σ H _ E I h) (fun u s1 ⟨v, H1, I1, r1, q1⟩ => ?_) fun _ _ z => z) hs)
  exact store_ok I1 hN hi hx r1 (fun s2 I2 => wpAny_execs_nil ⟨_, H1, I2, q1⟩) hf
end

/-! ### caught -/
/-- an exception of the class at C, without attributes -/
def excAt (C e : Addr) (h : Heap) : Prop := ∃ o, h.get? e = some o ∧ o.cls = .ref C ∧ o.dict = none ∧ PySem.W.notCls o = true
def ExcO (C e : Addr) : HO := .ext (excAt C e)
theorem excO_ok {P : Program} {w : World} {H : Hp} {h : Heap} {C e : Addr} (x : excAt C e h) : ObjOk P w H h e (ExcO C e) := by
  obtain ⟨o, q⟩ := id x
  exact ⟨x, ⟨o, q.1⟩, fun h1 h2 ⟨o, a, b⟩ k => ⟨o, k o a, b⟩⟩
theorem caught_inv {X : Cx} {pins : List (Addr × Obj)} {σ : St} {H H' : Hp} {s s' : Shared} {e C T L T' : Addr} {oe : Obj} {vs : Array Value} {h3 : Heap} (I : Inv X pins σ H s) (os : s'.os = s.os) (bare : AllBare s'.gens)
    (un : Un (frs X.stack) [] H H' s.heap s'.heap) (hok : HOk X.prog X.w H' s'.heap) (he : H' e = none) (hT : H' T = none) (n0 : s.heap.get? e = none) (t0 : s.heap.get? T = none) (q5 : vs[1]? = some (.ref T))
    (c1 : oe.cls = .ref C) (c2 : oe.dict = none) (c3 : oe.data = .fields vs) (Nt : Noted (frs X.stack) e L oe vs s'.heap h3 T' .none) : Inv X pins σ (upd H' e (ExcO C e)) { s' with heap := h3 } := by
  have I2 := I.call' os un hok bare (fun _ z => nomatch z)
  have ne1 : ∀ b o, s.heap.get? b = some o → b ≠ e := fun b o q z => by rw [z, n0] at q; cases q
  have ne2 : ∀ b o, s.heap.get? b = some o → vs[1]? ≠ some (.ref b) := fun b o q z => by rw [q5] at z; cases z; rw [t0] at q; cases q
  have u : Un (frs X.stack) [] H H' s.heap h3 :=
    un.post (fun b o p q n _ r => Nt.keep b o n (ne1 b p q) (ne2 b p q) r) (fun b o n r => Nt.slot b o n r) (fun b o p q r => by
      by_cases hb : b ∈ frs X.stack
      · obtain ⟨sl, z⟩ := Nt.slot b o hb r
        exact ⟨_, z⟩
      · exact ⟨o, Nt.keep b o hb (ne1 b p q) (ne2 b p q) r⟩)
  have hok2 : HOk X.prog X.w H' h3 := HOk.keepT hok fun b o u q r => Nt.keep b o (fun z => by rw [I2.stkFree b z] at q; cases q) (fun z => by rw [z, he] at q; cases q) (fun z => by rw [q5] at z; cases z; rw [hT] at q; cases q) r
  have ne3 : ∀ b u, H' b = some u → b ≠ e := fun b u q z => by rw [z, he] at q; cases q
  have u2 : Un (frs X.stack) [] H (upd H' e (ExcO C e)) s.heap h3 :=
    ⟨u.keep, u.slot, fun b o q n hx => by rw [upd_ne (ne1 b o q)]; exact u.free b o q n hx, u.there, fun b xs q => by rw [upd_ne (ne3 b _ (u.tups b xs q))]; exact u.tups b xs q,
     fun b o xs q => by rw [upd_ne (ne3 b _ (u.frzs b o xs q))]; exact u.frzs b o xs q, fun b p q => by
      obtain ⟨m, z⟩ := u.tbls b p q
      exact ⟨m, by rw [upd_ne (ne3 b _ z)]; exact z⟩⟩
  have ex : excAt C e h3 := ⟨_, Nt.exc, (Obj.cls_mapFields _ _).trans c1, (mapF_cls _ _).trans c2, by
    unfold PySem.W.notCls
    rw [Obj.data_mapFields c3]⟩
  have hok3 : HOk X.prog X.w (upd H' e (ExcO C e)) h3 := fun b o q => by
    by_cases hb : b = e
    · subst hb
      rw [upd_same] at q; cases q
      exact excO_ok ex
    · rw [upd_ne hb] at q
      exact (hok2 b o q).stay (fun _ _ _ r => r) (fun c r => by rw [upd_ne (ne3 c _ r)]; exact r) fun c xs r => by rw [upd_ne (ne3 c _ r)]; exact r
  exact I.call' (s' := { s' with heap := h3 }) os u2 hok3 bare (fun _ z => nomatch z)
structure CatchK (K : PySem.W.Frag) (D : Addr) : Prop where
  tup : PySem.W.instIn K (.ref D) (.type "tuple") = some false
  cls : (PySem.W.clsIn K D).isSome = true
  exc : PySem.W.mroIn K D (.type "BaseException") = some true
theorem looks_isType {K : PySem.W.Frag} {M : Model} {h : Heap} {D : Addr} (X : K.In h) (c : (PySem.W.clsIn K D).isSome = true) : PySem.W.Looks M h (isType (.ref D)) true := by
  unfold PySem.W.clsIn at c
  split at c
  · rename_i a b cd sl lk
    intro A Q E s k q
    unfold isType loadHead
    exact wpAny_bind (wpAny_loadPart (k _ _ (X _ _ lk)) (wpAny_pure q))
  · cases c
theorem matches_ok {K : PySem.W.Frag} {M : Model} {A : Around} {E : Value → Shared → Prop} {s : Shared} {e C D : Addr} {o : Obj} {Q : Bool → Shared → Prop} (X : K.In s.heap) (c : CatchK K D) (sub : PySem.W.mroIn K C (.ref D) = some true)
    (he : s.heap.get? e = some o) (hc : o.cls = .ref C) (h : Q true s) : wpAny M A (excMatches (.ref e) (.ref D)) Q E s := by
  have l1 := PySem.W.looks_instIn (M := M) X c.tup
  have l2 := looks_isType (M := M) X c.cls
  have l3 := PySem.W.looks_mroIn (M := M) X c.exc
  have l4 := PySem.W.looks_mroIn (M := M) X sub
  obtain ⟨hh, g, d, t, os⟩ := s
  unfold excMatches
  refine wpAny_bind (l1.at ?_)
  simp only [Bool.false_eq_true, if_false, pure_bind, List.forIn_cons, List.forIn_nil]
  refine wpAny_bind (wpAny_bind (wpAny_bind ?_))
  unfold isExcClass
  refine wpAny_bind (l2.at ?_)
  rw [if_pos rfl]
  refine l3.at ?_
  simp only [Bool.not_true, Bool.false_eq_true, if_false]
  refine wpAny_pure (wpAny_pure ?_)
  refine wpAny_bind (wpAny_typeOf_ref he ?_)
  rw [hc]
  refine wpAny_bind (wpAny_bind (wpAny_bind (l4.at ?_)))
  rw [if_pos rfl]
  exact wpAny_pure (wpAny_pure (wpAny_pure h))

/-! ### try .. except D as n -/
theorem Inv.relocal {X : Cx} {pins : List (Addr × Obj)} {σ σ' : St} {H : Hp} {s : Shared} {h' : Heap} {m' : Str → Option Value} {tk : Nat} (I : Inv X pins σ H s) (hs : Heap.SameBut X.env.locals s.heap h') (hn : h'.Ns X.env.locals m')
    (hl : ∀ (i : Nat) (x : Str) (v : V), X.N[i]? = some x → σ'[i]? = some (some v) → Vis X.env.scope x → ∃ u, RelV v u ∧ Look X.env h' m' x u) (len : σ'.length = σ.length) : Inv X pins σ' H { s with heap := h', toks := tk } := by
  have neL : ∀ b o, X.s₀.heap.get? b = some o → b ≠ X.env.locals := fun b o e => Nat.ne_of_lt (Nat.lt_of_lt_of_le (Heap.lt_size e) I.ok.above)
  refine ⟨I.ok, I.os, I.bare, ⟨fun b o e n hb hx => (hs.2 b (neL b o e)).trans (I.base.keep b o e n hb hx), fun b o e n hb hx => ?_, I.base.free, fun b o e hx => ?_, I.base.tups, I.base.frzs, I.base.tbls⟩, ⟨m', hn, hl⟩, fun y c e => ?_, I.free, I.freeC, fun p hp => ?_, ?_, len.trans I.len⟩
  · obtain ⟨sl, z⟩ := I.base.slot b o e n hb hx
    exact ⟨sl, (hs.2 b (neL b o e)).trans z⟩
  · obtain ⟨o', z⟩ := I.base.there b o e hx
    exact ⟨o', (hs.2 b (neL b o e)).trans z⟩
  · obtain ⟨w', z⟩ := I.cell y c e
    exact ⟨w', z.sameBut hs (I.cne y c e)⟩
  · obtain ⟨a, b, c, d, f⟩ := I.pin p hp
    exact ⟨(hs.2 p.1 c).trans a, b, c, d, f⟩
  · exact HOk.keepT I.hok fun b o u q r => (hs.2 b fun z => by rw [z, I.free] at q; cases q).trans r
/-- the name goes behind the suite -/
theorem goes_ok {X : Cx} {M : Model} {A : Around} {E : Value → Shared → Prop} {pins : List (Addr × Obj)} {σ : St} {H : Hp} {s : Shared} {j : Nat} {n : Str} {pos : Pos} {Q : Unit → Shared → Prop} (I : Inv X pins σ H s) (hN : X.N.Nodup) (hj : X.N[j]? = some n)
    (hx : X.env.scope.names.lookup n = some .local) (h : ∀ s', Inv X pins (σ.set j none) H s' → Q () s') : wpAny M A (do bindName X.env n .none; unbindBehindTheSuite X.env n pos) Q E s := by
  obtain ⟨m, hn, hl⟩ := I.loc
  refine wpAny_nameGoes_keeps hx hn (by rw [I.ok.kind]; rfl) fun h' v hn' hs => h _ (I.relocal hs hn' (fun i x w e1 e2 e3 => ?_) (by simp))
  have hij : i ≠ j := fun z => by
    subst z
    rw [List.getElem?_set] at e2
    simp at e2
  rw [List.getElem?_set_ne (Ne.symm hij)] at e2
  obtain ⟨u, r, q⟩ := hl i x w e1 e2 e3
  refine ⟨u, r, ?_⟩
  rcases q with ⟨k, e⟩ | ⟨k, c, e, z⟩
  · refine .inl ⟨k, ?_⟩
    have : x ≠ n := fun e => hij (nodup_ix hN e1 (e ▸ hj))
    simp [this, e]
  · exact .inr ⟨k, c, e, z.sameBut hs (I.cne x c e)⟩
/-- within an except suite -/
abbrev Cx.held (X : Cx) (e : Addr) : Cx := { X with A := X.A.mark (some (.ref e)), calm := false, xe := fun _ _ => False }
theorem Inv.held {X : Cx} {pins : List (Addr × Obj)} {σ : St} {H : Hp} {s : Shared} (I : Inv X pins σ H s) (e : Addr) : Inv (X.held e) pins σ H s :=
  ⟨⟨I.ok.mod, I.ok.kind, I.ok.glob, I.ok.blt, I.ok.above, I.ok.inj, I.ok.has, I.ok.cab, (fun z => nomatch z), I.ok.frames, I.ok.stk, I.ok.exf, I.ok.bs, I.ok.bsz, I.ok.noex, I.ok.exfs, I.ok.funs, I.ok.frf⟩, I.os, I.bare, I.base, I.loc, I.cell, I.free, I.freeC, I.pin, I.hok, I.len⟩
theorem Inv.unheld {X : Cx} {pins : List (Addr × Obj)} {σ : St} {H : Hp} {s : Shared} {e : Addr} (ok : X.Ok) (I : Inv (X.held e) pins σ H s) : Inv X pins σ H s := ⟨ok, I.os, I.bare, I.base, I.loc, I.cell, I.free, I.freeC, I.pin, I.hok, I.len⟩
def Ends.drop (D : Ends) (j : Nat) : Ends := { nx := fun σ H => D.nx (σ.set j none) H, rt := D.rt, bk := fun σ H => D.bk (σ.set j none) H, ct := fun σ H => D.ct (σ.set j none) H }
def tTryAs (K : PySem.W.Frag) (D : Addr) (j : Nat) (tb : TSX) (th : TS) : TS := fun En σ H => tb En (fun c d H1 => ∃ C, c = .ref C ∧ PySem.W.mroIn K C (.ref D) = some true ∧ ∀ e, H1 e = none → th (En.drop j) (σ.set j (some (.ref e))) (upd H1 e (ExcO C e))) σ H
theorem ps_try_as {X : Cx} {body : List Stmt} {tb : TSX} {th : TS} {d n : Str} {D : Addr} {j : Nat} {b0 : Stmt} {suite : List Stmt} {pd hpos pos : Pos} (hb : PSX X body tb) (hN : X.N.Nodup) (hj : X.N[j]? = some n) (hx : X.env.scope.names.lookup n = some .local)
    (hst : X.stack = X.env :: X.outer) (hL : X.env.frame = some X.env.locals) (hg : Gl X d) (hm : X.mg d = some (.ref D)) (c : CatchK X.K D) (hs : ∀ e, PSs (X.held e) (b0 :: suite) th) (hd : (d == ("__debug__" : Str)) = false := by decide) :
    PS X (.Try body [.ExceptHandler (some (.Name d pd)) (some n) (b0 :: suite) hpos] [] [] pos) (tTryAs X.K D j tb th) := by
  intro pins s σ H En I h
  refine wpAny_Try_except (wpAny_mono (hb pins s σ H _ _ I h) (fun f s1 q => ?_) fun ev s1 q => ?_)
  · cases f with
    | next => exact wpAny_execs_nil q
    | brk => exact q
    | cont => exact q
    | ret v => exact q
  · obtain ⟨H0, s0, I0, e, C, T, H1, rfl, os, bare, un, hok, he, hT, ⟨n0, t0, ne, ⟨oe, vs, q1, q2, q3, q4, q5⟩, ⟨oT, ts, r1, r2, r3⟩⟩, C', hC', sub, hw⟩ := q
    cases hC'
    have I1 := I0.call' os un hok bare (fun _ z => nomatch z)
    have hz : 1 < vs.size := (Array.getElem?_eq_some_iff.mp q5).1
    have fr : X.A.frames = some (X.env :: X.outer) := by rw [← hst]; exact I.ok.frames
    have st1 : s1.heap.FunFrames X.base (X.env :: X.outer) := by rw [← hst]; exact I1.stack
    refine note_ok fr st1 hL q1 q4 (.inr ⟨T, oT, ts, q5, ne, r1, r2, r3⟩) fun h1 T' N1 => ?_
    have tf : T' ∉ frs (X.env :: X.outer) := fun z => by
      obtain ⟨_, o, ho, _⟩ := st1.mem z
      rw [N1.new] at ho; cases ho
    refine land_ok (s := { s1 with heap := h1 }) N1 q4 hz tf fun h2 N2 => ?_
    have N2' : Noted (frs X.stack) e X.env.locals oe vs s1.heap h2 T' .none := by rw [hst]; exact N2
    have I2 := caught_inv I0 os bare un hok he hT n0 t0 q5 q2 q3 q4 N2'
    refine wpAny_handleBy_cons (codeAny_handlers_test (ld_glob (I2.held e) hg hm ?_ hd)) (by intro z; cases z)
    refine matches_ok I2.kIn c sub N2.exc ((Obj.cls_mapFields _ _).trans q2) ?_
    show codeAny _ _ _ _ _
    refine codeAny_handlers_suite_as ?_
    refine land_ok (s := { s1 with heap := h2 }) N2 q4 hz tf fun h3 N3 => ?_
    have N3' : Noted (frs X.stack) e X.env.locals oe vs s1.heap h3 T' .none := by rw [hst]; exact N3
    have I3 := caught_inv I0 os bare un hok he hT n0 t0 q5 q2 q3 q4 N3'
    refine store_ok I3 hN hj (.inl hx) (v := .ref e) rfl (fun s4 I4 => ?_) (.inr hx)
    refine wpAny_mono (hs e pins s4 _ _ _ (I4.held e) (hw e he)) (fun f s5 q => ?_) fun _ _ z => False.elim z
    show wpAny _ _ _ _ _ _
    cases f with
    | next =>
      obtain ⟨σ5, H5, I5, q⟩ := q
      exact goes_ok (I5.unheld I.ok) hN hj hx fun s6 I6 => ⟨_, _, I6, q⟩
    | brk =>
      obtain ⟨σ5, H5, I5, q⟩ := q
      exact goes_ok (I5.unheld I.ok) hN hj hx fun s6 I6 => ⟨_, _, I6, q⟩
    | cont =>
      obtain ⟨σ5, H5, I5, q⟩ := q
      exact goes_ok (I5.unheld I.ok) hN hj hx fun s6 I6 => ⟨_, _, I6, q⟩
    | ret u =>
      obtain ⟨v5, σ5, H5, I5, r5, q⟩ := q
      exact goes_ok (I5.unheld I.ok) hN hj hx fun s6 I6 => ⟨_, _, _, I6, r5, q⟩
end L2

/-! ===== ExcA ===== -/
set_option Elab.async false
set_option linter.all false
set_option maxRecDepth 100000
set_option maxHeartbeats 1000000
namespace L2
open PySem PySem.Spec PyProof.Rows
/-- what is asked of an exception's class -/
structure ClsX (K : PySem.W.Frag) (C : Addr) : Prop where
  ga : PySem.W.findIn K (.ref C) "__getattribute__" = some (some (.builtin "BaseException.__getattribute__"))
  no : PySem.W.findIn K (.ref C) "__getattr__" = some none
  hd : PySem.W.hasDictIn K C = true
  ha : PySem.W.findIn K (.ref C) "__class__" = some (some (.builtin "object.__class__"))
  hn : PySem.W.specialIn K (.builtin "object.__class__") "__get__" = some (some (.builtin "getset_descriptor.__get__"))
  ht : PySem.W.takesIn K (.builtin "object.__class__") = some true
  hm : PySem.W.mroIn K C (.type "object") = some true
  hb : PySem.W.mroIn K C (.type "BaseException") = some true
section
variable {prog : Program} {w : World} {A : Around} {E : Value → Shared → Prop} {K : PySem.W.Frag} {C e : Addr} {ox : Obj} {od : Option Obj}
theorem ga_class {s : Shared} {tk : Tok} {Q : Fin → Shared → Prop} (c : ClsX K C) (X : K.In s.heap) (I : PySem.W.InstAt s.heap e ox C od) (h : Q (.done (.ret (.ref C))) s) :
    wpAny (model prog w) A (Builtin.«object.__getattribute__» ⟨[.ref e, .str "__class__" tk], []⟩) Q E s := by
  have hf : PySem.W.findObj K C od "__class__" = some (.bind (.builtin "getset_descriptor.__get__") (.builtin "object.__class__")) := by
    obtain ⟨cd, q, _⟩ := PySem.W.any_some c.hd
    unfold PySem.W.findObj
    rw [q, Option.bind_some, c.ha, Option.bind_some]
    simp [c.hn, c.ht]
  obtain ⟨hh, gg, d, t, os⟩ := s
  have L0 := I.type (M := model prog w)
  have L1 := PySem.W.looks_find (M := model prog w) X I hf
  unfold Builtin.«object.__getattribute__»
  repeat (first | with_reducible refine L0.at ?_ | with_reducible refine L1.at ?_ | wp_step)
  exact PySem.W.class_get (ox := ox) (od := od) X I c.hm (wpAny_pure h)
theorem ga_check {M : Model} {s : Shared} {nameV : Value} {Q : Unit → Shared → Prop} (c : ClsX K C) (X : K.In s.heap) (I : PySem.W.InstAt s.heap e ox C od) (h : Q () s) :
    wpAny M A (checkBuiltinCall "BaseException.__getattribute__" ⟨[.ref e, nameV], []⟩) Q E s := by
  have hk : builtinKind "BaseException.__getattribute__" = some .slot := by decide +kernel
  have hs : splitId "BaseException.__getattribute__" = some ("BaseException", "__getattribute__") := by decide +kernel
  have ha := F.args_bexc_ga (.ref e) nameV
  have LI : PySem.W.Looks M s.heap (isInstance (.ref e) (.type "BaseException")) true := (I.type (M := M)).andThen (PySem.W.looks_mroIn X c.hb)
  obtain ⟨hh, gg, d, t, os⟩ := s
  simp only [checkBuiltinCall, hk, hs]
  refine wpAny_bind (LI.at ?_)
  repeat (first | assumption | wp_step)
theorem exc_class {s : Shared} {Q : Option Value → Shared → Prop} (c : ClsX K C) (X : K.In s.heap) (I : PySem.W.InstAt s.heap e ox C od) (h : Q (some (.ref C)) { s with toks := s.toks + 1 }) :
    wpAny (model prog w) A (getAttr? (.ref e) "__class__") Q E s := by
  obtain ⟨hh, gg, d, t, os⟩ := s
  have L0 := I.type (M := model prog w)
  have L1 := PySem.W.looks_findIn (M := model prog w) X c.ga
  have L2 := PySem.W.looks_findIn (M := model prog w) X c.no
  have f3 := PySem.F.attr_ValueError.ga.bind (.ref e)
  unfold getAttr? getAttrBy? getAttrBy
  refine wpAny_bind (wpAny_mkText (wpAny_bind (wpAny_attempt (wpAny_holding (wpAny_bind (L0.at (wpAny_bind (L1.at ?_))))))))
  have e1 : (onTheHeap (Value.ref C) && Value.builtin "BaseException.__getattribute__" == Value.builtin "object.__getattribute__") = false := by rw [show (Value.builtin "BaseException.__getattribute__" == Value.builtin "object.__getattribute__") = false from by decide +kernel, Bool.and_false]
  dsimp only
  rw [e1]
  simp only [Bool.false_eq_true, if_false]
  unfold getAttrByItsOwn hookBefore
  repeat (first | with_reducible refine L2.at ?_ | assumption | wp_step)
  refine codeAny_call_builtin PySem.F.attr_ValueError.ga.plain F.entry_bexc_ga (ga_check c X I (ga_class c X I ?_))
  show wpAny (model prog w) A (handedOut (.ref C)) _ _ _
  exact PySem.W.handed_on rfl (wpAny_pure h)
end
end L2

/-! ===== Ext5 ===== -/
set_option Elab.async false
set_option linter.all false
set_option maxRecDepth 100000
set_option maxHeartbeats 4000000
namespace L2
open PySem PySem.Spec PyProof.Rows

/-! ### isinstance -/
theorem kitx_exc {K : PySem.W.Frag} {C e : Addr} (c : ClsX K C) : PySem.W.KitX K (.ref e) (.ref C) (excAt C e) where
  ty := fun M h _ ⟨o, h1, h2, _⟩ => h2 ▸ (PySem.W.Looks.ld h1).andThen .now
  it := fun M h X _ => by
    obtain ⟨cd, q, _⟩ := PySem.W.any_some c.hd
    exact looks_isType X (by rw [q]; rfl)
  ne := fun h tp dd its n sl X htp => by
    obtain ⟨cd, q, _⟩ := PySem.W.any_some c.hd
    refine Bool.eq_false_iff.mpr fun z => ?_
    have e : C = tp := Value.ref.inj (beq_iff_eq.mp z)
    subst e
    unfold PySem.W.clsIn at q
    split at q
    · rename_i lk
      have z := (X _ _ lk).symm.trans htp
      cases z
    · cases q
  ca := fun {prog w A E Q s} X ⟨o, h1, h2, h3, h4⟩ k => by
    have I : PySem.W.InstAt s.heap e o C none := ⟨h1, h2, h4, by rw [h3]; exact trivial⟩
    exact exc_class c X I k
inductive TyX (K : PySem.W.Frag) (H : Hp) : V → Value → Prop where
  | of {x : V} {t : Value} (h : TyOf K H x t) : TyX K H x t
  | exc {C e : Addr} (h : H e = some (ExcO C e)) (c : ClsX K C) : TyX K H (.ref e) (.ref C)
def clsV : V → Option Value
  | .ty n => some (.type n)
  | .ref a => some (.ref a)
  | _ => none
theorem clsV_rel {c : V} {u cv : Value} (h : clsV c = some cv) (r : RelV c u) : u = cv := by
  cases c with
  | ty n => cases h; exact r
  | ref a => cases h; exact r
  | _ => cases h
theorem clsV_all : ∀ {xs : List V} {us cs : List Value}, Vals xs us → xs.map clsV = cs.map some → us = cs
  | _, _, [], .nil, _ => rfl
  | _, _, _ :: _, .nil, h => by simp at h
  | _, _, [], .cons _ _, h => by simp at h
  | _, _, c :: cs, .cons r t, h => by
    simp only [List.map_cons, List.cons.injEq] at h
    rw [clsV_rel h.1 r, clsV_all t h.2]
section
variable {X : Cx}
def rIsi (K : PySem.W.Frag) : List V → Hp → VK → Prop := fun vs H Q => ∃ x c t b, vs = [x, c] ∧ TyX K H x t ∧ ((∃ cv, clsV c = some cv ∧ PySem.W.kitOne K t cv = some b) ∨ ∃ p xs cs, c = .ref p ∧ SqT K H p xs ∧ xs.map clsV = cs.map some ∧ PySem.W.kitAny K t cs = some b) ∧ Q (.bl b) H
theorem kitx_of {pins : List (Addr × Obj)} {σ : St} {H : Hp} {s : Shared} {x : V} {t u : Value} (I : Inv X pins σ H s) (rx : RelV x u) (ty : TyX X.K H x t) : ∃ HH, PySem.W.KitX X.K u t HH ∧ HH s.heap ∧ u ≠ .builtin "__main__.__loader__#opaque" := by
  cases ty with
  | exc h c =>
    cases (show u = _ from rx)
    obtain ⟨p, _⟩ := I.hok _ _ h
    exact ⟨_, kitx_exc c, p, fun z => nomatch z⟩
  | of ty =>
    cases ty with
    | non => cases (show u = Value.none from rx); exact ⟨_, PySem.W.kitx_none, trivial, fun z => nomatch z⟩
    | bl y => cases (show u = Value.bool y from rx); exact ⟨_, PySem.W.kitx_bool, trivial, fun z => nomatch z⟩
    | int i => obtain ⟨t, q⟩ := (show ∃ t, u = Value.int i t from rx); cases q; exact ⟨_, PySem.W.kitx_int, trivial, fun z => nomatch z⟩
    | str y => obtain ⟨t, q⟩ := (show ∃ t, u = Value.str y t from rx); cases q; exact ⟨_, PySem.W.kitx_str, trivial, fun z => nomatch z⟩
    | flt y => obtain ⟨t, q⟩ := (show ∃ t, u = Value.float y t from rx); cases q; exact ⟨_, PySem.W.kitx_float, trivial, fun z => nomatch z⟩
    | @lst a xs ea =>
      cases (show u = Value.ref a from rx)
      obtain ⟨_, _, n, _, h1⟩ := (show ObjOk X.prog X.w H s.heap a (.lst xs) from I.hok a _ ea)
      exact ⟨_, PySem.W.kitx_list, ⟨_, h1, rfl⟩, fun z => nomatch z⟩
    | @frz a ob xs ea =>
      cases (show u = Value.ref a from rx)
      obtain ⟨_, _, _, n, _, h1⟩ := (show ObjOk X.prog X.w H s.heap a (.frz ob (.lst xs)) from I.hok a _ ea)
      exact ⟨_, PySem.W.kitx_list, ⟨_, h1, rfl⟩, fun z => nomatch z⟩
    | @tup a xs ea =>
      cases (show u = Value.ref a from rx)
      obtain ⟨_, _, _, p⟩ := (show ObjOk X.prog X.w H s.heap a (.tup xs) from I.hok a _ ea)
      obtain ⟨o, h1, h2, _⟩ := p
      exact ⟨_, PySem.W.kitx_tuple, ⟨o, h1, h2⟩, fun z => nomatch z⟩
    | @dK a kvs ea =>
      cases (show u = Value.ref a from rx)
      obtain ⟨_, _, vs, _, p⟩ := (show ObjOk X.prog X.w H s.heap a (.dK kvs) from I.hok a _ ea)
      obtain ⟨o, es, ep, h1, h2, _⟩ := p
      exact ⟨_, PySem.W.kitx_dict, ⟨o, h1, h2.1⟩, fun z => nomatch z⟩
    | @dT a kvs ea =>
      cases (show u = Value.ref a from rx)
      obtain ⟨_, _, xs, _, o, es, ep, h1, h2, _⟩ := (show ObjOk X.prog X.w H s.heap a (.dT kvs) from I.hok a _ ea)
      exact ⟨_, PySem.W.kitx_dict, ⟨o, h1, h2.1⟩, fun z => nomatch z⟩
    | @ins a C dx fs ea cl ha hn htk hm =>
      cases (show u = Value.ref a from rx)
      obtain ⟨mA, O, _⟩ := ins_get I.hok ea
      obtain ⟨od, J, _⟩ := O.look
      exact ⟨_, PySem.W.kitx_own (cl.get _) cl.hd ha hn htk hm, J, fun z => nomatch z⟩
theorem call_isi : CallR X (.builtin "isinstance") (rIsi X.K) := by
  intro pins s σ H xs us Q I r h
  obtain ⟨x, c, t, b, rfl, ty, hc, q⟩ := h
  obtain ⟨u, v, rfl, rx, rc⟩ := vals2 r
  obtain ⟨HH, Z, p, hx⟩ := kitx_of I rx ty
  rcases hc with ⟨cv, e1, e2⟩ | ⟨a, xs, cs, rfl, hs, e1, e2⟩
  · rw [clsV_rel e1 rc]
    exact PySem.W.kia_one Z I.kIn p e2 hx fun tk => ⟨.bl b, H, I.tok tk, rfl, q⟩
  · cases (show v = Value.ref a from rc)
    obtain ⟨its, rv, ⟨o, h1, h2, n, h3⟩, _⟩ := I.tuple hs
    have e3 := clsV_all rv e1
    subst e3
    obtain ⟨oc, od, oda, osl⟩ := o
    simp only at h2 h3
    subst h2 h3
    exact PySem.W.kia_tup Z I.kIn p h1 e2 hx fun tk => ⟨.bl b, H, I.tok tk, rfl, q⟩
theorem boot_isi : bootBuiltins "isinstance" = some (.builtin "isinstance") := by decide +kernel

/-! ### tuples of flat values, alike or not -/
def eAt (xs ys : List V) (j : Nat) : Bool := match xs[j]?, ys[j]? with
  | some x, some y => eqV x y
  | _, _ => false
theorem eqVs_all : ∀ xs ys : List V, ((List.range (min xs.length ys.length)).all (eAt xs ys) && xs.length == ys.length) = eqVs xs ys
  | [], [] => rfl
  | [], _ :: _ => by simp [eqVs]
  | _ :: _, [] => by simp [eqVs]
  | x :: xs, y :: ys => by
    have ih := eqVs_all xs ys
    show _ = (eqV x y && eqVs xs ys)
    rw [← ih]
    have e1 : min (x :: xs).length (y :: ys).length = (min xs.length ys.length) + 1 := by simp only [List.length_cons]; omega
    rw [e1, List.range_succ_eq_map, List.all_cons, List.all_map]
    have e2 : (eAt (x :: xs) (y :: ys)) 0 = eqV x y := rfl
    have e3 : (eAt (x :: xs) (y :: ys)) ∘ Nat.succ = eAt xs ys := by
      funext j
      simp [eAt, Function.comp]
    have e4 : ((x :: xs).length == (y :: ys).length) = (xs.length == ys.length) := by
      rw [Bool.eq_iff_iff]
      simp
    rw [e2, e3, e4, Bool.and_assoc]
def rEqT (K : PySem.W.Frag) (neg : Bool) : R2 := fun x y H Q => ∃ a b xs ys, x = .ref a ∧ y = .ref b ∧ SqT K H a xs ∧ SqT K H b ys ∧ xs.all flatV = true ∧ ys.all flatV = true ∧ Q (.bl (if neg then !eqVs xs ys else eqVs xs ys)) H
theorem items_eq {A : Around} {s : Shared} {xs ys : List V} {us vs : List Value} (r1 : Vals xs us) (r2 : Vals ys vs) (f1 : xs.all flatV = true) (f2 : ys.all flatV = true) :
    ∀ j (h1 : j < us.toArray.size) (h2 : j < vs.toArray.size), SeqAt.EqAt A s us.toArray[j] vs.toArray[j] (eAt xs ys j) := fun j h1 h2 => by
  have l1 : j < xs.length := by rw [r1.length]; simpa using h1
  have l2 : j < ys.length := by rw [r2.length]; simpa using h2
  obtain ⟨u, q1, z1⟩ := r1.get (i := j) (x := xs[j]) (by simp [l1])
  obtain ⟨v, q2, z2⟩ := r2.get (i := j) (x := ys[j]) (by simp [l2])
  have e1 : us.toArray[j] = u := by
    have : us[j]? = some us.toArray[j] := by simp
    rw [this] at q1; exact Option.some.inj q1
  have e2 : vs.toArray[j] = v := by
    have : vs[j]? = some vs.toArray[j] := by simp
    rw [this] at q2; exact Option.some.inj q2
  have e3 : eAt xs ys j = eqV xs[j] ys[j] := by simp [eAt, l1, l2]
  rw [e1, e2, e3]
  exact eqAt_V z1 z2 (List.all_eq_true.mp f1 _ (List.getElem_mem l1)) (List.all_eq_true.mp f2 _ (List.getElem_mem l2))
theorem op_eqT (hu : X.A.units < cLine) : OpR X (compareOp .Eq) (rEqT X.K false) := by
  intro pins s σ H x y v u Q I rx ry h
  obtain ⟨a, b, xs, ys, rfl, rfl, ha, hb, f1, f2, q⟩ := h
  cases rx
  cases ry
  obtain ⟨its, r1, p1, _⟩ := I.tuple ha
  obtain ⟨its2, r2, p2, _⟩ := I.tuple hb
  refine SeqAt.eq_tupleAt (show s.heap.IsTuple a its.toArray from p1) (show s.heap.IsTuple b its2.toArray from p2) hu (items_eq r1 r2 f1 f2) ⟨.bl _, H, I, rfl, ?_⟩
  have e : ((List.range (min its.toArray.size its2.toArray.size)).all (eAt xs ys) && its.toArray.size == its2.toArray.size) = eqVs xs ys := by
    rw [← eqVs_all, List.size_toArray, List.size_toArray, ← r1.length, ← r2.length]
  rw [e]
  exact q
end

/-! ### an empty dict -/
end L2

/-! ===== Ext6 ===== -/
set_option Elab.async false
set_option linter.all false
set_option maxRecDepth 100000
set_option maxHeartbeats 1000000
namespace L2
open PySem PySem.Spec PyProof.Rows
section
variable {X : Cx}
/-- isinstance of a tuple, the module's own too -/
theorem call_isiT : CallR X (.builtin "isinstance") (fun vs H Q => ∃ p xs c cv b, vs = [.ref p, c] ∧ SqT X.K H p xs ∧ clsV c = some cv ∧ PySem.W.kitOne X.K (.type "tuple") cv = some b ∧ Q (.bl b) H) := by
  intro pins s σ H ys us Q I r h
  obtain ⟨p, xs, c, cv, b, rfl, hs, e1, e2, q⟩ := h
  obtain ⟨u, v, rfl, rx, rc⟩ := vals2 r
  cases (show u = Value.ref p from rx)
  obtain ⟨its, rv, ⟨o, h1, h2, _⟩, _⟩ := I.tuple hs
  rw [clsV_rel e1 rc]
  exact PySem.W.kia_one PySem.W.kitx_tuple I.kIn ⟨o, h1, h2⟩ e2 (fun z => nomatch z) fun tk => ⟨.bl b, H, I.tok tk, rfl, q⟩
theorem op_neT (hu : X.A.units < cLine) : OpR X (compareOp .NotEq) (rEqT X.K true) := by
  intro pins s σ H x y v u Q I rx ry h
  obtain ⟨a, b, xs, ys, rfl, rfl, ha, hb, f1, f2, q⟩ := h
  cases rx
  cases ry
  obtain ⟨its, r1, p1, _⟩ := I.tuple ha
  obtain ⟨its2, r2, p2, _⟩ := I.tuple hb
  refine SeqAt.RcNeAt.tuples (show s.heap.IsTuple a its.toArray from p1) (show s.heap.IsTuple b its2.toArray from p2) hu (items_eq r1 r2 f1 f2) _ _ _ _ ⟨.bl _, H, I, rfl, ?_⟩
  have e : ((List.range (min its.toArray.size its2.toArray.size)).all (eAt xs ys) && its.toArray.size == its2.toArray.size) = eqVs xs ys := by
    rw [← eqVs_all, List.size_toArray, List.size_toArray, ← r1.length, ← r2.length]
  rw [e]
  exact q
/-- two lists of the very same things -/
theorem op_neL (hu : X.A.units < cLine) : OpR X (compareOp .NotEq) (fun x y H Q => ∃ (a b : Addr) (ps : List Addr), x = .ref a ∧ y = .ref b ∧ SqL X.K H a (ps.map V.ref) ∧ SqL X.K H b (ps.map V.ref) ∧ Q (.bl false) H) := by
  intro pins s σ H x y v u Q I rx ry h
  obtain ⟨a, b, ps, rfl, rfl, ha, hb, q⟩ := h
  cases rx
  cases ry
  have val : ∀ {ps : List Addr} {us : List Value}, Vals (ps.map V.ref) us → us = ps.map Value.ref := by
    intro ps
    induction ps with
    | nil => intro us r; cases r; rfl
    | cons p ps ih =>
      intro us r
      cases r with
      | cons r t => rw [(show _ = Value.ref p from r), ih t]; rfl
  obtain ⟨its, r1, p1, _⟩ := I.list ha
  obtain ⟨its2, r2, p2, _⟩ := I.list hb
  have e1 := val r1
  have e2 := val r2
  subst e1 e2
  refine SeqAt.RcNeAt.lists (e := fun _ => true) p1.isList p2.isList rfl hu (fun j h1 h2 => SeqAt.EqAt.same _) _ _ _ _ ⟨.bl _, H, I, rfl, ?_⟩
  have al : ∀ n : Nat, ((List.range n).all fun _ => true) = true := fun n => List.all_eq_true.2 fun _ _ => rfl
  simpa [al] using q
end
theorem sqT_same {K : PySem.W.Frag} {H H' : Hp} {p : Addr} {xs : List V} (s : Same H H') (h : SqT K H p xs) : SqT K H' p xs := by
  rcases h with (h | ⟨o, h⟩) | h
  · exact .inl (.inl (s _ _ h))
  · exact .inl (.inr ⟨o, s _ _ h⟩)
  · exact .inr h
end L2

/-! ===== K02a ===== -/
set_option Elab.async false
set_option linter.all false
set_option maxRecDepth 100000
set_option maxHeartbeats 4000000
namespace L2
open PySem PySem.Spec PyProof.Rows
/-! ### a def with or without defaults -/
structure FunG (K : PySem.W.Frag) (x qual : Str) (st : Stmt) (dV : Value) (f : Addr) (fd : FuncData) : Prop where
  ex : ∃ (oc : Value) (od : Option Addr) (kV doc pm : Value) (an : Option Addr) (cdv ct : Value) (osl : Array (Option Value)),
    fd = PySem.W.fnOf x qual (defArgs st) (defBody st) (defScope st) dV kV doc pm an cdv ct ∧ K.lookup f = some ⟨oc, od, .func fd, osl⟩ ∧ PySem.W.codeIn K cdv qual = true
  kp : PySem.W.keepIn K (.ref f) = true
section
variable {P : Program} {w : World} {K : PySem.W.Frag} {mg : Str → Option Value} {base : Heap} {x qual : Str} {st : Stmt} {dV : Value} {f : Addr} {fd : FuncData} {N ps : List Str} {k : Nat} {sp : Sp}
theorem FunG.okE (F : FunG K x qual st dV f fd) (S : FnScope N ps (defScope st)) (len : ∀ vs H Q E, sp vs H Q E → vs.length = ps.length)
    (hbody : ∀ (cdv : Value) (A : Around) (outer : List Env) (s : Shared) (H : Hp) (vs : List V) (Q : VK) (E : XK), Room k (A.deeper (envOfC qual (defScope st) s.heap.objs.size f cdv)) → sp vs H Q E →
      ∃ t, PSs (cxOf (CXE P w) P w K mg base N qual (defScope st) f cdv A outer s H E) (defBody st) t ∧ t { nx := fun _ H' => Q .non H', rt := Q } (start N vs) H) : FnOk P w K mg base (CXE P w) (k + 1) f fd ps sp := by
  obtain ⟨oc, od, kV, doc, pm, an, cdv, ct, osl, rfl, lk, hcd⟩ := F.ex
  exact fn_of lk hcd S len fun A outer s H vs Q E hr hsp => hbody cdv A outer s H vs Q E hr hsp
theorem FunG.okN (F : FunG K x qual st dV f fd) (S : FnScope N ps (defScope st)) (len : ∀ vs H Q E, sp vs H Q E → vs.length = ps.length)
    (hbody : ∀ (cdv : Value) (A : Around) (outer : List Env) (s : Shared) (H : Hp) (vs : List V) (Q : VK) (E : XK), Room k (A.deeper (envOfC qual (defScope st) s.heap.objs.size f cdv)) → sp vs H Q E →
      ∃ t, PSs (cxOf (CXE P w) P w K mg base N qual (defScope st) f cdv A outer s H E).nox (defBody st) t ∧ t { nx := fun _ H' => Q .non H', rt := Q } (start N vs) H) : FnOk P w K mg base (CXE P w) (k + 1) f fd ps sp :=
  F.okE S len fun cdv A outer s H vs Q E hr hsp => by
    obtain ⟨t, h, q⟩ := hbody cdv A outer s H vs Q E hr hsp
    exact ⟨t, h.nox, q⟩
theorem FunG.binds (F : FunG K x qual st .none f fd)
    (h : ∀ (kV doc pm : Value) (an : Option Addr) (cdv ct : Value) (us : List Value), us.length = ps.length → bindArgs (PySem.W.fnOf x qual (defArgs st) (defBody st) (defScope st) .none kV doc pm an cdv ct) ⟨us, []⟩ = pure (ps.zip us)) : Binds K fd ps [] := by
  obtain ⟨oc, od, kV, doc, pm, an, cdv, ct, osl, rfl, lk, hcd⟩ := F.ex
  exact .all (h kV doc pm an cdv ct)
theorem fung_mk {oc : Value} {od an : Option Addr} {osl : Array (Option Value)} {kV doc pm cdv ct : Value} (l : K.lookup f = some ⟨oc, od, .func (PySem.W.fnOf x qual (defArgs st) (defBody st) (defScope st) dV kV doc pm an cdv ct), osl⟩)
    (c : PySem.W.codeIn K cdv qual = true) (k : PySem.W.keepIn K (.ref f) = true) : FunG K x qual st dV f (PySem.W.fnOf x qual (defArgs st) (defBody st) (defScope st) dV kV doc pm an cdv ct) := ⟨⟨oc, od, kV, doc, pm, an, cdv, ct, osl, rfl, l, c⟩, k⟩
end
/-! ### things -/
inductive Th (H : Hp) : V → Prop where
  | non : Th H .non
  | bl (b : Bool) : Th H (.bl b)
  | int (i : Int) : Th H (.int i)
  | str (x : Str) : Th H (.str x)
  | lst {a : Addr} {xs : List V} (h : H a = some (.lst xs)) : Th H (.ref a)
  | tup {a : Addr} {xs : List V} (h : H a = some (.tup xs)) : Th H (.ref a)
  | dK {a : Addr} {xs : List (Key × V)} (h : H a = some (.dK xs)) : Th H (.ref a)
def isI : V → Bool
  | .int _ => true
  | .bl _ => true
  | _ => false
def isB : V → Bool
  | .bl _ => true
  | _ => false
def isW : V → Bool
  | .int _ => true
  | _ => false
theorem isW_eq (x : V) : (if isI x = true then !isB x else false) = isW x := by cases x <;> rfl
theorem ki1 {K : PySem.W.Frag} : PySem.W.kitOne K (.type "int") (.type "int") = some true := by kernel_rfl
theorem ki2 {K : PySem.W.Frag} : PySem.W.kitOne K (.type "bool") (.type "int") = some true := by kernel_rfl
theorem ki3 {K : PySem.W.Frag} : PySem.W.kitOne K (.type "NoneType") (.type "int") = some false := by kernel_rfl
theorem ki4 {K : PySem.W.Frag} : PySem.W.kitOne K (.type "str") (.type "int") = some false := by kernel_rfl
theorem ki5 {K : PySem.W.Frag} : PySem.W.kitOne K (.type "list") (.type "int") = some false := by kernel_rfl
theorem ki6 {K : PySem.W.Frag} : PySem.W.kitOne K (.type "tuple") (.type "int") = some false := by kernel_rfl
theorem ki7 {K : PySem.W.Frag} : PySem.W.kitOne K (.type "dict") (.type "int") = some false := by kernel_rfl
theorem kb1 {K : PySem.W.Frag} : PySem.W.kitOne K (.type "int") (.type "bool") = some false := by kernel_rfl
theorem kb2 {K : PySem.W.Frag} : PySem.W.kitOne K (.type "bool") (.type "bool") = some true := by kernel_rfl
theorem kt1 {K : PySem.W.Frag} : PySem.W.kitOne K (.type "tuple") (.type "tuple") = some true := by kernel_rfl
theorem boot_int : bootBuiltins "int" = some (.type "int") := by decide +kernel
theorem boot_bool : bootBuiltins "bool" = some (.type "bool") := by decide +kernel
theorem boot_tuple : bootBuiltins "tuple" = some (.type "tuple") := by decide +kernel
theorem Th.ty {K : PySem.W.Frag} {H : Hp} {x : V} (h : Th H x) : ∃ t, TyX K H x t ∧ PySem.W.kitOne K t (.type "int") = some (isI x) ∧ (isI x = true → PySem.W.kitOne K t (.type "bool") = some (isB x)) := by
  cases h with
  | non => exact ⟨_, .of .non, ki3, fun z => nomatch z⟩
  | bl b => exact ⟨_, .of (.bl b), ki2, fun _ => kb2⟩
  | int i => exact ⟨_, .of (.int i), ki1, fun _ => kb1⟩
  | str x => exact ⟨_, .of (.str x), ki4, fun z => nomatch z⟩
  | lst h => exact ⟨_, .of (.lst h), ki5, fun z => nomatch z⟩
  | tup h => exact ⟨_, .of (.tup h), ki6, fun z => nomatch z⟩
  | dK h => exact ⟨_, .of (.dK h), ki7, fun z => nomatch z⟩
end L2

namespace G1
open PySem L2
def top (i : Nat) : Stmt := PySem.Challenge.pw_dearsigns_k02_fractions_reckoned.main.body.getD i (.Pass ⟨0, 0, 0, 0⟩)
abbrev sWhole : Stmt := top 18
abbrev sGcd : Stmt := top 19
abbrev sFrac : Stmt := top 20
abbrev sPlus : Stmt := top 21
abbrev sMinus : Stmt := top 22
abbrev sTimes : Stmt := top 23
abbrev sOver : Stmt := top 24
abbrev sUnder : Stmt := top 25
abbrev sSum : Stmt := top 26
abbrev sSource : Stmt := top 29
abbrev sDraw : Stmt := top 30
abbrev sLowest : Stmt := top 31
abbrev sLWhole : Stmt := top 32
abbrev sIsFrac : Stmt := top 33
abbrev sRefusal : Stmt := top 34
abbrev sDrawn : Stmt := top 35
abbrev sWorth : Stmt := top 36
abbrev sParted : Stmt := top 37
abbrev sRight : Stmt := top 38
abbrev sSums : Stmt := top 39
abbrev sLaw : Stmt := top 40
/-- the names that the module leaves to the built-ins -/
structure Bl (mg : Str → Option Value) : Prop where
  isi : mg "isinstance" = none
  int : mg "int" = none
  bool : mg "bool" = none
  tuple : mg "tuple" = none
  abs : mg "abs" = none
  len : mg "len" = none
  enum : mg "enumerate" = none
  ve : mg "ValueError" = none
  list : mg "list" = none
section
variable {P : Program} {w : World} {K : PySem.W.Frag} {mg : Str → Option Value} {base : Heap}
/-! is_whole, and the law's own -/
def spWhole : Sp := fun vs H Q _ => ∃ x, vs = [x] ∧ Th H x ∧ Q (.bl (isW x)) H
theorem scW : FnScope ["thing"] ["thing"] (defScope sWhole) := ⟨rfl, rfl, rfl, by decide +kernel, rfl, by decide +kernel, by decide +kernel⟩
theorem ok_whole {f : Addr} {fd : FuncData} (F : FunG K "is_whole" "is_whole" sWhole .none f fd) (B : Bl mg) : FnOk P w K mg base (CXE P w) 1 f fd ["thing"] spWhole := by
  refine F.okN scW (fun vs H Q E h => ?_) (fun cdv A outer s H vs Q E hr h => ?_)
  · obtain ⟨x, rfl, _⟩ := h
    rfl
  · obtain ⟨x, rfl, hx, q⟩ := h
    obtain ⟨t, ty, e1, e2⟩ := hx.ty (K := K)
    refine ⟨_, pss_one (ps_ret (pe_and (pe_callB call_isi (by rfl) B.isi boot_isi (pa_cons (pv 0) (pa_cons (pe_bltn (by rfl) B.int boot_int (v := .ty "int") rfl) pa_nil)))
      (pe_one (pe_not (pe_callB call_isi (by rfl) B.isi boot_isi (pa_cons (pv 0) (pa_cons (pe_bltn (by rfl) B.bool boot_bool (v := .ty "bool") rfl) pa_nil))))))), ?_⟩
    refine ⟨x, rfl, x, _, t, isI x, rfl, ty, .inl ⟨_, rfl, e1⟩, _, rfl, ?_⟩
    rw [← isW_eq x] at q
    by_cases hi : isI x = true
    · rw [if_pos hi] at q ⊢
      exact ⟨x, rfl, x, _, t, isB x, rfl, ty, .inl ⟨_, rfl, e2 hi⟩, _, rfl, q⟩
    · rw [if_neg hi] at q ⊢
      exact q
theorem scLW : FnScope ["_law_found"] ["_law_found"] (defScope sLWhole) := ⟨rfl, rfl, rfl, by decide +kernel, rfl, by decide +kernel, by decide +kernel⟩
theorem ok_lwhole {f : Addr} {fd : FuncData} (F : FunG K "_law_whole" "_law_whole" sLWhole .none f fd) (B : Bl mg) : FnOk P w K mg base (CXE P w) 1 f fd ["_law_found"] spWhole := by
  refine F.okN scLW (fun vs H Q E h => ?_) (fun cdv A outer s H vs Q E hr h => ?_)
  · obtain ⟨x, rfl, _⟩ := h
    rfl
  · obtain ⟨x, rfl, hx, q⟩ := h
    obtain ⟨t, ty, e1, e2⟩ := hx.ty (K := K)
    refine ⟨_, pss_one (ps_ret (pe_and (pe_callB call_isi (by rfl) B.isi boot_isi (pa_cons (pv 0) (pa_cons (pe_bltn (by rfl) B.int boot_int (v := .ty "int") rfl) pa_nil)))
      (pe_one (pe_not (pe_callB call_isi (by rfl) B.isi boot_isi (pa_cons (pv 0) (pa_cons (pe_bltn (by rfl) B.bool boot_bool (v := .ty "bool") rfl) pa_nil))))))), ?_⟩
    refine ⟨x, rfl, x, _, t, isI x, rfl, ty, .inl ⟨_, rfl, e1⟩, _, rfl, ?_⟩
    rw [← isW_eq x] at q
    by_cases hi : isI x = true
    · rw [if_pos hi] at q ⊢
      exact ⟨x, rfl, x, _, t, isB x, rfl, ty, .inl ⟨_, rfl, e2 hi⟩, _, rfl, q⟩
    · rw [if_neg hi] at q ⊢
      exact q
end
end G1

/-! ===== K02b ===== -/
set_option Elab.async false
set_option linter.all false
set_option maxRecDepth 100000
set_option maxHeartbeats 4000000
/-! mathematics: the greatest common divisor, and parting by it -/
namespace GM
theorem gcd_step (m n : Nat) : Nat.gcd n (m % n) = Nat.gcd m n := by
  rw [Nat.gcd_comm n, Nat.gcd_comm m, Nat.gcd_rec n m]
theorem abs_nat (i : Int) : (if i < 0 then -i else i) = (i.natAbs : Int) := by split <;> omega
def gd (a b : Int) : Int := ((Nat.gcd a.natAbs b.natAbs : Nat) : Int)
theorem gd_pos {a b : Int} (h : b ≠ 0) : 0 < gd a b := by
  unfold gd
  have : 0 < Nat.gcd a.natAbs b.natAbs := Nat.gcd_pos_of_pos_right _ (by omega)
  omega
theorem gd_dvd1 (a b : Int) : gd a b ∣ a := by
  unfold gd
  have h : (Nat.gcd a.natAbs b.natAbs) ∣ a.natAbs := Nat.gcd_dvd_left _ _
  exact Int.dvd_natAbs.mp (Int.natCast_dvd_natCast.mpr h)
theorem gd_dvd2 (a b : Int) : gd a b ∣ b := by
  unfold gd
  have h : (Nat.gcd a.natAbs b.natAbs) ∣ b.natAbs := Nat.gcd_dvd_right _ _
  exact Int.dvd_natAbs.mp (Int.natCast_dvd_natCast.mpr h)
theorem gd_le {a b : Int} (h : b ≠ 0) : (gd a b).natAbs ≤ b.natAbs := by
  unfold gd
  have : Nat.gcd a.natAbs b.natAbs ≤ b.natAbs := Nat.le_of_dvd (by omega) (Nat.gcd_dvd_right _ _)
  omega
/-- parted by the common divisor g (or -g): worth the same, and nothing common is left -/
theorem parted {a b g : Int} (hb : b ≠ 0) (hg : g = gd a b ∨ g = -gd a b) (hs : 0 < b ↔ 0 < g) :
    ∃ c d, a.fdiv g = c ∧ b.fdiv g = d ∧ a = g * c ∧ b = g * d ∧ 0 < d ∧ Nat.gcd c.natAbs d.natAbs = 1 ∧ c.natAbs ≤ a.natAbs ∧ d.natAbs ≤ b.natAbs := by
  have h0 := gd_pos (a := a) hb
  have g0 : g ≠ 0 := by omega
  have d1 : g ∣ a := by
    rcases hg with e | e
    · rw [e]; exact gd_dvd1 a b
    · rw [e]; exact (Int.neg_dvd).mpr (gd_dvd1 a b)
  have d2 : g ∣ b := by
    rcases hg with e | e
    · rw [e]; exact gd_dvd2 a b
    · rw [e]; exact (Int.neg_dvd).mpr (gd_dvd2 a b)
  obtain ⟨c, rfl⟩ := d1
  obtain ⟨d, rfl⟩ := d2
  have na : g.natAbs = Nat.gcd (g * c).natAbs (g * d).natAbs := by
    have e : gd (g * c) (g * d) = ((Nat.gcd (g * c).natAbs (g * d).natAbs : Nat) : Int) := rfl
    rcases hg with z | z <;> omega
  refine ⟨c, d, Int.mul_fdiv_cancel_left _ g0, Int.mul_fdiv_cancel_left _ g0, rfl, rfl, ?_, ?_, ?_, ?_⟩
  · by_cases hp : 0 < g
    · have z := hs.mpr hp
      rw [Int.mul_comm] at z
      exact Int.pos_of_mul_pos_left z hp
    · have gn : g < 0 := by omega
      have bn : ¬ 0 < g * d := fun z => hp (hs.mp z)
      have bn2 : g * d < 0 := by omega
      rcases Int.lt_trichotomy d 0 with z | z | z
      · have := Int.mul_pos_of_neg_of_neg gn z
        omega
      · rw [z] at hb; simp at hb
      · exact z
  · rw [Int.natAbs_mul, Int.natAbs_mul, Nat.gcd_mul_left] at na
    have gp : 0 < g.natAbs := by omega
    have : g.natAbs * 1 = g.natAbs * Nat.gcd c.natAbs d.natAbs := by rw [Nat.mul_one]; exact na
    exact (Nat.eq_of_mul_eq_mul_left gp this).symm
  · rw [Int.natAbs_mul]; exact Nat.le_mul_of_pos_left _ (by omega)
  · rw [Int.natAbs_mul]; exact Nat.le_mul_of_pos_left _ (by omega)
end GM
theorem boot_abs : PySem.bootBuiltins "abs" = some (.builtin "abs") := by decide +kernel
namespace G1
open PySem L2 GM
section
variable {P : Program} {w : World} {K : PySem.W.Frag} {mg : Str → Option Value} {base : Heap}
/-! common_divisor -/
def spGcd : Sp := fun vs H Q _ => ∃ a b : Int, vs = [.int a, .int b] ∧ Q (.int (gd a b)) H
theorem scG : FnScope ["one", "other"] ["one", "other"] (defScope sGcd) := ⟨rfl, rfl, rfl, by decide +kernel, rfl, by decide +kernel, by decide +kernel⟩
theorem ok_gcd {f : Addr} {fd : FuncData} (F : FunG K "common_divisor" "common_divisor" sGcd .none f fd) (B : Bl mg) : FnOk P w K mg base (CXE P w) 1 f fd ["one", "other"] spGcd := by
  refine F.okN scG (fun vs H Q E h => ?_) (fun cdv A outer s H vs Q E hr h => ?_)
  · obtain ⟨a, b, rfl, _⟩ := h
    rfl
  · obtain ⟨a, b, rfl, q⟩ := h
    refine ⟨_, pss_cons (ps_set (i := 0) scG.nd rfl (Or.inl rfl) (pe_callB call_abs (by rfl) B.abs boot_abs (pa_cons (pv 0) pa_nil)))
      (pss_cons (ps_set (i := 1) scG.nd rfl (Or.inl rfl) (pe_callB call_abs (by rfl) B.abs boot_abs (pa_cons (pv 1) pa_nil)))
      (pss_cons (ps_while PassesOwn.never (pt_cmpR op_gt (pv 1) pe_int (nomark _))
        (pss_one (ps_par (i := 0) (j := 1) rfl scG.nd rfl rfl (by decide) rfl rfl (pa_cons (pv 1) (pa_cons (pe_op op_mod (pv 0) (pv 1)) pa_nil)) rfl)))
      (pss_one (ps_ret (pv 0))))), ?_⟩
    refine ⟨_, rfl, a, rfl, _, rfl, b, rfl, ?_⟩
    refine while_by (fun σ H' => H' = H ∧ ∃ m n : Nat, σ = [some (.int m), some (.int n)] ∧ Nat.gcd m n = Nat.gcd a.natAbs b.natAbs) (fun σ _ => match σ with | [_, some (.int n)] => n.toNat | _ => 0)
      ⟨rfl, a.natAbs, b.natAbs, by simp only [abs_nat]; rfl, rfl⟩ ?_ ?_
    · rintro σ H' ⟨rfl, m, n, rfl, hg⟩
      refine ⟨_, rfl, _, _, rfl, rfl, _, rfl, ?_⟩
      refine ite2 (fun hn => ?_) (fun hn => ?_)
      · have hn' : (0 : Int) < n := of_decide_eq_true hn
        refine ⟨_, rfl, _, rfl, _, rfl, _, _, rfl, rfl, hn', _, _, rfl, ⟨rfl, n, m % n, ?_, ?_⟩, ?_⟩
        · show [some (V.int n), some (V.int ((m : Int) % n))] = _
          rw [← Int.natCast_emod]
        · rw [gcd_step]; exact hg
        · show ((m : Int) % n).toNat < (n : Int).toNat
          have := Int.emod_lt_of_pos (m : Int) hn'
          have := Int.emod_nonneg (m : Int) (show (n : Int) ≠ 0 by omega)
          omega
      · have hn' : ¬ (0 : Int) < n := fun z => hn (decide_eq_true z)
        refine ⟨_, rfl, ?_⟩
        have n0 : n = 0 := by omega
        rw [n0, Nat.gcd_zero_right] at hg
        rw [hg]
        exact q
    · rintro σ H' Q1 Q2 h ⟨v, e, i, j, e1, e2, x, e3, z⟩
      exact ⟨v, e, i, j, e1, e2, x, e3, h _ _ z⟩
end
end G1

/-! ===== K02c ===== -/
set_option Elab.async false
set_option linter.all false
set_option maxRecDepth 100000
set_option maxHeartbeats 4000000
namespace G1
open PySem L2 GM
/-- a fraction of a over b -/
structure FracOf (a b c d : Int) : Prop where
  g : ∃ g : Int, g ≠ 0 ∧ a = g * c ∧ b = g * d
  pos : 0 < d
  low : Nat.gcd c.natAbs d.natAbs = 1
  top : c.natAbs ≤ a.natAbs
  bot : d.natAbs ≤ b.natAbs
section
variable {P : Program} {w : World} {K : PySem.W.Frag} {mg : Str → Option Value} {base : Heap}
def spFrac (CN : Addr) : Sp := fun vs H Q E => ∃ x y, vs = [x, y] ∧ Th H x ∧ Th H y ∧
  (∀ a b, x = .int a → y = .int b → b ≠ 0 → b.natAbs < big ∧ ∀ p c d, H p = none → FracOf a b c d → Q (.ref p) (upd H p (.tup [.int c, .int d]))) ∧
  ((¬ ∃ a b, x = .int a ∧ y = .int b ∧ b ≠ 0) → E (.ref CN) none H)
theorem isW_int {x : V} (h : isW x = true) : ∃ i, x = .int i := by
  cases x with
  | int i => exact ⟨i, rfl⟩
  | _ => cases h
theorem scF : FnScope ["top", "bottom", "shared"] ["top", "bottom"] (defScope sFrac) := ⟨rfl, rfl, rfl, by decide +kernel, rfl, by decide +kernel, by decide +kernel⟩
theorem ok_frac {f fW fG CN : Addr} {fd fdW fdG : FuncData} {dV : Value} (F : FunG K "fraction" "fraction" sFrac dV f fd) (B : Bl mg)
    (FW : FunG K "is_whole" "is_whole" sWhole .none fW fdW) (mW : mg "is_whole" = some (.ref fW)) (bW : Binds K fdW ["thing"] [])
    (FG : FunG K "common_divisor" "common_divisor" sGcd .none fG fdG) (mG : mg "common_divisor" = some (.ref fG)) (bG : Binds K fdG ["one", "other"] [])
    (mN : mg "NoNumber" = some (.ref CN)) (eN : ExcK K CN) : FnOk P w K mg base (CXE P w) 2 f fd ["top", "bottom"] (spFrac CN) := by
  have GW : FnOk P w K mg base (CXE P w) 1 fW fdW ["thing"] spWhole := ok_whole FW B
  have GG : FnOk P w K mg base (CXE P w) 1 fG fdG ["one", "other"] spGcd := ok_gcd FG B
  refine F.okE scF (fun vs H Q E h => ?_) (fun cdv A outer s H vs Q E hr h => ?_)
  · obtain ⟨x, y, rfl, _⟩ := h
    rfl
  · obtain ⟨x, y, rfl, hx, hy, good, bad⟩ := h
    refine ⟨_, pss_cons (ps_if (pw_or (pt_not (pt_val (pe_call GW hr (by rfl) mW FW.kp bW .nil passE0 (pa_cons (pv 0) pa_nil)))) (pw_or1 (pt_not (pt_val (pe_call GW hr (by rfl) mW FW.kp bW .nil passE0 (pa_cons (pv 1) pa_nil)))))).pt
        (pss_one (ps_raise (E := E) (fun pins σ H1 s1 h1 e args I hx hE => throw_fn I hx hE) rfl (by rfl) mN eN (pa_cons pe_str pa_nil))) pss_nil)
      (pss_cons (ps_if (pt_cmpR op_eq (pv 1) pe_int (nomark _)) (pss_one (ps_raise (E := E) (fun pins σ H1 s1 h1 e args I hx hE => throw_fn I hx hE) rfl (by rfl) mN eN (pa_cons pe_str pa_nil))) pss_nil)
      (pss_cons (ps_set (i := 2) scF.nd rfl (Or.inl rfl) (pe_call GG hr (by rfl) mG FG.kp bG .nil passE0 (pa_cons (pv 0) (pa_cons (pv 1) pa_nil))))
      (pss_cons (ps_if (pt_cmpR op_lt (pv 1) pe_int (nomark _)) (pss_one (ps_set (i := 2) scF.nd rfl (Or.inl rfl) (pe_un un_neg (pv 2)))) pss_nil)
      (pss_one (ps_ret (pe_tup (pa_cons (pe_op op_fdivB (pv 0) (pv 2)) (pa_cons (pe_op op_fdivB (pv 1) (pv 2)) pa_nil)))))))), ?_⟩
    refine ⟨x, rfl, x, rfl, hx, _, rfl, ?_⟩
    cases hwx : isW x with
    | false =>
      refine iteT ?_
      refine iteT ⟨by show 1 ≤ sizeLine; decide, bad ?_⟩
      rintro ⟨a, b, rfl, _⟩
      cases hwx
    | true =>
      refine iteF ⟨y, rfl, y, rfl, hy, _, rfl, ?_⟩
      cases hwy : isW y with
      | false =>
        refine iteT ⟨by show 1 ≤ sizeLine; decide, bad ?_⟩
        rintro ⟨a, b, _, rfl, _⟩
        cases hwy
      | true =>
        obtain ⟨a, rfl⟩ := isW_int hwx
        obtain ⟨b, rfl⟩ := isW_int hwy
        refine iteF ?_
        refine ⟨_, rfl, rfl, _, rfl, ?_⟩
        refine ite2 (fun hb => ?_) (fun hb => ?_)
        · refine ⟨by show 1 ≤ sizeLine; decide, bad ?_⟩
          rintro ⟨a', b', e1, e2, nb⟩
          have z : V.int b = V.int 0 := of_decide_eq_true hb
          rw [e2] at z
          injection z with z
          exact nb z
        · have nb : b ≠ 0 := fun z => hb (decide_eq_true (by rw [z]))
          obtain ⟨bb, q⟩ := good a b rfl rfl nb
          refine ⟨_, rfl, _, rfl, a, b, rfl, _, rfl, _, _, rfl, rfl, _, rfl, ?_⟩
          have gp := gd_pos (a := a) nb
          have gl := gd_le (a := a) nb
          have fin : ∀ g : Int, (g = gd a b ∨ g = -gd a b) → (0 < b ↔ 0 < g) → (∃ v, ([some (V.int a), some (V.int b), some (V.int g)] : St)[0]? = some (some v) ∧ ∃ v2, ([some (V.int a), some (V.int b), some (V.int g)] : St)[2]? = some (some v2) ∧ ∃ i j, v = .int i ∧ v2 = .int j ∧ (j ≠ 0 ∧ j.natAbs < big) ∧
              ∃ v, ([some (V.int a), some (V.int b), some (V.int g)] : St)[1]? = some (some v) ∧ ∃ v2, ([some (V.int a), some (V.int b), some (V.int g)] : St)[2]? = some (some v2) ∧ ∃ i2 j2, v = .int i2 ∧ v2 = .int j2 ∧ (j2 ≠ 0 ∧ j2.natAbs < big) ∧
              (2 ≤ sizeLine ∧ ∀ p, H p = none → Q (.ref p) (upd H p (.tup [.int (i.fdiv j), .int (i2.fdiv j2)])))) := fun g hg hs => by
            obtain ⟨c, d, e1, e2, e3, e4, dp, gg, la, lb⟩ := parted nb hg hs
            have g0 : g ≠ 0 := by omega
            have gb : g.natAbs < big := by
              have : g.natAbs ≤ b.natAbs := by omega
              exact Nat.lt_of_le_of_lt this bb
            refine ⟨_, rfl, _, rfl, _, _, rfl, rfl, ⟨g0, gb⟩, _, rfl, _, rfl, _, _, rfl, rfl, ⟨g0, gb⟩, by decide, fun p hp => ?_⟩
            rw [e1, e2]
            exact q p c d hp ⟨⟨g, g0, e3, e4⟩, dp, gg, la, lb⟩
          refine ite2 (fun hn => ?_) (fun hn => ?_)
          · have hn' : b < 0 := of_decide_eq_true hn
            refine ⟨_, rfl, _, rfl, ?_⟩
            exact fin (-gd a b) (.inr rfl) (by omega)
          · have hn' : ¬ b < 0 := fun z => hn (decide_eq_true z)
            exact fin (gd a b) (.inl rfl) (by omega)
/-! the law's own lowest terms -/
def spLow : Sp := fun vs H Q _ => ∃ a b : Int, vs = [.int a, .int b] ∧ 0 < b ∧ b.natAbs < big ∧ ∀ p c d, H p = none → FracOf a b c d → (Nat.gcd a.natAbs b.natAbs = 1 → c = a ∧ d = b) → Q (.ref p) (upd H p (.tup [.int c, .int d]))
theorem scLo : FnScope ["_law_top", "_law_bottom", "_law_one", "_law_other"] ["_law_top", "_law_bottom"] (defScope sLowest) := ⟨rfl, rfl, rfl, by decide +kernel, rfl, by decide +kernel, by decide +kernel⟩
theorem ok_low {f : Addr} {fd : FuncData} (F : FunG K "_law_lowest" "_law_lowest" sLowest .none f fd) (B : Bl mg) : FnOk P w K mg base (CXE P w) 1 f fd ["_law_top", "_law_bottom"] spLow := by
  refine F.okN scLo (fun vs H Q E h => ?_) (fun cdv A outer s H vs Q E hr h => ?_)
  · obtain ⟨a, b, rfl, _⟩ := h
    rfl
  · obtain ⟨a, b, rfl, hb, hbb, q⟩ := h
    refine ⟨_, pss_cons (ps_set (i := 2) scLo.nd rfl (Or.inl rfl) (pv 1))
      (pss_cons (ps_set (i := 3) scLo.nd rfl (Or.inl rfl) (pe_callB call_abs (by rfl) B.abs boot_abs (pa_cons (pv 0) pa_nil)))
      (pss_cons (ps_while PassesOwn.never (pt_cmpR op_gt (pv 3) pe_int (nomark _))
        (pss_one (ps_par (i := 2) (j := 3) rfl scLo.nd rfl rfl (by decide) rfl rfl (pa_cons (pv 3) (pa_cons (pe_op op_mod (pv 2) (pv 3)) pa_nil)) rfl)))
      (pss_one (ps_ret (pe_tup (pa_cons (pe_op op_fdivB (pv 0) (pv 2)) (pa_cons (pe_op op_fdivB (pv 1) (pv 2)) pa_nil))))))), ?_⟩
    refine ⟨_, rfl, _, rfl, a, rfl, ?_⟩
    refine while_by (fun σ H' => H' = H ∧ ∃ m n : Nat, σ = [some (.int a), some (.int b), some (.int m), some (.int n)] ∧ Nat.gcd m n = Nat.gcd b.natAbs a.natAbs) (fun σ _ => match σ with | [_, _, _, some (.int n)] => n.toNat | _ => 0)
      ⟨rfl, b.natAbs, a.natAbs, ?_, rfl⟩ ?_ ?_
    · rw [abs_nat, show ((b.natAbs : Nat) : Int) = b by omega]; rfl
    · rintro σ H' ⟨rfl, m, n, rfl, hg⟩
      refine ⟨_, rfl, _, _, rfl, rfl, _, rfl, ?_⟩
      refine ite2 (fun hn => ?_) (fun hn => ?_)
      · have hn' : (0 : Int) < n := of_decide_eq_true hn
        refine ⟨_, rfl, _, rfl, _, rfl, _, _, rfl, rfl, hn', _, _, rfl, ⟨rfl, n, m % n, ?_, ?_⟩, ?_⟩
        · show [some (V.int a), some (V.int b), some (V.int n), some (V.int ((m : Int) % n))] = _
          rw [← Int.natCast_emod]
        · rw [gcd_step]; exact hg
        · show ((m : Int) % n).toNat < (n : Int).toNat
          have := Int.emod_lt_of_pos (m : Int) hn'
          have := Int.emod_nonneg (m : Int) (show (n : Int) ≠ 0 by omega)
          omega
      · have hn' : ¬ (0 : Int) < n := fun z => hn (decide_eq_true z)
        have n0 : n = 0 := by omega
        rw [n0, Nat.gcd_zero_right, Nat.gcd_comm] at hg
        have mg : (m : Int) = gd a b := by unfold gd; rw [hg]
        have nb : b ≠ 0 := by omega
        have gp := gd_pos (a := a) nb
        have gl := gd_le (a := a) nb
        obtain ⟨c, d, e1, e2, e3, e4, dp, gg, la, lb⟩ := parted (a := a) (b := b) (g := (m : Int)) nb (.inl mg) (by omega)
        have g0 : (m : Int) ≠ 0 := by omega
        have gb : (m : Int).natAbs < big := Nat.lt_of_le_of_lt (by omega) hbb
        refine ⟨_, rfl, _, rfl, _, _, rfl, rfl, ⟨g0, gb⟩, _, rfl, _, rfl, _, _, rfl, rfl, ⟨g0, gb⟩, by show 2 ≤ sizeLine; decide, fun p hp => ?_⟩
        show Q (V.ref p) (upd H' p (HO.tup [V.int (a.fdiv m), V.int (b.fdiv m)]))
        rw [e1, e2]
        refine q p c d hp ⟨⟨m, g0, e3, e4⟩, dp, gg, la, lb⟩ fun one => ?_
        rw [one] at hg
        rw [hg] at e3 e4
        constructor
        · omega
        · omega
    · rintro σ H' Q1 Q2 h ⟨v, e, i, j, e1, e2, x, e3, z⟩
      exact ⟨v, e, i, j, e1, e2, x, e3, h _ _ z⟩
end
end G1

/-! ===== K02m ===== -/
set_option Elab.async false
set_option linter.all false
set_option maxRecDepth 100000
set_option maxHeartbeats 1000000
/-! fractions, as plain numbers -/
namespace GM
open G1
theorem frac_red {a b c d : Int} (hb : 0 < b) (f : FracOf a b c d) : c = a / gd a b ∧ d = b / gd a b := by
  obtain ⟨g, g0, e1, e2⟩ := f.g
  have dp := f.pos
  have gp : 0 < g := by
    rcases Int.lt_trichotomy g 0 with z | z | z
    · have := Int.mul_neg_of_neg_of_pos z dp
      omega
    · exact absurd z g0
    · exact z
  have eg : gd a b = g := by
    unfold gd
    rw [e1, e2, Int.natAbs_mul, Int.natAbs_mul, Nat.gcd_mul_left, f.low, Nat.mul_one]
    omega
  rw [eg, e1, e2]
  exact ⟨(Int.mul_ediv_cancel_left _ g0).symm, (Int.mul_ediv_cancel_left _ g0).symm⟩
/-- top over bottom in lowest terms -/
def red (a b : Int) : Int × Int := (a / gd a b, b / gd a b)
theorem frac_eq {a b c d : Int} (hb : 0 < b) (f : FracOf a b c d) : (c, d) = red a b := by
  obtain ⟨e1, e2⟩ := frac_red hb f
  unfold red
  rw [← e1, ← e2]
/-- a fraction in lowest terms -/
structure Low (n d : Int) : Prop where
  pos : 0 < d
  low : Nat.gcd n.natAbs d.natAbs = 1
theorem low0 : Low 0 1 := ⟨by decide, by decide⟩
def addF (t f : Int × Int) : Int × Int := red (t.1 * f.2 + f.1 * t.2) (t.2 * f.2)
def sumF (fs : List (Int × Int)) : Int × Int := fs.foldl addF (0, 1)
theorem sumF_snoc (fs : List (Int × Int)) (f : Int × Int) : sumF (fs ++ [f]) = addF (sumF fs) f := by
  unfold sumF
  rw [List.foldl_append]
  rfl
def M : Nat := 10 ^ 30
/-- so great at most, of so many -/
structure Bd (k : Nat) (f : Int × Int) : Prop where
  n : f.1.natAbs ≤ k * M ^ k
  d : f.2.natAbs ≤ M ^ k
  p : 0 < f.2
theorem bd_top {k : Nat} {t f : Int × Int} (ht : Bd k t) (f1 : f.1.natAbs ≤ M) (f2 : f.2.natAbs ≤ M) : (t.1 * f.2 + f.1 * t.2).natAbs ≤ (k + 1) * M ^ (k + 1) := by
  have h1 : (t.1 * f.2).natAbs ≤ k * M ^ k * M := by rw [Int.natAbs_mul]; exact Nat.mul_le_mul ht.n f2
  have h2 : (f.1 * t.2).natAbs ≤ M * M ^ k := by rw [Int.natAbs_mul]; exact Nat.mul_le_mul f1 ht.d
  have h3 : (t.1 * f.2 + f.1 * t.2).natAbs ≤ (t.1 * f.2).natAbs + (f.1 * t.2).natAbs := Int.natAbs_add_le _ _
  have e1 : k * M ^ k * M = k * M ^ (k + 1) := by rw [Nat.pow_succ, Nat.mul_assoc]
  have e2 : M * M ^ k = M ^ (k + 1) := by rw [Nat.pow_succ, Nat.mul_comm]
  have e3 : (k + 1) * M ^ (k + 1) = k * M ^ (k + 1) + M ^ (k + 1) := by rw [Nat.add_mul, Nat.one_mul]
  rw [e1] at h1
  rw [e2] at h2
  rw [e3]
  generalize M ^ (k + 1) = z at h1 h2
  generalize k * z = y at h1
  omega
theorem bd_bot {k : Nat} {t f : Int × Int} (ht : Bd k t) (f2 : f.2.natAbs ≤ M) : (t.2 * f.2).natAbs ≤ M ^ (k + 1) := by
  rw [Int.natAbs_mul, Nat.pow_succ]
  exact Nat.mul_le_mul ht.d f2
theorem bd_add {k : Nat} {t f : Int × Int} {c d : Int} (ht : Bd k t) (f1 : f.1.natAbs ≤ M) (f2 : f.2.natAbs ≤ M) (fr : FracOf (t.1 * f.2 + f.1 * t.2) (t.2 * f.2) c d) : Bd (k + 1) (c, d) :=
  ⟨Nat.le_trans fr.top (bd_top ht f1 f2), Nat.le_trans fr.bot (bd_bot ht f2), fr.pos⟩
theorem bd_mono {j k : Nat} {f : Int × Int} (h : Bd j f) (l : j ≤ k) : Bd k f :=
  ⟨Nat.le_trans h.n (Nat.mul_le_mul l (Nat.pow_le_pow_right (by decide) l)), Nat.le_trans h.d (Nat.pow_le_pow_right (by decide) l), h.p⟩
theorem bd0 : Bd 0 (0, 1) := ⟨by decide, by decide, by decide⟩
open L2 in
theorem big_of {k n : Nat} (hk : k ≤ 24) (h : n ≤ k * M ^ k) : n < big := by
  have : k * M ^ k ≤ 24 * M ^ 24 := Nat.mul_le_mul hk (Nat.pow_le_pow_right (by decide) hk)
  exact Nat.lt_of_le_of_lt (Nat.le_trans h this) (by decide +kernel)
open L2 in
theorem big_of' {k n : Nat} (hk : k ≤ 24) (h : n ≤ M ^ k) : n < big := by
  have : M ^ k ≤ M ^ 24 := Nat.pow_le_pow_right (by decide) hk
  exact Nat.lt_of_le_of_lt (Nat.le_trans h this) (by decide +kernel)
end GM

/-! ===== K02d ===== -/
set_option Elab.async false
set_option linter.all false
set_option maxRecDepth 100000
set_option maxHeartbeats 4000000
namespace L2
open PySem PySem.Spec PyProof.Rows
/-- a class that is none of the class at CN, nor above it -/
structure Other (K : PySem.W.Frag) (CN C : Addr) : Prop where
  no : PySem.W.mroIn K CN (.ref C) = some false
  hd : PySem.W.hasDictIn K C = true
  ty : PySem.W.typeIn K (.ref C) = some (.type "type")
theorem Other.one {K : PySem.W.Frag} {CN C : Addr} (self : PySem.W.mroIn K CN (.ref CN) = some true) (o : Other K CN C) : PySem.W.kitOne K (.ref CN) (.ref C) = some false := by
  have ne : ¬ ((Value.ref CN == Value.ref C) = true) := fun z => by
    have e : CN = C := Value.ref.inj (beq_iff_eq.mp z)
    have h := o.no
    rw [← e, self] at h
    cases h
  obtain ⟨cd, q, _⟩ := PySem.W.any_some o.hd
  unfold PySem.W.kitOne
  rw [if_neg ne]
  show (if ((PySem.W.clsIn K C).isSome && PySem.W.typeIn K (.ref C) == some (.type "type")) = true then PySem.W.subIn K (.ref CN) (.ref C) else none) = some false
  rw [if_pos (by rw [q, o.ty]; simp)]
  exact o.no
theorem Other.all {K : PySem.W.Frag} {CN : Addr} (self : PySem.W.mroIn K CN (.ref CN) = some true) : ∀ {cs : List Addr}, (∀ C ∈ cs, Other K CN C) → PySem.W.kitAny K (.ref CN) (cs.map Value.ref) = some false
  | [], _ => rfl
  | c :: cs, h => by
    show (match PySem.W.kitOne K (.ref CN) (.ref c) with | some true => some true | some false => PySem.W.kitAny K (.ref CN) (cs.map Value.ref) | none => none) = some false
    rw [(h c (by simp)).one self]
    exact Other.all self fun C hC => h C (by simp [hC])
theorem kit_self {K : PySem.W.Frag} {C : Addr} : PySem.W.kitOne K (.ref C) (.ref C) = some true := by
  unfold PySem.W.kitOne
  rw [if_pos (by simp)]
theorem kit_type {K : PySem.W.Frag} {C : Addr} (h : PySem.W.mroIn K C (.type "ValueError") = some true) : PySem.W.kitOne K (.ref C) (.type "ValueError") = some true := by
  unfold PySem.W.kitOne
  rw [if_neg (by simp)]
  show (if PySem.W.kitMeta "ValueError" = true then PySem.W.subIn K (.ref C) (.type "ValueError") else none) = some true
  rw [if_pos (by decide +kernel)]
  exact h
theorem boot_ve : bootBuiltins "ValueError" = some (.type "ValueError") := by decide +kernel
end L2
namespace G1
open PySem L2 GM
/-- the classes -/
structure Cl (K : PySem.W.Frag) (mg : Str → Option Value) (c : List Addr) : Prop where
  len : c.length = 15
  dear : mg "DearError" = some (.ref (c.getD 0 0))
  nn : mg "NoNumber" = some (.ref (c.getD 1 0))
  bs : mg "BadSign" = some (.ref (c.getD 2 0))
  nb : mg "NoBook" = some (.ref (c.getD 3 0))
  nc : mg "NoCount" = some (.ref (c.getD 4 0))
  nr : mg "NoRow" = some (.ref (c.getD 5 0))
  nt : mg "NoText" = some (.ref (c.getD 6 0))
  nth : mg "NoThing" = some (.ref (c.getD 7 0))
  nto : mg "NoTongue" = some (.ref (c.getD 8 0))
  ntr : mg "NoTree" = some (.ref (c.getD 9 0))
  ntu : mg "NoTurn" = some (.ref (c.getD 10 0))
  nu : mg "NoUndo" = some (.ref (c.getD 11 0))
  nw : mg "NoWants" = some (.ref (c.getD 12 0))
  tm : mg "TooMany" = some (.ref (c.getD 13 0))
  un : mg "Unknown" = some (.ref (c.getD 14 0))
  exc : ExcK K (c.getD 1 0)
  cls : ClsX K (c.getD 1 0)
  self : PySem.W.mroIn K (c.getD 1 0) (.ref (c.getD 1 0)) = some true
  ve : PySem.W.mroIn K (c.getD 1 0) (.type "ValueError") = some true
  up : PySem.W.mroIn K (c.getD 1 0) (.ref (c.getD 0 0)) = some true
  catch_ : CatchK K (c.getD 0 0)
  oth : ∀ i, 2 ≤ i → i < 15 → Other K (c.getD 1 0) (c.getD i 0)
section
variable {P : Program} {w : World} {K : PySem.W.Frag} {mg : Str → Option Value} {base : Heap} {c : List Addr}
/-! is it a fraction -/
def spIsFrac (K : PySem.W.Frag) : Sp := fun vs H Q _ => ∃ p n d, vs = [.ref p] ∧ SqT K H p [.int n, .int d] ∧ 0 < d ∧ d.natAbs < big ∧ Nat.gcd n.natAbs d.natAbs = 1 ∧ ∀ H', Same H H' → Q (.bl true) H'
theorem scI : FnScope ["_law_found"] ["_law_found"] (defScope sIsFrac) := ⟨rfl, rfl, rfl, by decide +kernel, rfl, by decide +kernel, by decide +kernel⟩
theorem same_upd {H : Hp} {p : Addr} {o : HO} (h : H p = none) : Same H (upd H p o) := fun b u e => by rw [upd_ne (ne_of_none e h)]; exact e
theorem ok_isFrac {f fW fL : Addr} {fd fdW fdL : FuncData} (F : FunG K "_law_is_fraction" "_law_is_fraction" sIsFrac .none f fd) (B : Bl mg)
    (GW : FnOk P w K mg base (CXE P w) 1 fW fdW ["_law_found"] spWhole) (mW : mg "_law_whole" = some (.ref fW)) (kW : PySem.W.keepIn K (.ref fW) = true) (bW : Binds K fdW ["_law_found"] [])
    (GL : FnOk P w K mg base (CXE P w) 1 fL fdL ["_law_top", "_law_bottom"] spLow) (mL : mg "_law_lowest" = some (.ref fL)) (kL : PySem.W.keepIn K (.ref fL) = true) (bL : Binds K fdL ["_law_top", "_law_bottom"] []) :
    FnOk P w K mg base (CXE P w) 2 f fd ["_law_found"] (spIsFrac K) := by
  refine F.okN scI (fun vs H Q E h => ?_) (fun cdv A outer s H vs Q E hr h => ?_)
  · obtain ⟨p, n, d, rfl, _⟩ := h
    rfl
  · obtain ⟨p, n, d, rfl, hp, dp, db, low, q⟩ := h
    have hu := hr.units0
    refine ⟨_, pss_cons (ps_if (pw_or (pt_not (pt_val (pe_callB call_isiT (by rfl) B.isi boot_isi (pa_cons (pv 0) (pa_cons (pe_bltn (by rfl) B.tuple boot_tuple (v := .ty "tuple") rfl) pa_nil)))))
        (pw_or (pt_cmpR op_ne (pe_callB call_len_seq (by rfl) B.len PySem.boot_len (pa_cons (pv 0) pa_nil)) pe_int (nomark _))
        (pw_or (pt_not (pt_val (pe_call GW hr (by rfl) mW kW bW .nil passE0 (pa_cons (pe_ix ix_tup (pv 0) pe_int (fun _ _ => rfl)) pa_nil))))
        (pw_or1 (pt_not (pt_val (pe_call GW hr (by rfl) mW kW bW .nil passE0 (pa_cons (pe_ix ix_tup (pv 0) pe_int (fun _ _ => rfl)) pa_nil)))))))).pt (pss_one (ps_ret pe_bl)) pss_nil)
      (pss_one (ps_ret (pe_and (pe_cmpR op_gt (pe_ix ix_tup (pv 0) pe_int (fun _ _ => rfl)) pe_int (nomark _))
        (pe_one (pe_cmpR (op_eqT hu) (pe_call GL hr (by rfl) mL kL bL .nil passE0 (pa_cons (pe_ix ix_tup (pv 0) pe_int (fun _ _ => rfl)) (pa_cons (pe_ix ix_tup (pv 0) pe_int (fun _ _ => rfl)) pa_nil))) (pv 0) (nomark _)))))), ?_⟩
    have st : SqT K H p [.int n, .int d] := hp
    refine ⟨_, rfl, p, _, _, _, true, rfl, st, rfl, kt1, _, rfl, ?_⟩
    refine iteF ⟨_, rfl, p, _, rfl, .inr st, rfl, _, rfl, ?_⟩
    refine iteF ⟨_, rfl, p, _, _, _, rfl, rfl, st, rfl, _, rfl, .int n, _, rfl, ?_⟩
    refine iteF ⟨_, rfl, p, _, _, _, rfl, rfl, st, rfl, _, rfl, .int d, _, rfl, ?_⟩
    refine iteF ?_
    refine ⟨_, rfl, p, _, _, _, rfl, rfl, st, rfl, _, _, rfl, rfl, _, rfl, ?_⟩
    rw [if_pos (decide_eq_true dp)]
    refine ⟨_, rfl, p, _, _, _, rfl, rfl, st, rfl, _, rfl, p, _, _, _, rfl, rfl, st, rfl, n, d, rfl, dp, db, fun t a b ht fr same => ?_⟩
    obtain ⟨rfl, rfl⟩ := same low
    refine ⟨_, rfl, t, p, _, _, rfl, rfl, SqT.of upd_same, sqT_same (same_upd ht) hp, rfl, rfl, ?_⟩
    have e : eqVs [V.int a, V.int b] [V.int a, V.int b] = true := by simp [eqVs, eqV]
    rw [e]
    exact q _ (same_upd ht)
/-! is it the refusal -/
def spRefusal (CN : Addr) : Sp := fun vs H Q _ => ∃ e, vs = [.ref e] ∧ H e = some (ExcO CN e) ∧ ∀ H', Same H H' → Q (.bl true) H'
theorem scR : FnScope ["_law_kept"] ["_law_kept"] (defScope sRefusal) := ⟨rfl, rfl, rfl, by decide +kernel, rfl, by decide +kernel, by decide +kernel⟩
theorem ok_refusal {f : Addr} {fd : FuncData} (F : FunG K "_law_is_refusal" "_law_is_refusal" sRefusal .none f fd) (B : Bl mg) (C : Cl K mg c) : FnOk P w K mg base (CXE P w) 1 f fd ["_law_kept"] (spRefusal (c.getD 1 0)) := by
  refine F.okN scR (fun vs H Q E h => ?_) (fun cdv A outer s H vs Q E hr h => ?_)
  · obtain ⟨e, rfl, _⟩ := h
    rfl
  · obtain ⟨e, rfl, he, q⟩ := h
    have ty : ∀ {H' : Hp}, H' e = some (ExcO (c.getD 1 0) e) → TyX K H' (.ref e) (.ref (c.getD 1 0)) := fun h => .exc h C.cls
    refine ⟨_, pss_cons (ps_if (pw_or (pt_not (pt_val (pe_callB call_isi (by rfl) B.isi boot_isi (pa_cons (pv 0) (pa_cons (pe_glob (by rfl) C.nn (v := .ref _) rfl) pa_nil)))))
        (pw_or1 (pt_not (pt_val (pe_callB call_isi (by rfl) B.isi boot_isi (pa_cons (pv 0) (pa_cons (pe_bltn (by rfl) B.ve boot_ve (v := .ty "ValueError") rfl) pa_nil))))))).pt (pss_one (ps_ret pe_bl)) pss_nil)
      (pss_cons (ps_if (pt_val (pe_callB call_isi (by rfl) B.isi boot_isi (pa_cons (pv 0) (pa_cons (pe_tup (pa_cons (pe_glob (by rfl) C.bs (v := .ref _) rfl) (pa_cons (pe_glob (by rfl) C.nb (v := .ref _) rfl) (pa_cons (pe_glob (by rfl) C.nc (v := .ref _) rfl)
          (pa_cons (pe_glob (by rfl) C.nr (v := .ref _) rfl) (pa_cons (pe_glob (by rfl) C.nt (v := .ref _) rfl) (pa_cons (pe_glob (by rfl) C.nth (v := .ref _) rfl) (pa_cons (pe_glob (by rfl) C.nto (v := .ref _) rfl) pa_nil)))))))) pa_nil)))) (pss_one (ps_ret pe_bl)) pss_nil)
      (pss_one (ps_ret (pe_not (pe_callB call_isi (by rfl) B.isi boot_isi (pa_cons (pv 0) (pa_cons (pe_tup (pa_cons (pe_glob (by rfl) C.ntr (v := .ref _) rfl) (pa_cons (pe_glob (by rfl) C.ntu (v := .ref _) rfl) (pa_cons (pe_glob (by rfl) C.nu (v := .ref _) rfl)
          (pa_cons (pe_glob (by rfl) C.nw (v := .ref _) rfl) (pa_cons (pe_glob (by rfl) C.tm (v := .ref _) rfl) (pa_cons (pe_glob (by rfl) C.un (v := .ref _) rfl) pa_nil))))))) pa_nil))))))), ?_⟩
    refine ⟨_, rfl, _, _, _, true, rfl, ty he, .inl ⟨_, rfl, kit_self⟩, _, rfl, ?_⟩
    refine iteF ⟨_, rfl, _, _, _, true, rfl, ty he, .inl ⟨_, rfl, kit_type C.ve⟩, _, rfl, ?_⟩
    refine iteF ?_
    refine ⟨_, rfl, by show 7 ≤ sizeLine; decide, fun t ht => ?_⟩
    have he1 : (upd H t (.tup [.ref (c.getD 2 0), .ref (c.getD 3 0), .ref (c.getD 4 0), .ref (c.getD 5 0), .ref (c.getD 6 0), .ref (c.getD 7 0), .ref (c.getD 8 0)])) e = some (ExcO (c.getD 1 0) e) := by rw [upd_ne (ne_of_none he ht)]; exact he
    refine ⟨_, _, _, false, rfl, ty he1, .inr ⟨t, _, [2, 3, 4, 5, 6, 7, 8].map (fun i => Value.ref (c.getD i 0)), rfl, SqT.of upd_same, rfl, ?_⟩, _, rfl, ?_⟩
    · exact Other.all (cs := [2, 3, 4, 5, 6, 7, 8].map (fun i => c.getD i 0)) C.self fun a ha => by
        obtain ⟨i, hi, rfl⟩ := List.mem_map.mp ha
        exact C.oth i (by simp at hi; omega) (by simp at hi; omega)
    refine iteF ?_
    refine ⟨_, rfl, by show 6 ≤ sizeLine; decide, fun t2 ht2 => ?_⟩
    refine ⟨_, _, _, false, rfl, ty (by rw [upd_ne (ne_of_none he1 ht2)]; exact he1), .inr ⟨t2, _, [9, 10, 11, 12, 13, 14].map (fun i => Value.ref (c.getD i 0)), rfl, SqT.of upd_same, rfl, ?_⟩, _, rfl, ?_⟩
    · exact Other.all (cs := [9, 10, 11, 12, 13, 14].map (fun i => c.getD i 0)) C.self fun a ha => by
        obtain ⟨i, hi, rfl⟩ := List.mem_map.mp ha
        exact C.oth i (by simp at hi; omega) (by simp at hi; omega)
    exact q _ ((same_upd ht).trans (same_upd ht2))
end
end G1

/-! ===== K02e ===== -/
set_option Elab.async false
set_option linter.all false
set_option maxRecDepth 100000
set_option maxHeartbeats 4000000
namespace G1
open PySem L2 GM
section
variable {P : Program} {w : World} {K : PySem.W.Frag} {mg : Str → Option Value} {base : Heap} {c : List Addr}
/-! the source of draws -/
structure Src (H : Hp) (p : Addr) : Prop where
  ex : ∃ n s : Int, H p = some (.lst [.int n, .int s]) ∧ 0 ≤ n ∧ 0 ≤ s ∧ s < 2147483647
def spSource : Sp := fun vs H Q _ => ∃ x k : Int, vs = [.int x, .int k] ∧ 0 ≤ k ∧ k ≤ 1000 ∧ ∀ p H', H p = none → Src H' p → (∀ b, b ≠ p → H' b = H b) → Q (.ref p) H'
theorem scS : FnScope ["_law_cell_here", "_law_k", "_law_number", "_law_seed"] ["_law_cell_here", "_law_k"] (defScope sSource) := ⟨rfl, rfl, rfl, by decide +kernel, rfl, by decide +kernel, by decide +kernel⟩
theorem ok_source {f : Addr} {fd : FuncData} (F : FunG K "_law_source" "_law_source" sSource .none f fd) (B : Bl mg) : FnOk P w K mg base (CXE P w) 1 f fd ["_law_cell_here", "_law_k"] spSource := by
  refine F.okN scS (fun vs H Q E h => ?_) (fun cdv A outer s H vs Q E hr h => ?_)
  · obtain ⟨x, k, rfl, _⟩ := h
    rfl
  · obtain ⟨x, k, rfl, k0, k1, q⟩ := h
    refine ⟨_, pss_cons (ps_set (i := 2) scS.nd rfl (Or.inl rfl) (pe_callB call_abs (by rfl) B.abs boot_abs (pa_cons (pv 0) pa_nil)))
      (pss_cons (ps_set (i := 3) scS.nd rfl (Or.inl rfl) (pe_op op_mod (pe_op op_mul (pe_op op_add (pe_op op_add (pe_op op_mod (pv 2) pe_int) (pe_op op_mul pe_int (pv 1))) pe_int) pe_int) pe_int))
      (pss_one (ps_ret (pe_lst (pa_cons (pe_op op_mul (pv 2) (pe_callTy call_int1 (by rfl) B.int boot_int (pa_cons (pe_cmpR op_ge (pv 2) (pe_op op_pow pe_int pe_int) (nomark _)) pa_nil))) (pa_cons (pv 3) pa_nil)))))), ?_⟩
    refine ⟨_, rfl, x, rfl, ?_⟩
    rw [abs_nat]
    have m0 : (0 : Int) ≤ ((x.natAbs : Nat) : Int) % 1000003 := Int.emod_nonneg _ (by decide)
    have m1 : ((x.natAbs : Nat) : Int) % 1000003 < 1000003 := Int.emod_lt_of_pos _ (by decide)
    refine ⟨_, rfl, _, _, rfl, rfl, (by show (0 : Int) < 1000003; decide), _, rfl, _, _, rfl, rfl, .inl ⟨by decide, by decide⟩, _, _, rfl, rfl, _, _, rfl, rfl, _, _, rfl, rfl, .inr ⟨by decide, by decide⟩, _, _, rfl, rfl, (by show (0 : Int) < 2147483647; decide), ?_⟩
    refine ⟨_, rfl, _, rfl, _, _, rfl, rfl, ⟨by decide, by decide, by decide⟩, _, _, rfl, rfl, .inr ⟨_, rfl, _, _, rfl, rfl, .inr (by split <;> constructor <;> decide), _, rfl, by show 2 ≤ sizeLine; decide, fun p hp => ?_⟩⟩
    refine q p _ hp ⟨_, _, upd_same, ?_, Int.emod_nonneg _ (by decide), Int.emod_lt_of_pos _ (by decide)⟩ fun b hb => upd_ne hb
    split
    · omega
    · omega
/-! a draw -/
def spDraw : Sp := fun vs H Q _ => ∃ (p : Addr) (m : Int), vs = [.ref p, .int m] ∧ Src H p ∧ 0 < m ∧ m.natAbs < big ∧ ∀ d H', 0 ≤ d → d < m → Src H' p → (∀ b, b ≠ p → H' b = H b) → Q (.int d) H'
theorem scD : FnScope ["_law_source_here", "_law_many", "_law_digit"] ["_law_source_here", "_law_many"] (defScope sDraw) := ⟨rfl, rfl, rfl, by decide +kernel, rfl, by decide +kernel, by decide +kernel⟩
theorem ok_draw {f : Addr} {fd : FuncData} (F : FunG K "_law_draw" "_law_draw" sDraw .none f fd) : FnOk P w K mg base (CXE P w) 1 f fd ["_law_source_here", "_law_many"] spDraw := by
  refine F.okN scD (fun vs H Q E h => ?_) (fun cdv A outer s H vs Q E hr h => ?_)
  · obtain ⟨p, m, rfl, _⟩ := h
    rfl
  · obtain ⟨p, m, rfl, ⟨n, sd, hp, n0, s0, s1⟩, m0, mb, q⟩ := h
    refine ⟨_, pss_cons (ps_if (pt_cmpR op_gt (pe_ix ix_list (pv 0) pe_int (fun _ _ => rfl)) pe_int (nomark _))
        (pss_cons (ps_set (i := 2) scD.nd rfl (Or.inl rfl) (pe_op op_mod (pe_ix ix_list (pv 0) pe_int (fun _ _ => rfl)) (pv 1)))
        (pss_cons (ps_asg (pe_op op_fdivP (pe_ix ix_list (pv 0) pe_int (fun _ _ => rfl)) (pv 1)) (pg_sub (pv 0) pe_int set_list))
        (pss_one (ps_ret (pv 2))))) pss_nil)
      (pss_cons (ps_asg (pe_op op_mod (pe_op op_add (pe_op op_mul (pe_ix ix_list (pv 0) pe_int (fun _ _ => rfl)) pe_int) pe_int) pe_int) (pg_sub (pv 0) pe_int set_list))
      (pss_one (ps_ret (pe_op op_mod (pe_op op_fdiv (pe_op op_mod (pe_op op_mul (pe_ix ix_list (pv 0) pe_int (fun _ _ => rfl)) (pe_ix ix_list (pv 0) pe_int (fun _ _ => rfl))) pe_int) pe_int) (pv 1))))), ?_⟩
    have st : SqL K H p [.int n, .int sd] := SqL.of hp
    refine ⟨_, rfl, p, _, _, _, rfl, rfl, st, rfl, _, _, rfl, rfl, _, rfl, ?_⟩
    refine ite2 (fun hn => ?_) (fun hn => ?_)
    · have n1 : (0 : Int) < n := of_decide_eq_true hn
      refine ⟨_, rfl, p, _, _, _, rfl, rfl, st, rfl, _, rfl, _, _, rfl, rfl, m0, ?_⟩
      refine ⟨_, rfl, p, _, _, _, rfl, rfl, st, rfl, _, rfl, _, _, rfl, rfl, ⟨m0, mb⟩, _, rfl, p, _, _, 0, rfl, rfl, hp, rfl, ?_⟩
      refine ⟨_, rfl, ?_⟩
      exact q _ _ (Int.emod_nonneg _ (by omega)) (Int.emod_lt_of_pos _ m0) ⟨_, _, upd_same, Int.ediv_nonneg n0 (by omega), s0, s1⟩ fun b hb => upd_ne hb
    · refine ⟨_, rfl, p, _, _, _, rfl, rfl, st, rfl, _, _, rfl, rfl, .inr ⟨by decide, by decide⟩, _, _, rfl, rfl, _, _, rfl, rfl, (by show (0 : Int) < 2147483647; decide), _, rfl, p, _, _, 1, rfl, rfl, hp, rfl, ?_⟩
      have t0 : (0 : Int) ≤ (sd * 48271 + 11) % 2147483647 := Int.emod_nonneg _ (by decide)
      have t1 : (sd * 48271 + 11) % 2147483647 < 2147483647 := Int.emod_lt_of_pos _ (by decide)
      have st2 : SqL K (upd H p (.lst [.int n, .int ((sd * 48271 + 11) % 2147483647)])) p [.int n, .int ((sd * 48271 + 11) % 2147483647)] := SqL.of upd_same
      refine ⟨_, rfl, p, _, _, _, rfl, rfl, st2, rfl, _, rfl, p, _, _, _, rfl, rfl, st2, rfl, _, _, rfl, rfl, .inl ⟨by show _ < (sd * 48271 + 11) % 2147483647; omega, by show (sd * 48271 + 11) % 2147483647 < _; omega⟩, _, _, rfl, rfl, (by show (0 : Int) < 2147483629; decide), _, _, rfl, rfl, ⟨by decide, by decide⟩, _, rfl, _, _, rfl, rfl, m0, ?_⟩
      exact q _ _ (Int.emod_nonneg _ (by omega)) (Int.emod_lt_of_pos _ m0) ⟨_, _, upd_same, n0, t0, t1⟩ fun b hb => upd_ne hb
end
end G1

/-! ===== K02f ===== -/
set_option Elab.async false
set_option linter.all false
set_option maxRecDepth 100000
set_option maxHeartbeats 1000000
namespace L2
open PySem PySem.Spec PyProof.Rows
/-! argument lists, item by item, whatever stands behind -/
section
variable {X : Cx} {es : List Expr} {t : TA} {te : TE} {pos : Pos} {l r : List Expr} {k : Nat} {o : Operator} {a b : Expr} {cst : Const} {x : Str} {u : UnaryOp} {kw : List Keyword} {f : Expr}
theorem pac_c (ha : PE X (.Constant cst k pos) te) (hr : PA X es t) : PA X (.Constant cst k pos :: es) (tCons te t) := pa_cons ha hr rfl
theorem pac_n (ha : PE X (.Name x pos) te) (hr : PA X es t) : PA X (.Name x pos :: es) (tCons te t) := pa_cons ha hr rfl
theorem pac_t (ha : PE X (.Tuple l k pos) te) (hr : PA X es t) : PA X (.Tuple l k pos :: es) (tCons te t) := pa_cons ha hr rfl
theorem pac_b (ha : PE X (.BinOp a o b pos) te) (hr : PA X es t) : PA X (.BinOp a o b pos :: es) (tCons te t) := pa_cons ha hr rfl
theorem pac_u (ha : PE X (.UnaryOp u a pos) te) (hr : PA X es t) : PA X (.UnaryOp u a pos :: es) (tCons te t) := pa_cons ha hr rfl
theorem pac_f (ha : PE X (.Call f l kw pos) te) (hr : PA X es t) : PA X (.Call f l kw pos :: es) (tCons te t) := pa_cons ha hr rfl
end
end L2
namespace G1
open PySem L2 GM
def Ext (p : Addr) (H H' : Hp) : Prop := ∀ b o, b ≠ p → H b = some o → H' b = some o
theorem Ext.trans {p : Addr} {H H1 H2 : Hp} (a : Ext p H H1) (b : Ext p H1 H2) : Ext p H H2 := fun c o n h => b c o n (a c o n h)
theorem Ext.of_eq {p : Addr} {H H' : Hp} (h : ∀ b, b ≠ p → H' b = H b) : Ext p H H' := fun b o n e => (h b n).trans e
theorem Ext.new {p l : Addr} {H : Hp} {o : HO} (h : H l = none) : Ext p H (upd H l o) := fun b u _ e => by rw [upd_ne (ne_of_none e h)]; exact e
theorem Src.new {H : Hp} {p l : Addr} {o : HO} (s : Src H p) (h : H l = none) : Src (upd H l o) p := by
  obtain ⟨n, d, e, r⟩ := s.ex
  exact ⟨n, d, by rw [upd_ne (ne_of_none e h)]; exact e, r⟩
theorem Src.ne {H : Hp} {p l : Addr} (s : Src H p) (h : H l = none) : l ≠ p := fun z => by
  obtain ⟨n, d, e, _⟩ := s.ex
  rw [← z, h] at e; cases e
end G1

/-! ===== SealB ===== -/
set_option Elab.async false
set_option linter.all false
set_option maxRecDepth 100000
set_option maxHeartbeats 1000000
/-! the rules again, over sealed judgements: the elaborator must not look into them -/
namespace L2
open PySem PySem.Spec PyProof.Rows
structure SPE (X : Cx) (e : Expr) (t : TE) : Prop where
  out : PE X e t
structure SPT (X : Cx) (e : Expr) (t : TT) : Prop where
  out : PT X e t
structure SPW (X : Cx) (e : Expr) (t : TT) : Prop where
  out : PW X e t
structure SPA (X : Cx) (es : List Expr) (t : TA) : Prop where
  out : PA X es t
structure SPS (X : Cx) (st : Stmt) (t : TS) : Prop where
  out : PS X st t
structure SPSs (X : Cx) (st : List Stmt) (t : TS) : Prop where
  out : PSs X st t
structure SPG (X : Cx) (e : Expr) (t : TG) : Prop where
  out : PG X e t
structure SPGs (X : Cx) (es : List Expr) (t : TGs) : Prop where
  out : PGs X es t
structure SPI (X : Cx) (tg e : Expr) (t : TI) : Prop where
  out : PI X tg e t
structure SPEX (X : Cx) (e : Expr) (t : TEX) : Prop where
  out : PEX X e t
structure SPSX (X : Cx) (st : List Stmt) (t : TSX) : Prop where
  out : PSX X st t
structure SPC (X : Cx) (op : CmpOp) (a b : Expr) (t : TE) : Prop where
  out : PC X op a b t
structure SPO (X : Cx) (e : Option Expr) (t : TO) : Prop where
  out : PO X e t
theorem SPW.pt {X : Cx} {e : Expr} {t : TT} (h : SPW X e t) : SPT X e t := ⟨h.out.pt⟩
section
variable {X : Cx}
theorem zpv (i : Nat) {x : Str} {pos : Pos} (hN : X.N[i]? = some x := by rfl) (hv : Vis X.env.scope x := by first | exact Or.inl rfl | exact Or.inr (Or.inl rfl) | exact Or.inr (Or.inr rfl)) (hd : (x == ("__debug__" : Str)) = false := by decide) (hcd : (x == ("__classdict__" : Str)) = false := by decide) : SPE X (.Name x pos) (tVar i) := ⟨pv i hN hv hd hcd⟩
end
section
variable {X : Cx}
theorem zpe_int {i j pos} : SPE X (.Constant (.int i) j pos) (tC (.int i)) := ⟨pe_int ⟩
end
section
variable {X : Cx}
theorem zpe_bl {b j pos} : SPE X (.Constant (.bool b) j pos) (tC (.bl b)) := ⟨pe_bl ⟩
end
section
variable {X : Cx}
theorem zpe_non {j pos} : SPE X (.Constant .none j pos) (tC .non) := ⟨pe_non ⟩
end
section
variable {X : Cx}
theorem zpe_str {x j pos} : SPE X (.Constant (.str x) j pos) (tC (.str x)) := ⟨pe_str ⟩
end
section
variable {X : Cx}
theorem zpe_glob {x : Str} {v : V} {u : Value} {pos : Pos} (hg : Gl X x) (hm : X.mg x = some u) (r : RelV v u) (hd : (x == ("__debug__" : Str)) = false := by decide) : SPE X (.Name x pos) (tC v) := ⟨pe_glob hg hm r hd⟩
end
section
variable {X : Cx}
theorem zpe_bltn {x : Str} {v : V} {u : Value} {pos : Pos} (hg : Gl X x) (hm : X.mg x = none) (hv : bootBuiltins x = some u) (r : RelV v u) (hn : x ≠ "__name__" := by decide) (hd : (x == ("__debug__" : Str)) = false := by decide) : SPE X (.Name x pos) (tC v) := ⟨pe_bltn hg hm hv r hn hd⟩
end
section
variable {X : Cx} {a b : Expr} {ta tb : TE} {pos : Pos} {tA tB' : TT} {rest : List Expr}
theorem zpe_one {op} {t : TE} (h : SPE X a t) : SPE X (.BoolOp op [a] pos) t := ⟨pe_one h.out⟩
end
section
variable {X : Cx} {a b : Expr} {ta tb : TE} {pos : Pos} {tA tB' : TT} {rest : List Expr}
theorem zpe_and (ha : SPE X a ta) (hb : SPE X (.BoolOp .And (b :: rest) pos) tb) : SPE X (.BoolOp .And (a :: b :: rest) pos) (tAndV ta tb) := ⟨pe_and ha.out hb.out⟩
end
section
variable {X : Cx} {a b : Expr} {ta tb : TE} {pos : Pos} {tA tB' : TT} {rest : List Expr}
end
section
variable {X : Cx} {a b : Expr} {ta tb : TE} {pos : Pos} {tA tB' : TT} {rest : List Expr}
end
section
variable {X : Cx} {a b : Expr} {ta tb : TE} {pos : Pos} {tA tB' : TT} {rest : List Expr}
end
section
variable {X : Cx} {a b : Expr} {ta tb : TE} {pos : Pos}
theorem zpe_cmp {op : CmpOp} {t : TE} (h : SPC X op a b t) (h1 : behindInMarks op b = false := by first | exact nobehind _ (by decide) (by decide) | rfl) : SPE X (.Compare a [op] [b] pos) t := ⟨pe_cmp h.out h1⟩
end
section
variable {X : Cx} {a b : Expr} {ta tb : TE} {pos : Pos}
theorem zpc_isN {j pos'} (ha : SPE X a ta) : SPC X .Is a (.Constant .none j pos') (tIsN ta) := ⟨pc_isN ha.out⟩
end
section
variable {X : Cx} {a b : Expr} {ta tb : TE} {pos : Pos}
end
section
variable {X : Cx} {a b : Expr} {ta tb : TE} {pos : Pos}
end
section
variable {X : Cx} {a b : Expr} {ta tb : TE} {pos : Pos}
theorem zpt_val {e : Expr} {t : TE} (h : SPE X e t) (he : ∀ whole, isTrue e X.env whole = (do let v ← whole; standAt e.pos; holding [v] (truthy v)) := by intro _; rfl) : SPT X e (tB t) := ⟨pt_val h.out he⟩
end
section
variable {X : Cx} {a b : Expr} {ta tb : TE} {pos : Pos} {tA tB' : TT} {rest : List Expr}
theorem zpw_and1 (ha : SPT X a tA) : SPW X (.BoolOp .And [a] pos) tA := ⟨pw_and1 ha.out⟩
end
section
variable {X : Cx} {a b : Expr} {ta tb : TE} {pos : Pos} {tA tB' : TT} {rest : List Expr}
theorem zpw_or1 (ha : SPT X a tA) : SPW X (.BoolOp .Or [a] pos) tA := ⟨pw_or1 ha.out⟩
end
section
variable {X : Cx} {a b : Expr} {ta tb : TE} {pos : Pos} {tA tB' : TT} {rest : List Expr}
theorem zpw_and (ha : SPT X a tA) (hb : SPW X (.BoolOp .And (b :: rest) pos) tB') : SPW X (.BoolOp .And (a :: b :: rest) pos) (tAnd tA tB') := ⟨pw_and ha.out hb.out⟩
end
section
variable {X : Cx} {a b : Expr} {ta tb : TE} {pos : Pos} {tA tB' : TT} {rest : List Expr}
theorem zpw_or (ha : SPT X a tA) (hb : SPW X (.BoolOp .Or (b :: rest) pos) tB') : SPW X (.BoolOp .Or (a :: b :: rest) pos) (tOr tA tB') := ⟨pw_or ha.out hb.out⟩
end
section
variable {X : Cx} {a b : Expr} {ta tb : TE} {pos : Pos} {tA tB' : TT} {rest : List Expr}
theorem zpt_not (ha : SPT X a tA) : SPT X (.UnaryOp .Not a pos) (tNot tA) := ⟨pt_not ha.out⟩
end
section
variable {X : Cx} {st : Stmt} {rest : List Stmt} {t u : TS} {e : Expr} {te : TE} {pos : Pos}
theorem zpss_nil  : SPSs X [] tNext := ⟨pss_nil ⟩
end
section
variable {X : Cx} {st : Stmt} {rest : List Stmt} {t u : TS} {e : Expr} {te : TE} {pos : Pos}
theorem zpss_cons (h1 : SPS X st t) (h2 : SPSs X rest u) : SPSs X (st :: rest) (tSeq t u) := ⟨pss_cons h1.out h2.out⟩
end
section
variable {X : Cx} {st : Stmt} {rest : List Stmt} {t u : TS} {e : Expr} {te : TE} {pos : Pos}
theorem zpss_one (h1 : SPS X st t) : SPSs X [st] t := ⟨pss_one h1.out⟩
end
section
variable {X : Cx} {st : Stmt} {rest : List Stmt} {t u : TS} {e : Expr} {te : TE} {pos : Pos}
end
section
variable {X : Cx} {st : Stmt} {rest : List Stmt} {t u : TS} {e : Expr} {te : TE} {pos : Pos}
end
section
variable {X : Cx} {st : Stmt} {rest : List Stmt} {t u : TS} {e : Expr} {te : TE} {pos : Pos}
end
section
variable {X : Cx} {st : Stmt} {rest : List Stmt} {t u : TS} {e : Expr} {te : TE} {pos : Pos}
theorem zps_expr (he : SPE X e te) (hs : swapsWith e none pos.line X.env = pure false := by rfl) : SPS X (.Expr e pos) (tDrop te) := ⟨ps_expr he.out hs⟩
end
section
variable {X : Cx} {st : Stmt} {rest : List Stmt} {t u : TS} {e : Expr} {te : TE} {pos : Pos}
theorem zps_ret (he : SPE X e te) : SPS X (.Return (some e) pos) (tRet te) := ⟨ps_ret he.out⟩
end
section
variable {X : Cx} {st : Stmt} {rest : List Stmt} {t u : TS} {e : Expr} {te : TE} {pos : Pos}
end
section
variable {X : Cx} {st : Stmt} {rest : List Stmt} {t u : TS} {e : Expr} {te : TE} {pos : Pos}
theorem zps_if {c : Expr} {a b : List Stmt} {tc : TT} (hc : SPT X c tc) (ha : SPSs X a t) (hb : SPSs X b u) : SPS X (.If c a b pos) (tIfS tc t u) := ⟨ps_if hc.out ha.out hb.out⟩
end
section
variable {X : Cx} {pos : Pos}
theorem zpg_name {i : Nat} {x : Str} (hN : X.N.Nodup) (hi : X.N[i]? = some x) (hx : Loc X.env.scope x) (hf : X.fn x = true ∨ X.env.scope.names.lookup x = some .local := by first | exact .inl rfl | exact .inr rfl | assumption) : SPG X (.Name x pos) (gName i) := ⟨pg_name hN hi hx hf⟩
end
section
variable {X : Cx} {pos : Pos}
theorem zpgs_nil  : SPGs X [] gNil := ⟨pgs_nil ⟩
end
section
variable {X : Cx} {pos : Pos}
theorem zpgs_cons {e : Expr} {es : List Expr} {t : TG} {u : TGs} (h1 : SPG X e t) (h2 : SPGs X es u) (hs : (assignEach (e :: es) X.env).map (·.2) = assign e X.env :: (assignEach es X.env).map (·.2) := by rfl) : SPGs X (e :: es) (gCons t u) := ⟨pgs_cons h1.out h2.out hs⟩
end
section
variable {X : Cx} {pos : Pos}
theorem zpg_tup {es : List Expr} {k : Nat} {t : TGs} {n : Nat} (hc : X.calm = true) (h : SPGs X es t) (hn : (assignEach es X.env).length = n := by rfl) (hst : (assignEach es X.env).findIdx? (·.1) = none := by rfl) : SPG X (.Tuple es k pos) (gTup X.K n t) := ⟨pg_tup hc h.out hn hst⟩
end
section
variable {X : Cx} {pos : Pos}
end
section
variable {X : Cx} {pos : Pos}
theorem zps_asg {tg e : Expr} {te : TE} {g : TG} (he : SPE X e te) (hg : SPG X tg g) (hs : swapsWithSole [tg] e pos.line X.env = pure false := by rfl) (hw : swappedStores [tg] e X.env = pure none := by rfl) (h1 : (assignEach [tg] X.env).map (·.2) = [assign tg X.env] := by rfl) : SPS X (.Assign [tg] e pos) (tAsg te g) := ⟨ps_asg he.out hg.out hs hw h1⟩
end
section
variable {X : Cx} {pos : Pos}
theorem zps_set {i : Nat} {x : Str} {e : Expr} {te : TE} {pos' : Pos} (hN : X.N.Nodup) (hi : X.N[i]? = some x) (hx : Loc X.env.scope x) (he : SPE X e te) (hs : swapsWith e (some (.Name x pos')) pos.line X.env = pure false := by rfl) (hf : X.fn x = true ∨ X.env.scope.names.lookup x = some .local := by first | exact .inl rfl | exact .inr rfl | assumption) : SPS X (.Assign [.Name x pos'] e pos) (tAsg te (gName i)) := ⟨ps_set hN hi hx he.out hs hf⟩
end
section
variable {X : Cx} {pos : Pos}
end
section
variable {X : Cx} {pos : Pos}
end
section
variable {X : Cx} {pos : Pos}
end
section
variable {X : Cx} {tg : Expr}
theorem zpi_list {l : Expr} {tl : TE} (hl : SPE X l tl) : SPI X tg l (iList X.K tl) := ⟨pi_list hl.out⟩
end
section
variable {X : Cx} {tg : Expr}
end
section
variable {X : Cx} {tg : Expr}
end
section
variable {X : Cx} {tg : Expr}
end
section
variable {X : Cx} {es : List Expr} {tk : Nat} {tpos : Pos}
theorem zpi_enum {l : Expr} {ta : TA} {p pos : Pos} (hg : Gl X "enumerate") (hm : X.mg "enumerate" = none) (ha : SPA X [l] ta) (hs : starEach [l] X.env = [(false, eval l X.env)] := by rfl) : SPI X (.Tuple es tk tpos) (.Call (.Name "enumerate" p) [l] [] pos) (iEnum X.K ta) := ⟨pi_enum hg hm ha.out hs⟩
end
section
variable {X : Cx} {tg : Expr}
theorem zps_for {iter : Expr} {body : List Stmt} {wi : TI} {g : TG} {tb : TS} {pos : Pos} (hp : PassesOwn (model X.prog X.w) X.A X.env X.xe) (hc : X.calm = true) (hi : SPI X tg iter wi) (hg : SPG X tg g) (hb : SPSs X body tb) (hs : ∀ x, foldedSetIterable iter X.env x = pure x := by intro _; rfl) : SPS X (.For tg iter body [] pos) (tFor wi g tb) := ⟨ps_for hp hc hi.out hg.out hb.out hs⟩
end
section
variable {X : Cx} {a b c : Expr} {ta tb tc : TE} {pos : Pos}
theorem zpe_op {op : Operator} {r : R2} (ho : OpR X (binaryOp op) r) (ha : SPE X a ta) (hb : SPE X b tb) : SPE X (.BinOp a op b pos) (tOp r ta tb) := ⟨pe_op ho ha.out hb.out⟩
end
section
variable {X : Cx} {a b c : Expr} {ta tb tc : TE} {pos : Pos}
theorem zpe_un {op : UnaryOp} {r : V → Hp → VK → Prop} (ho : UnR X (unaryOp op) r) (ha : SPE X a ta) : SPE X (.UnaryOp op a pos) (tUn r ta) := ⟨pe_un ho ha.out⟩
end
section
variable {X : Cx} {a b c : Expr} {ta tb tc : TE} {pos : Pos}
theorem zpe_cmpR {op : CmpOp} {r : R2} (ho : OpR X (compareOp op) r) (ha : SPE X a ta) (hb : SPE X b tb) (hm : behindInMarks op b = false) : SPE X (.Compare a [op] [b] pos) (tOp r ta tb) := ⟨pe_cmpR ho ha.out hb.out hm⟩
end
section
variable {X : Cx} {a b c : Expr} {ta tb tc : TE} {pos : Pos}
theorem zpt_cmpR {op : CmpOp} {r : R2} (ho : OpR X (compareOp op) r) (ha : SPE X a ta) (hb : SPE X b tb) (hm : behindInMarks op b = false) : SPT X (.Compare a [op] [b] pos) (tTest (tOp r ta tb)) := ⟨pt_cmpR ho ha.out hb.out hm⟩
end
section
variable {X : Cx} {a b c : Expr} {ta tb tc : TE} {pos : Pos}
end
section
variable {X : Cx} {a b c : Expr} {ta tb tc : TE} {pos : Pos}
end
section
variable {X : Cx} {a b c : Expr} {ta tb tc : TE} {pos : Pos}
end
section
variable {X : Cx} {e : Expr} {es : List Expr} {te : TE} {t : TA} {pos : Pos}
theorem zpe_tup {x1} (h : SPA X es t) : SPE X (.Tuple es x1 pos) (tTup t) := ⟨pe_tup h.out⟩
end
section
variable {X : Cx} {e : Expr} {es : List Expr} {te : TE} {t : TA} {pos : Pos}
theorem zpe_lst (h : SPA X es t) : SPE X (.List es pos) (tLst t) := ⟨pe_lst h.out⟩
end
section
variable {X : Cx} {CX : CXT} {k : Nat} {f C : Addr} {fd : FuncData} {ps : List Str} {sp : Sp} {dvs : List V} {ds : List Value} {E : XK} {x m : Str} {p pos apos : Pos} {e o : Expr} {es : List Expr} {ta : TE} {t : TA}
theorem zpe_call (F : FnOk X.prog X.w X.K X.mg X.base CX k f fd ps sp) (hr : Room k X.A) (hg : Gl X x) (hm : X.mg x = some (.ref f)) (hk : PySem.W.keepIn X.K (.ref f) = true) (hb : Binds X.K fd ps ds) (hd : Vals dvs ds) (hx : Passes CX X E) (ha : SPA X (e :: es) t) (hdb : (x == ("__debug__" : Str)) = false := by decide) (he : starEach (e :: es) X.env = (false, eval e X.env) :: starEach es X.env := by rfl) (hpl : (backTo pos (starEach es X.env)).any (·.1) = false := by rfl) : SPE X (.Call (.Name x p) (e :: es) [] pos) (tCall sp dvs E t) := ⟨pe_call F hr hg hm hk hb hd hx ha.out hdb he hpl⟩
end
section
variable {X : Cx} {CX : CXT} {k : Nat} {f C : Addr} {fd : FuncData} {ps : List Str} {sp : Sp} {dvs : List V} {ds : List Value} {E : XK} {x m : Str} {p pos apos : Pos} {e o : Expr} {es : List Expr} {ta : TE} {t : TA}
end
section
variable {X : Cx} {x : Str} {p pos : Pos} {e : Expr} {es : List Expr} {t : TA} {id T : String} {r : List V → Hp → VK → Prop}
theorem zpe_callB (hc : CallR X (.builtin id) r) (hg : Gl X x) (hm : X.mg x = none) (hv : bootBuiltins x = some (.builtin id)) (ha : SPA X (e :: es) t) (hn : x ≠ "__name__" := by decide) (hdb : (x == ("__debug__" : Str)) = false := by decide) (he : starEach (e :: es) X.env = (false, eval e X.env) :: starEach es X.env := by rfl) (hpl : (backTo pos (starEach es X.env)).any (·.1) = false := by rfl) : SPE X (.Call (.Name x p) (e :: es) [] pos) (tCB r t) := ⟨pe_callB hc hg hm hv ha.out hn hdb he hpl⟩
end
section
variable {X : Cx} {x : Str} {p pos : Pos} {e : Expr} {es : List Expr} {t : TA} {id T : String} {r : List V → Hp → VK → Prop}
theorem zpe_callTy (hc : CallR X (.type T) r) (hg : Gl X x) (hm : X.mg x = none) (hv : bootBuiltins x = some (.type T)) (ha : SPA X (e :: es) t) (hn : x ≠ "__name__" := by decide) (hdb : (x == ("__debug__" : Str)) = false := by decide) (he : starEach (e :: es) X.env = (false, eval e X.env) :: starEach es X.env := by rfl) (hpl : (backTo pos (starEach es X.env)).any (·.1) = false := by rfl) : SPE X (.Call (.Name x p) (e :: es) [] pos) (tCB r t) := ⟨pe_callTy hc hg hm hv ha.out hn hdb he hpl⟩
end
section
variable {X : Cx} {x : Str} {p pos : Pos} {e : Expr} {es : List Expr} {t : TA} {id T : String} {r : List V → Hp → VK → Prop}
end
section
variable {X : Cx} {e : Expr} {te : TE} {lo hi : Option Expr} {tl th : TO} {pos p2 : Pos}
theorem zpe_slice {r : V → Option Int → Option Int → Hp → VK → Prop} (hr : SlR X r) (he : SPE X e te) (hl : SPO X lo tl) (hu : SPO X hi th) : SPE X (.Subscript e (.Slice lo hi none p2) pos) (tSl r te tl th) := ⟨pe_slice hr he.out hl.out hu.out⟩
end
section
variable {X : Cx} {e : Expr} {te : TE} {lo hi : Option Expr} {tl th : TO} {pos p2 : Pos}
theorem zpo_none  : SPO X none tNoPart := ⟨po_none ⟩
end
section
variable {X : Cx} {e : Expr} {te : TE} {lo hi : Option Expr} {tl th : TO} {pos p2 : Pos}
theorem zpo_some (h : SPE X e te) : SPO X (some e) (tPart te) := ⟨po_some h.out⟩
end
section
variable {X : Cx} {a b : Expr} {ta tb : TE} {pos : Pos}
theorem zpe_ix {r : R2} (hr : IxR X r) (ha : SPE X a ta) (hb : SPE X b tb) (hs : PlainIx b) : SPE X (.Subscript a b pos) (tOp r ta tb) := ⟨pe_ix hr ha.out hb.out hs⟩
end
section
variable {X : Cx} {a b : Expr} {ta tb : TE} {pos : Pos} {o e : Expr} {es : List Expr} {to : TE} {t : TA} {name : Str} {apos cpos : Pos} {T id : String} {r : V → List V → Hp → VK → Prop}
end
section
variable {X : Cx} {a b : Expr} {ta tb : TE} {pos : Pos} {o e : Expr} {es : List Expr} {to : TE} {t : TA} {name : Str} {apos cpos : Pos} {T id : String} {r : V → List V → Hp → VK → Prop}
theorem zpe_bm (pa : PlainAttrs T) (slot : Slot T name id) (hty : typeOf (.builtin id) = pure (.type "method_descriptor")) (hm : MtR X id r) (ho : SPE X o to) (ha : SPA X (e :: es) t) (hbase : attributeBase o name X.env (eval o X.env) = eval o X.env := by rfl) (hfew : ((backTo cpos (starEach (e :: es) X.env)).all (fun x => !x.1) && (backToKw cpos (keywordEach [] X.env)).all (fun x => x.1.isSome)
      && decide ((e :: es).length + ([] : List Keyword).length + (if ([] : List Keyword).isEmpty then 0 else 1) < 30)) = true := by rfl) (hline : (apos.endLine == cpos.line) = true := by rfl) (hs : starEach (e :: es) X.env = (false, eval e X.env) :: starEach es X.env := by rfl) (hplain : (backTo cpos (starEach es X.env)).any (·.1) = false := by rfl) : SPE X (.Call (.Attribute o name apos) (e :: es) [] cpos) (tBM X.K T r to t) := ⟨pe_bm pa slot hty hm ho.out ha.out hbase hfew hline hs hplain⟩
end
section
variable {X : Cx} {e : Expr} {es : List Expr} {te : TE} {t : TA} {pos : Pos}
theorem zpa_nil  : SPA X [] tNil := ⟨pa_nil ⟩
end
section
variable {X : Cx} {e : Expr} {es : List Expr} {te : TE} {t : TA} {pos : Pos}
end
section
end
section
theorem zps_raise {X : Cx} {x : Str} {C : Addr} {e0 : Expr} {es : List Expr} {t : TA} {E : XK} {np cpos pos : Pos} (hth : ∀ (pins : List (Addr × Obj)) (σ : St) (H : Hp) (s : Shared) (h1 : Heap) (e : Addr) (args : List Value), Inv X pins σ H s → Heap.MadeExcOf s.heap h1 e (.ref C) args → E (.ref C) none H → X.xe (.ref e) { s with heap := h1 }) (hc : X.calm = true) (hg : Gl X x) (hm : X.mg x = some (.ref C)) (q : ExcK X.K C) (ha : SPA X (e0 :: es) t) (hd : (x == ("__debug__" : Str)) = false := by decide) (he : starEach (e0 :: es) X.env = (false, eval e0 X.env) :: starEach es X.env := by rfl) (hp : (backTo cpos (starEach es X.env)).any (·.1) = false := by rfl) : SPS X (.Raise (some (.Call (.Name x np) (e0 :: es) [] cpos)) none pos) (tRaise C E t) := ⟨ps_raise hth hc hg hm q ha.out hd he hp⟩
end
section
variable {X : Cx} {k : Nat} {f : Addr} {fd : FuncData} {ps : List Str} {sp : Sp} {dvs : List V} {ds : List Value} {x : Str} {p pos : Pos} {e : Expr} {es : List Expr} {t : TA}
theorem zpex_call (F : FnOk X.prog X.w X.K X.mg X.base (CXE X.prog X.w) k f fd ps sp) (hr : Room k X.A) (hg : Gl X x) (hm : X.mg x = some (.ref f)) (hk : PySem.W.keepIn X.K (.ref f) = true) (hb : Binds X.K fd ps ds) (hd : Vals dvs ds) (ha : SPA X.nox (e :: es) t) (hdb : (x == ("__debug__" : Str)) = false := by decide) (he : starEach (e :: es) X.env = (false, eval e X.env) :: starEach es X.env := by rfl) (hpl : (backTo pos (starEach es X.env)).any (·.1) = false := by rfl) : SPEX X (.Call (.Name x p) (e :: es) [] pos) (tCallX sp dvs t) := ⟨pex_call F hr hg hm hk hb hd ha.out hdb he hpl⟩
end
section
variable {X : Cx} {k : Nat} {f : Addr} {fd : FuncData} {ps : List Str} {sp : Sp} {dvs : List V} {ds : List Value} {x : Str} {p pos : Pos} {e : Expr} {es : List Expr} {t : TA}
end
section
variable {X : Cx} {k : Nat} {f : Addr} {fd : FuncData} {ps : List Str} {sp : Sp} {dvs : List V} {ds : List Value} {x : Str} {p pos : Pos} {e : Expr} {es : List Expr} {t : TA}
theorem zpsx_asg {i : Nat} {y : Str} {te : TEX} {py : Pos} (hN : X.N.Nodup) (hi : X.N[i]? = some y) (hx : Loc X.env.scope y) (he : SPEX X e te) (hs : swapsWith e (some (.Name y py)) pos.line X.env = pure false := by rfl) (hf : X.fn y = true ∨ X.env.scope.names.lookup y = some .local := by first | exact .inl rfl | exact .inr rfl | assumption) : SPSX X [.Assign [.Name y py] e pos] (fun D E σ H => te σ H (fun v H1 => D.nx (σ.set i (some v)) H1) E) := ⟨psx_asg hN hi hx he.out hs hf⟩
end
section
variable {X : Cx} {k : Nat} {f : Addr} {fd : FuncData} {ps : List Str} {sp : Sp} {dvs : List V} {ds : List Value} {x : Str} {p pos : Pos} {e : Expr} {es : List Expr} {t : TA}
end
section
variable {X : Cx} {k : Nat} {f : Addr} {fd : FuncData} {ps : List Str} {sp : Sp} {dvs : List V} {ds : List Value} {x : Str} {p pos : Pos} {e : Expr} {es : List Expr} {t : TA}
end
section
end
section
variable {X : Cx} {es : List Expr} {t : TA} {te : TE} {pos : Pos} {l r : List Expr} {k : Nat} {o : Operator} {a b : Expr} {cst : Const} {x : Str} {u : UnaryOp} {kw : List Keyword} {f : Expr}
theorem zpac_c (ha : SPE X (.Constant cst k pos) te) (hr : SPA X es t) : SPA X (.Constant cst k pos :: es) (tCons te t) := ⟨pac_c ha.out hr.out⟩
end
section
variable {X : Cx} {es : List Expr} {t : TA} {te : TE} {pos : Pos} {l r : List Expr} {k : Nat} {o : Operator} {a b : Expr} {cst : Const} {x : Str} {u : UnaryOp} {kw : List Keyword} {f : Expr}
theorem zpac_n (ha : SPE X (.Name x pos) te) (hr : SPA X es t) : SPA X (.Name x pos :: es) (tCons te t) := ⟨pac_n ha.out hr.out⟩
end
section
variable {X : Cx} {es : List Expr} {t : TA} {te : TE} {pos : Pos} {l r : List Expr} {k : Nat} {o : Operator} {a b : Expr} {cst : Const} {x : Str} {u : UnaryOp} {kw : List Keyword} {f : Expr}
end
section
variable {X : Cx} {es : List Expr} {t : TA} {te : TE} {pos : Pos} {l r : List Expr} {k : Nat} {o : Operator} {a b : Expr} {cst : Const} {x : Str} {u : UnaryOp} {kw : List Keyword} {f : Expr}
theorem zpac_t (ha : SPE X (.Tuple l k pos) te) (hr : SPA X es t) : SPA X (.Tuple l k pos :: es) (tCons te t) := ⟨pac_t ha.out hr.out⟩
end
section
variable {X : Cx} {es : List Expr} {t : TA} {te : TE} {pos : Pos} {l r : List Expr} {k : Nat} {o : Operator} {a b : Expr} {cst : Const} {x : Str} {u : UnaryOp} {kw : List Keyword} {f : Expr}
end
section
variable {X : Cx} {es : List Expr} {t : TA} {te : TE} {pos : Pos} {l r : List Expr} {k : Nat} {o : Operator} {a b : Expr} {cst : Const} {x : Str} {u : UnaryOp} {kw : List Keyword} {f : Expr}
theorem zpac_b (ha : SPE X (.BinOp a o b pos) te) (hr : SPA X es t) : SPA X (.BinOp a o b pos :: es) (tCons te t) := ⟨pac_b ha.out hr.out⟩
end
section
variable {X : Cx} {es : List Expr} {t : TA} {te : TE} {pos : Pos} {l r : List Expr} {k : Nat} {o : Operator} {a b : Expr} {cst : Const} {x : Str} {u : UnaryOp} {kw : List Keyword} {f : Expr}
theorem zpac_u (ha : SPE X (.UnaryOp u a pos) te) (hr : SPA X es t) : SPA X (.UnaryOp u a pos :: es) (tCons te t) := ⟨pac_u ha.out hr.out⟩
end
section
variable {X : Cx} {es : List Expr} {t : TA} {te : TE} {pos : Pos} {l r : List Expr} {k : Nat} {o : Operator} {a b : Expr} {cst : Const} {x : Str} {u : UnaryOp} {kw : List Keyword} {f : Expr}
theorem zpac_f (ha : SPE X (.Call f l kw pos) te) (hr : SPA X es t) : SPA X (.Call f l kw pos :: es) (tCons te t) := ⟨pac_f ha.out hr.out⟩
end
section
variable {X : Cx} {es : List Expr} {t : TA} {te : TE} {pos : Pos} {l r : List Expr} {k : Nat} {o : Operator} {a b : Expr} {cst : Const} {x : Str} {u : UnaryOp} {kw : List Keyword} {f : Expr}
end
theorem zps_try_as {X : Cx} {body : List Stmt} {tb : TSX} {th : TS} {d n : Str} {D : Addr} {j : Nat} {b0 : Stmt} {suite : List Stmt} {pd hpos pos : Pos} (hb : SPSX X body tb) (hN : X.N.Nodup) (hj : X.N[j]? = some n) (hx : X.env.scope.names.lookup n = some .local)
    (hst : X.stack = X.env :: X.outer) (hL : X.env.frame = some X.env.locals) (hg : Gl X d) (hm : X.mg d = some (.ref D)) (c : CatchK X.K D) (hs : ∀ e, SPSs (X.held e) (b0 :: suite) th) (hd : (d == ("__debug__" : Str)) = false := by decide) :
    SPS X (.Try body [.ExceptHandler (some (.Name d pd)) (some n) (b0 :: suite) hpos] [] [] pos) (tTryAs X.K D j tb th) := ⟨ps_try_as hb.out hN hj hx hst hL hg hm c (fun e => (hs e).out) hd⟩
end L2

/-! ===== K02g ===== -/
set_option Elab.async false
set_option linter.all false
set_option maxRecDepth 100000
set_option maxHeartbeats 1000000
/-! ### a def by sealed rules -/
namespace L2
open PySem PySem.Spec PyProof.Rows
section
variable {P : Program} {w : World} {K : PySem.W.Frag} {mg : Str → Option Value} {base : Heap} {x qual : Str} {st : Stmt} {dV : Value} {f : Addr} {fd : FuncData} {N ps : List Str} {k : Nat} {sp : Sp}
theorem FunG.zokE (F : FunG K x qual st dV f fd) (S : FnScope N ps (defScope st)) (len : ∀ vs H Q E, sp vs H Q E → vs.length = ps.length)
    (hbody : ∀ (cdv : Value) (A : Around) (outer : List Env) (s : Shared) (H : Hp) (vs : List V) (Q : VK) (E : XK), Room k (A.deeper (envOfC qual (defScope st) s.heap.objs.size f cdv)) → sp vs H Q E →
      ∃ t, SPSs (cxOf (CXE P w) P w K mg base N qual (defScope st) f cdv A outer s H E) (defBody st) t ∧ t { nx := fun _ H' => Q .non H', rt := Q } (start N vs) H) : FnOk P w K mg base (CXE P w) (k + 1) f fd ps sp :=
  F.okE S len fun cdv A outer s H vs Q E hr hsp => by
    obtain ⟨t, h, q⟩ := hbody cdv A outer s H vs Q E hr hsp
    exact ⟨t, h.out, q⟩
theorem FunG.zokN (F : FunG K x qual st dV f fd) (S : FnScope N ps (defScope st)) (len : ∀ vs H Q E, sp vs H Q E → vs.length = ps.length)
    (hbody : ∀ (cdv : Value) (A : Around) (outer : List Env) (s : Shared) (H : Hp) (vs : List V) (Q : VK) (E : XK), Room k (A.deeper (envOfC qual (defScope st) s.heap.objs.size f cdv)) → sp vs H Q E →
      ∃ t, SPSs (cxOf (CXE P w) P w K mg base N qual (defScope st) f cdv A outer s H E).nox (defBody st) t ∧ t { nx := fun _ H' => Q .non H', rt := Q } (start N vs) H) : FnOk P w K mg base (CXE P w) (k + 1) f fd ps sp :=
  F.okN S len fun cdv A outer s H vs Q E hr hsp => by
    obtain ⟨t, h, q⟩ := hbody cdv A outer s H vs Q E hr hsp
    exact ⟨t, h.out, q⟩
end
end L2

/-! ===== K02h ===== -/
set_option Elab.async false
set_option linter.all false
set_option maxRecDepth 100000
set_option maxHeartbeats 1000000
namespace GM
open G1
theorem red_frac {a b : Int} (hb : 0 < b) : FracOf a b (red a b).1 (red a b).2 := by
  have nb : b ≠ 0 := by omega
  have gp := gd_pos (a := a) nb
  obtain ⟨c, d, _, _, e3, e4, dp, gg, la, lb⟩ := parted (a := a) (b := b) (g := gd a b) nb (.inl rfl) (by omega)
  have g0 : gd a b ≠ 0 := by omega
  have fr : FracOf a b c d := ⟨⟨_, g0, e3, e4⟩, dp, gg, la, lb⟩
  have e := frac_eq hb fr
  rw [← e]
  exact fr
/-- a fraction that was drawn -/
structure Fr (f : Int × Int) : Prop where
  low : Low f.1 f.2
  n : f.1.natAbs ≤ M
  d : f.2.natAbs ≤ M
theorem fr0 : Fr (0, 1) := ⟨low0, by decide, by decide⟩
theorem sum_all : ∀ (n : Nat) (fs : List (Int × Int)), fs.length = n → (∀ f ∈ fs, Fr f) → Low (sumF fs).1 (sumF fs).2 ∧ Bd fs.length (sumF fs)
  | 0, fs, hn, _ => by
    cases fs with
    | nil => exact ⟨low0, bd0⟩
    | cons a t => simp at hn
  | n + 1, fs, hn, h => by
    have ne : fs ≠ [] := fun z => by rw [z] at hn; simp at hn
    obtain ⟨gs, f, rfl⟩ : ∃ gs f, fs = gs ++ [f] := ⟨fs.dropLast, fs.getLast ne, (List.dropLast_concat_getLast ne).symm⟩
    have hg : gs.length = n := by simpa using hn
    obtain ⟨l, b⟩ := sum_all n gs hg fun x hx => h x (by simp [hx])
    have hf := h f (by simp)
    have fp := hf.low.pos
    have bp := b.p
    have fr : FracOf ((sumF gs).1 * f.2 + f.1 * (sumF gs).2) ((sumF gs).2 * f.2) (sumF (gs ++ [f])).1 (sumF (gs ++ [f])).2 := by
      rw [sumF_snoc]
      exact red_frac (a := (sumF gs).1 * f.2 + f.1 * (sumF gs).2) (b := (sumF gs).2 * f.2) (Int.mul_pos bp fp)
    have e : (gs ++ [f]).length = gs.length + 1 := by simp
    rw [e]
    exact ⟨⟨fr.pos, fr.low⟩, bd_add b hf.n hf.d fr⟩
theorem sum_low {fs : List (Int × Int)} (h : ∀ f ∈ fs, Fr f) : Low (sumF fs).1 (sumF fs).2 := (sum_all _ fs rfl h).1
theorem sum_bd {fs : List (Int × Int)} (h : ∀ f ∈ fs, Fr f) : Bd fs.length (sumF fs) := (sum_all _ fs rfl h).2
end GM
namespace G1
open PySem L2 GM
/-- two fractions whose numbers are none too great -/
structure Two (a b c d : Int) : Prop where
  bp : 0 < b
  dp : 0 < d
  ab : a.natAbs < big
  bb : b.natAbs < big
  cb : c.natAbs < big
  db : d.natAbs < big
  bot : (b * d).natAbs < big
/-- tuples stay -/
def KT (H H' : Hp) : Prop := ∀ b xs, Rd H b (.tup xs) → Rd H' b (.tup xs)
theorem KT.same {H H' : Hp} (s : Same H H') : KT H H' := fun b xs h => by
  rcases h with h | ⟨o, h⟩
  · exact .inl (s _ _ h)
  · exact .inr ⟨o, s _ _ h⟩
theorem KT.trans {H H1 H2 : Hp} (a : KT H H1) (b : KT H1 H2) : KT H H2 := fun c xs h => b c xs (a c xs h)
theorem KT.put {H : Hp} {l : Addr} {xs : List V} {o : HO} (h : H l = some (.lst xs)) : KT H (upd H l o) := fun b ys r => by
  have ne : b ≠ l := fun z => by
    rcases r with r | ⟨o, r⟩ <;> rw [z, h] at r <;> cases r
  rcases r with r | ⟨o, r⟩
  · exact .inl (by rw [upd_ne ne]; exact r)
  · exact .inr ⟨o, by rw [upd_ne ne]; exact r⟩
theorem KT.ext {H H' : Hp} {p : Addr} (s : Src H p) (e : Ext p H H') : KT H H' := fun b ys r => by
  obtain ⟨n, d, h, _⟩ := s.ex
  have ne : b ≠ p := fun z => by
    rcases r with r | ⟨o, r⟩ <;> rw [z, h] at r <;> cases r
  rcases r with r | ⟨o, r⟩
  · exact .inl (e _ _ ne r)
  · exact .inr ⟨o, e _ _ ne r⟩
theorem KT.sq {K : PySem.W.Frag} {H H' : Hp} {p : Addr} {xs : List V} (k : KT H H') (h : SqT K H p xs) : SqT K H' p xs := by
  rcases h with h | h
  · exact .inl (k _ _ h)
  · exact .inr h
section
variable {P : Program} {w : World} {K : PySem.W.Frag} {mg : Str → Option Value} {base : Heap}
/-! plus, minus, times -/
def spTwo (K : PySem.W.Frag) (tp : Int → Int → Int → Int → Int) : Sp := fun vs H Q _ => ∃ (p q : Addr) (a b c d : Int), vs = [.ref p, .ref q] ∧ SqT K H p [.int a, .int b] ∧ SqT K H q [.int c, .int d] ∧ Two a b c d ∧
  ∀ t n m, H t = none → FracOf (tp a b c d) (b * d) n m → Q (.ref t) (upd H t (.tup [.int n, .int m]))
theorem fracI {CN : Addr} {H : Hp} {Q : VK} {E : XK} {x y : Int} (h : y ≠ 0) (hb : y.natAbs < big) (q : ∀ t n m, H t = none → FracOf x y n m → Q (.ref t) (upd H t (.tup [.int n, .int m]))) : spFrac CN [.int x, .int y] H Q E := by
  refine ⟨.int x, .int y, rfl, .int _, .int _, ?_, fun bad => absurd ⟨x, y, rfl, rfl, h⟩ bad⟩
  intro a b e1 e2 _
  injection e1 with e1
  injection e2 with e2
  subst e1 e2
  exact ⟨hb, fun t n m ht fr => q t n m ht fr⟩
theorem scPl : FnScope ["one", "other"] ["one", "other"] (defScope sPlus) := ⟨rfl, rfl, rfl, by decide +kernel, rfl, by decide +kernel, by decide +kernel⟩
theorem scMi : FnScope ["one", "other"] ["one", "other"] (defScope sMinus) := ⟨rfl, rfl, rfl, by decide +kernel, rfl, by decide +kernel, by decide +kernel⟩
theorem scTi : FnScope ["one", "other"] ["one", "other"] (defScope sTimes) := ⟨rfl, rfl, rfl, by decide +kernel, rfl, by decide +kernel, by decide +kernel⟩
theorem scOv : FnScope ["one", "other"] ["one", "other"] (defScope sOver) := ⟨rfl, rfl, rfl, by decide +kernel, rfl, by decide +kernel, by decide +kernel⟩
theorem scUn : FnScope ["one", "other"] ["one", "other"] (defScope sUnder) := ⟨rfl, rfl, rfl, by decide +kernel, rfl, by decide +kernel, by decide +kernel⟩
theorem ok_plus {f fF CN : Addr} {fd fdF : FuncData} (F : FunG K "plus" "plus" sPlus .none f fd)
    (GF : FnOk P w K mg base (CXE P w) 2 fF fdF ["top", "bottom"] (spFrac CN)) (mF : mg "fraction" = some (.ref fF)) (kF : PySem.W.keepIn K (.ref fF) = true) (b2 : Binds K fdF ["top", "bottom"] []) :
    FnOk P w K mg base (CXE P w) 3 f fd ["one", "other"] (spTwo K fun a b c d => a * d + c * b) := by
  refine F.zokN scPl (fun vs H Q E h => ?_) (fun cdv A outer s H vs Q E hr h => ?_)
  · obtain ⟨p, q, a, b, c, d, rfl, _⟩ := h
    rfl
  · obtain ⟨p, q, a, b, c, d, rfl, h1, h2, t, q'⟩ := h
    refine ⟨_, zpss_one (zps_ret (zpe_call GF hr (by rfl) mF kF b2 .nil passE0 (zpac_b (zpe_op op_add (zpe_op op_mulB (zpe_ix ix_tup (zpv 0) zpe_int (fun _ _ => rfl)) (zpe_ix ix_tup (zpv 1) zpe_int (fun _ _ => rfl)))
        (zpe_op op_mulB (zpe_ix ix_tup (zpv 1) zpe_int (fun _ _ => rfl)) (zpe_ix ix_tup (zpv 0) zpe_int (fun _ _ => rfl)))) (zpac_b (zpe_op op_mulB (zpe_ix ix_tup (zpv 0) zpe_int (fun _ _ => rfl)) (zpe_ix ix_tup (zpv 1) zpe_int (fun _ _ => rfl))) zpa_nil)))), ?_⟩
    refine ⟨_, rfl, p, _, _, _, rfl, rfl, h1, rfl, _, rfl, q, _, _, _, rfl, rfl, h2, rfl, _, _, rfl, rfl, ⟨t.ab, t.db⟩, _, rfl, q, _, _, _, rfl, rfl, h2, rfl, _, rfl, p, _, _, _, rfl, rfl, h1, rfl, _, _, rfl, rfl, ⟨t.cb, t.bb⟩, _, _, rfl, rfl,
      _, rfl, p, _, _, _, rfl, rfl, h1, rfl, _, rfl, q, _, _, _, rfl, rfl, h2, rfl, _, _, rfl, rfl, ⟨t.bb, t.db⟩, ?_⟩
    exact fracI (Int.ne_of_gt (Int.mul_pos t.bp t.dp)) t.bot q'
theorem ok_minus {f fF CN : Addr} {fd fdF : FuncData} (F : FunG K "minus" "minus" sMinus .none f fd)
    (GF : FnOk P w K mg base (CXE P w) 2 fF fdF ["top", "bottom"] (spFrac CN)) (mF : mg "fraction" = some (.ref fF)) (kF : PySem.W.keepIn K (.ref fF) = true) (b2 : Binds K fdF ["top", "bottom"] []) :
    FnOk P w K mg base (CXE P w) 3 f fd ["one", "other"] (spTwo K fun a b c d => a * d - c * b) := by
  refine F.zokN scMi (fun vs H Q E h => ?_) (fun cdv A outer s H vs Q E hr h => ?_)
  · obtain ⟨p, q, a, b, c, d, rfl, _⟩ := h
    rfl
  · obtain ⟨p, q, a, b, c, d, rfl, h1, h2, t, q'⟩ := h
    refine ⟨_, zpss_one (zps_ret (zpe_call GF hr (by rfl) mF kF b2 .nil passE0 (zpac_b (zpe_op op_sub (zpe_op op_mulB (zpe_ix ix_tup (zpv 0) zpe_int (fun _ _ => rfl)) (zpe_ix ix_tup (zpv 1) zpe_int (fun _ _ => rfl)))
        (zpe_op op_mulB (zpe_ix ix_tup (zpv 1) zpe_int (fun _ _ => rfl)) (zpe_ix ix_tup (zpv 0) zpe_int (fun _ _ => rfl)))) (zpac_b (zpe_op op_mulB (zpe_ix ix_tup (zpv 0) zpe_int (fun _ _ => rfl)) (zpe_ix ix_tup (zpv 1) zpe_int (fun _ _ => rfl))) zpa_nil)))), ?_⟩
    refine ⟨_, rfl, p, _, _, _, rfl, rfl, h1, rfl, _, rfl, q, _, _, _, rfl, rfl, h2, rfl, _, _, rfl, rfl, ⟨t.ab, t.db⟩, _, rfl, q, _, _, _, rfl, rfl, h2, rfl, _, rfl, p, _, _, _, rfl, rfl, h1, rfl, _, _, rfl, rfl, ⟨t.cb, t.bb⟩, _, _, rfl, rfl,
      _, rfl, p, _, _, _, rfl, rfl, h1, rfl, _, rfl, q, _, _, _, rfl, rfl, h2, rfl, _, _, rfl, rfl, ⟨t.bb, t.db⟩, ?_⟩
    exact fracI (Int.ne_of_gt (Int.mul_pos t.bp t.dp)) t.bot q'
theorem ok_times {f fF CN : Addr} {fd fdF : FuncData} (F : FunG K "times" "times" sTimes .none f fd)
    (GF : FnOk P w K mg base (CXE P w) 2 fF fdF ["top", "bottom"] (spFrac CN)) (mF : mg "fraction" = some (.ref fF)) (kF : PySem.W.keepIn K (.ref fF) = true) (b2 : Binds K fdF ["top", "bottom"] []) :
    FnOk P w K mg base (CXE P w) 3 f fd ["one", "other"] (spTwo K fun a b c d => a * c) := by
  refine F.zokN scTi (fun vs H Q E h => ?_) (fun cdv A outer s H vs Q E hr h => ?_)
  · obtain ⟨p, q, a, b, c, d, rfl, _⟩ := h
    rfl
  · obtain ⟨p, q, a, b, c, d, rfl, h1, h2, t, q'⟩ := h
    refine ⟨_, zpss_one (zps_ret (zpe_call GF hr (by rfl) mF kF b2 .nil passE0 (zpac_b (zpe_op op_mulB (zpe_ix ix_tup (zpv 0) zpe_int (fun _ _ => rfl)) (zpe_ix ix_tup (zpv 1) zpe_int (fun _ _ => rfl)))
        (zpac_b (zpe_op op_mulB (zpe_ix ix_tup (zpv 0) zpe_int (fun _ _ => rfl)) (zpe_ix ix_tup (zpv 1) zpe_int (fun _ _ => rfl))) zpa_nil)))), ?_⟩
    refine ⟨_, rfl, p, _, _, _, rfl, rfl, h1, rfl, _, rfl, q, _, _, _, rfl, rfl, h2, rfl, _, _, rfl, rfl, ⟨t.ab, t.cb⟩,
      _, rfl, p, _, _, _, rfl, rfl, h1, rfl, _, rfl, q, _, _, _, rfl, rfl, h2, rfl, _, _, rfl, rfl, ⟨t.bb, t.db⟩, ?_⟩
    exact fracI (Int.ne_of_gt (Int.mul_pos t.bp t.dp)) t.bot q'
/-! over -/
def spOver (K : PySem.W.Frag) (CN : Addr) : Sp := fun vs H Q E => ∃ (p q : Addr) (a b c d : Int), vs = [.ref p, .ref q] ∧ SqT K H p [.int a, .int b] ∧ SqT K H q [.int c, .int d] ∧ Two a b c d ∧ Low c d ∧ (b * c).natAbs < big ∧
  (c = 0 → E (.ref CN) none H) ∧ (c ≠ 0 → ∀ t n m, H t = none → FracOf (a * d) (b * c) n m → Q (.ref t) (upd H t (.tup [.int n, .int m])))
theorem low_eq {c d : Int} (l : Low c d) : eqVs [V.int c, V.int d] [V.int 0, V.int 1] = decide (c = 0) := by
  by_cases h : c = 0
  · have e := l.low
    have p := l.pos
    rw [h] at e
    have d1 : d = 1 := by
      have : d.natAbs = 1 := by simpa using e
      omega
    rw [h, d1]
    simp [eqVs, eqV]
  · simp [eqVs, eqV, h]
theorem ok_over {f fF CN aN : Addr} {fd fdF : FuncData} (F : FunG K "over" "over" sOver .none f fd)
    (GF : FnOk P w K mg base (CXE P w) 2 fF fdF ["top", "bottom"] (spFrac CN)) (mF : mg "fraction" = some (.ref fF)) (kF : PySem.W.keepIn K (.ref fF) = true) (b2 : Binds K fdF ["top", "bottom"] [])
    (mO : mg "NOUGHT" = some (.ref aN)) (sO : ∀ H, SqT K H aN [.int 0, .int 1]) (mN : mg "NoNumber" = some (.ref CN)) (eN : ExcK K CN) :
    FnOk P w K mg base (CXE P w) 3 f fd ["one", "other"] (spOver K CN) := by
  refine F.zokE scOv (fun vs H Q E h => ?_) (fun cdv A outer s H vs Q E hr h => ?_)
  · obtain ⟨p, q, a, b, c, d, rfl, _⟩ := h
    rfl
  · obtain ⟨p, q, a, b, c, d, rfl, h1, h2, t, low, bc, bad, good⟩ := h
    have hu := hr.units0
    refine ⟨_, zpss_cons (zps_if (zpt_cmpR (op_eqT hu) (zpv 1) (zpe_glob (by rfl) mO (v := .ref aN) rfl) (nomark _))
        (zpss_one (zps_raise (E := E) (fun pins σ H1 s1 h1 e args I hx hE => throw_fn I hx hE) rfl (by rfl) mN eN (zpac_c zpe_str zpa_nil))) zpss_nil)
      (zpss_one (zps_ret (zpe_call GF hr (by rfl) mF kF b2 .nil passE0 (zpac_b (zpe_op op_mulB (zpe_ix ix_tup (zpv 0) zpe_int (fun _ _ => rfl)) (zpe_ix ix_tup (zpv 1) zpe_int (fun _ _ => rfl)))
        (zpac_b (zpe_op op_mulB (zpe_ix ix_tup (zpv 0) zpe_int (fun _ _ => rfl)) (zpe_ix ix_tup (zpv 1) zpe_int (fun _ _ => rfl))) zpa_nil))))), ?_⟩
    refine ⟨_, rfl, q, aN, _, _, rfl, rfl, h2, sO _, rfl, rfl, _, rfl, ?_⟩
    have e := low_eq low
    by_cases c0 : c = 0
    · rw [decide_eq_true c0] at e
      refine ite2 (fun _ => ⟨by show 1 ≤ sizeLine; decide, bad c0⟩) (fun z => absurd e z)
    · rw [decide_eq_false c0] at e
      refine ite2 (fun z => ?_) (fun _ => ?_)
      · rw [show eqVs [V.int c, V.int d] [V.int 0, V.int 1] = true from z] at e
        cases e
      refine ⟨_, rfl, p, _, _, _, rfl, rfl, h1, rfl, _, rfl, q, _, _, _, rfl, rfl, h2, rfl, _, _, rfl, rfl, ⟨t.ab, t.db⟩,
        _, rfl, p, _, _, _, rfl, rfl, h1, rfl, _, rfl, q, _, _, _, rfl, rfl, h2, rfl, _, _, rfl, rfl, ⟨t.bb, t.cb⟩, ?_⟩
      exact fracI (Int.mul_ne_zero (Int.ne_of_gt t.bp) c0) bc (good c0)
/-! under -/
def spUnder (K : PySem.W.Frag) : Sp := fun vs H Q _ => ∃ (p q : Addr) (a b c d : Int), vs = [.ref p, .ref q] ∧ SqT K H p [.int a, .int b] ∧ SqT K H q [.int c, .int d] ∧ Two a b c d ∧ Q (.bl (decide (a * d < c * b))) H
theorem ok_under {f : Addr} {fd : FuncData} (F : FunG K "under" "under" sUnder .none f fd) : FnOk P w K mg base (CXE P w) 1 f fd ["one", "other"] (spUnder K) := by
  refine F.zokN scUn (fun vs H Q E h => ?_) (fun cdv A outer s H vs Q E hr h => ?_)
  · obtain ⟨p, q, a, b, c, d, rfl, _⟩ := h
    rfl
  · obtain ⟨p, q, a, b, c, d, rfl, h1, h2, t, q'⟩ := h
    refine ⟨_, zpss_one (zps_ret (zpe_cmpR op_lt (zpe_op op_mulB (zpe_ix ix_tup (zpv 0) zpe_int (fun _ _ => rfl)) (zpe_ix ix_tup (zpv 1) zpe_int (fun _ _ => rfl)))
      (zpe_op op_mulB (zpe_ix ix_tup (zpv 1) zpe_int (fun _ _ => rfl)) (zpe_ix ix_tup (zpv 0) zpe_int (fun _ _ => rfl))) (nomark _))), ?_⟩
    exact ⟨_, rfl, p, _, _, _, rfl, rfl, h1, rfl, _, rfl, q, _, _, _, rfl, rfl, h2, rfl, _, _, rfl, rfl, ⟨t.ab, t.db⟩, _, rfl, q, _, _, _, rfl, rfl, h2, rfl, _, rfl, p, _, _, _, rfl, rfl, h1, rfl, _, _, rfl, rfl, ⟨t.cb, t.bb⟩, _, _, rfl, rfl, q'⟩
end
end G1

/-! ===== K02i ===== -/
set_option Elab.async false
set_option linter.all false
set_option maxRecDepth 100000
set_option maxHeartbeats 1000000
namespace G1
open PySem L2 GM
abbrev Rec := Addr × (Int × Int)
def refs (rs : List Rec) : List V := (rs.map (·.1)).map V.ref
theorem refs_at {rs : List Rec} {i : Nat} {x : V} (h : (refs rs)[i]? = some x) : ∃ r, rs[i]? = some r ∧ x = .ref r.1 := by
  unfold refs at h
  rw [List.map_map, List.getElem?_map] at h
  cases e : rs[i]? with
  | none => rw [e] at h; cases h
  | some r => rw [e] at h; exact ⟨r, rfl, (Option.some.inj h).symm⟩
theorem refs_len (rs : List Rec) : (refs rs).length = rs.length := by simp [refs]
theorem refs_app (rs ss : List Rec) : refs (rs ++ ss) = refs rs ++ refs ss := by simp [refs]
/-- fractions, each with its tuple -/
def Frs (K : PySem.W.Frag) (H : Hp) (rs : List Rec) : Prop := ∀ r ∈ rs, SqT K H r.1 [.int r.2.1, .int r.2.2] ∧ Fr r.2
theorem Frs.kt {K : PySem.W.Frag} {H H' : Hp} {rs : List Rec} (k : KT H H') (h : Frs K H rs) : Frs K H' rs := fun r hr => ⟨k.sq (h r hr).1, (h r hr).2⟩
theorem Frs.take {K : PySem.W.Frag} {H : Hp} {rs : List Rec} (h : Frs K H rs) (i : Nat) : Frs K H (rs.take i) := fun r hr => h r (List.mem_of_mem_take hr)
theorem Frs.fr {K : PySem.W.Frag} {H : Hp} {rs : List Rec} (h : Frs K H rs) : ∀ f ∈ rs.map (·.2), Fr f := fun f hf => by
  obtain ⟨r, hr, rfl⟩ := List.mem_map.mp hf
  exact (h r hr).2
theorem Frs.snoc {K : PySem.W.Frag} {H : Hp} {rs : List Rec} {r : Rec} (h : Frs K H rs) (s : SqT K H r.1 [.int r.2.1, .int r.2.2]) (f : Fr r.2) : Frs K H (rs ++ [r]) := fun x hx => by
  rcases List.mem_append.mp hx with z | z
  · exact h x z
  · obtain rfl := List.mem_singleton.mp z
    exact ⟨s, f⟩
def sums (rs : List Rec) : Int × Int := sumF (rs.map (·.2))
theorem take_snoc {rs : List Rec} {i : Nat} {r : Rec} (h : rs[i]? = some r) : rs.take (i + 1) = rs.take i ++ [r] := by
  rw [List.take_add_one, h]
  rfl
theorem sums_snoc {rs : List Rec} {r : Rec} : sums (rs ++ [r]) = addF (sums rs) r.2 := by
  unfold sums
  rw [List.map_append]
  exact sumF_snoc _ _
theorem sums_low {K : PySem.W.Frag} {H : Hp} {rs : List Rec} (h : Frs K H rs) : Low (sums rs).1 (sums rs).2 := sum_low h.fr
theorem sums_bd {K : PySem.W.Frag} {H : Hp} {rs : List Rec} {k : Nat} (h : Frs K H rs) (l : rs.length ≤ k) : Bd k (sums rs) := by
  have b := sum_bd h.fr
  rw [List.length_map] at b
  exact bd_mono b l
theorem M_big : M < big := by decide +kernel
theorem _root_.GM.Fr.nb {f : Int × Int} (h : Fr f) : f.1.natAbs < big := Nat.lt_of_le_of_lt h.n M_big
theorem _root_.GM.Fr.db {f : Int × Int} (h : Fr f) : f.2.natAbs < big := Nat.lt_of_le_of_lt h.d M_big
theorem bd_n {k : Nat} {f : Int × Int} (h : Bd k f) (hk : k ≤ 24) : f.1.natAbs < big := big_of hk h.n
theorem bd_d {k : Nat} {f : Int × Int} (h : Bd k f) (hk : k ≤ 24) : f.2.natAbs < big := big_of' hk h.d
theorem two_sum {k : Nat} {t f : Int × Int} (h : Bd k t) (hk : k + 1 ≤ 24) (hf : Fr f) : Two t.1 t.2 f.1 f.2 :=
  ⟨h.p, hf.low.pos, bd_n h (by omega), bd_d h (by omega), hf.nb, hf.db, big_of' hk (bd_bot h hf.d)⟩
theorem MM_big : M * M < big := by decide +kernel
theorem two_fr {t f : Int × Int} (h : Fr t) (hf : Fr f) : Two t.1 t.2 f.1 f.2 :=
  ⟨h.low.pos, hf.low.pos, h.nb, h.db, hf.nb, hf.db, by rw [Int.natAbs_mul]; exact Nat.lt_of_le_of_lt (Nat.mul_le_mul h.d hf.d) MM_big⟩
section
variable {P : Program} {w : World} {K : PySem.W.Frag} {mg : Str → Option Value} {base : Heap} {c : List Addr}
/-! sum_of -/
def spSum (K : PySem.W.Frag) : Sp := fun vs H Q _ => ∃ (l : Addr) (rs : List Rec), vs = [.ref l] ∧ H l = some (.lst (refs rs)) ∧ Frs K H rs ∧ rs.length ≤ 23 ∧
  ∀ t H', Same H H' → SqT K H' t [.int (sums rs).1, .int (sums rs).2] → Q (.ref t) H'
theorem scSu : FnScope ["some", "total", "one"] ["some"] (defScope sSum) := ⟨rfl, rfl, rfl, by decide +kernel, rfl, by decide +kernel, by decide +kernel⟩
theorem ok_sum {f fP aN : Addr} {fd fdP : FuncData} (F : FunG K "sum_of" "sum_of" sSum .none f fd)
    (GP : FnOk P w K mg base (CXE P w) 3 fP fdP ["one", "other"] (spTwo K fun a b c d => a * d + c * b)) (mP : mg "plus" = some (.ref fP)) (kP : PySem.W.keepIn K (.ref fP) = true) (bP : Binds K fdP ["one", "other"] [])
    (mO : mg "NOUGHT" = some (.ref aN)) (sO : ∀ H, SqT K H aN [.int 0, .int 1]) :
    FnOk P w K mg base (CXE P w) 4 f fd ["some"] (spSum K) := by
  refine F.zokN scSu (fun vs H Q E h => ?_) (fun cdv A outer s H vs Q E hr h => ?_)
  · obtain ⟨l, rs, rfl, _⟩ := h
    rfl
  · obtain ⟨l, rs, rfl, hl, fs, len, q⟩ := h
    refine ⟨_, zpss_cons (zps_set (i := 1) scSu.nd rfl (Or.inl rfl) (zpe_glob (by rfl) mO (v := .ref aN) rfl))
      (zpss_cons (zps_for PassesOwn.never rfl (zpi_list (zpv 0)) (zpg_name (i := 2) scSu.nd rfl (Or.inl rfl))
        (zpss_one (zps_set (i := 1) scSu.nd rfl (Or.inl rfl) (zpe_call GP hr (by rfl) mP kP bP .nil passE0 (zpac_n (zpv 1) (zpac_n (zpv 2) zpa_nil))))))
      (zpss_one (zps_ret (zpv 1)))), ?_⟩
    refine ⟨_, rfl, l, rfl, ⟨_, SqL.of hl⟩, for_list (K := K) (a := l) (xs := refs rs)
      (fun i σ H2 => ∃ (t : Addr) (v2 : Option V), σ = [some (.ref l), some (.ref t), v2] ∧ Same H H2 ∧ SqT K H2 t [.int (sums (rs.take i)).1, .int (sums (rs.take i)).2]) ⟨aN, _, rfl, fun _ _ h => h, sO _⟩ ?_ ?_ ?_⟩
    · rintro i σ H2 _ ⟨t, v2, _, s2, _⟩
      exact SqL.of (s2 _ _ hl)
    · rintro i x σ H2 hi ⟨t, v2, rfl, s2, ht⟩
      obtain ⟨r, hr', rfl⟩ := refs_at hi
      have rm : r ∈ rs := List.mem_of_getElem? hr'
      have fs2 : Frs K H2 rs := fs.kt (KT.same s2)
      have i23 : i < 23 := Nat.lt_of_lt_of_le (List.getElem?_eq_some_iff.mp hr').1 len
      have ft := fs2.take i
      have bd := sums_bd ft (show (rs.take i).length ≤ i by rw [List.length_take]; omega)
      refine ⟨_, rfl, _, rfl, t, r.1, _, _, _, _, rfl, ht, (fs2 r rm).1, two_sum bd (by omega) (fs2 r rm).2, fun u n m hu fr => ?_⟩
      have e := frac_eq (Int.mul_pos bd.p (fs2 r rm).2.low.pos) fr
      have e2 : sums (rs.take (i + 1)) = (n, m) := by
        rw [take_snoc hr', sums_snoc]
        exact e.symm
      refine ⟨u, _, rfl, s2.trans (same_upd hu), ?_⟩
      rw [e2]
      exact SqT.of upd_same
    · rintro σ H2 ⟨t, v2, rfl, s2, ht⟩
      rw [refs_len, List.take_length] at ht
      exact ⟨_, rfl, q t H2 s2 ht⟩
/-! a fraction drawn -/
def e30 : Int := 1000000000000000000000000000000
def spDrawn : Sp := fun vs H Q _ => ∃ p : Addr, vs = [.ref p] ∧ Src H p ∧ ∀ (t : Addr) (n d : Int) H', H' t = some (.tup [.int n, .int d]) → Fr (n, d) → Src H' p → Ext p H H' → Q (.ref t) H'
theorem scDr : FnScope ["_law_source_here", "_law_wide", "_law_top"] ["_law_source_here"] (defScope sDrawn) := ⟨rfl, rfl, rfl, by decide +kernel, rfl, by decide +kernel, by decide +kernel⟩
theorem M_e30 : e30.natAbs = M := by decide +kernel
theorem ok_drawn {f fD fL : Addr} {fd fdD fdL : FuncData} (F : FunG K "_law_drawn" "_law_drawn" sDrawn .none f fd)
    (GD : FnOk P w K mg base (CXE P w) 1 fD fdD ["_law_source_here", "_law_many"] spDraw) (mD : mg "_law_draw" = some (.ref fD)) (kD : PySem.W.keepIn K (.ref fD) = true) (bD : Binds K fdD ["_law_source_here", "_law_many"] [])
    (GL : FnOk P w K mg base (CXE P w) 1 fL fdL ["_law_top", "_law_bottom"] spLow) (mL : mg "_law_lowest" = some (.ref fL)) (kL : PySem.W.keepIn K (.ref fL) = true) (bL : Binds K fdL ["_law_top", "_law_bottom"] []) :
    FnOk P w K mg base (CXE P w) 2 f fd ["_law_source_here"] spDrawn := by
  refine F.zokN scDr (fun vs H Q E h => ?_) (fun cdv A outer s H vs Q E hr h => ?_)
  · obtain ⟨p, rfl, _⟩ := h
    rfl
  · obtain ⟨p, rfl, sr, q⟩ := h
    refine ⟨_, zpss_cons (zps_set (i := 1) scDr.nd rfl (Or.inl rfl) (zpe_ix ix_list (zpe_lst (zpac_c zpe_int (zpac_c zpe_int (zpac_c zpe_int (zpac_b (zpe_op op_pow zpe_int zpe_int) zpa_nil)))))
          (zpe_call GD hr (by rfl) mD kD bD .nil passE0 (zpac_n (zpv 0) (zpac_c zpe_int zpa_nil))) (fun _ _ => rfl)))
      (zpss_cons (zps_set (i := 2) scDr.nd rfl (Or.inl rfl) (zpe_op op_mul (zpe_call GD hr (by rfl) mD kD bD .nil passE0 (zpac_n (zpv 0) (zpac_n (zpv 1) zpa_nil)))
          (zpe_ix ix_list (zpe_lst (zpac_c zpe_int (zpac_u (zpe_un un_neg zpe_int) zpa_nil))) (zpe_call GD hr (by rfl) mD kD bD .nil passE0 (zpac_n (zpv 0) (zpac_c zpe_int zpa_nil))) (fun _ _ => rfl))))
      (zpss_one (zps_ret (zpe_call GL hr (by rfl) mL kL bL .nil passE0 (zpac_n (zpv 2) (zpac_b (zpe_op op_add zpe_int (zpe_call GD hr (by rfl) mD kD bD .nil passE0 (zpac_n (zpv 0) (zpac_b (zpe_op op_sub (zpv 1) zpe_int) zpa_nil)))) zpa_nil)))))), ?_⟩
    have sm : ∀ k : Nat, k ≤ 2001 → k < big := fun k hk => Nat.lt_of_le_of_lt hk (by decide +kernel)
    have ee : (10 : Int) ^ (30 : Int).toNat = e30 := by decide +kernel
    refine ⟨_, _, rfl, rfl, ⟨by decide, by decide, by decide⟩, by show 4 ≤ sizeLine; decide, fun l hl => ?_⟩
    refine ⟨_, rfl, p, 4, rfl, sr.new hl, by decide, sm 4 (by decide), fun i H1 i0 i1 sr1 x1 => ?_⟩
    have hl1 : H1 l = some (.lst [.int 7, .int 7, .int 1001, .int e30]) := (x1 l (sr.ne hl)).trans (by rw [← ee]; exact upd_same)
    have E1 : Ext p H H1 := (Ext.new hl).trans (.of_eq x1)
    obtain ⟨wd, hw, w0, w1⟩ : ∃ wd : Int, atI [V.int 7, V.int 7, V.int 1001, V.int e30] i = some (V.int wd) ∧ 7 ≤ wd ∧ wd ≤ e30 := by
      have four : i = 0 ∨ i = 1 ∨ i = 2 ∨ i = 3 := by omega
      rcases four with rfl | rfl | rfl | rfl
      · exact ⟨7, rfl, by decide, by decide⟩
      · exact ⟨7, rfl, by decide, by decide⟩
      · exact ⟨1001, rfl, by decide, by decide⟩
      · exact ⟨e30, rfl, by decide, by decide⟩
    refine ⟨l, _, _, _, rfl, rfl, SqL.of hl1, hw, ?_⟩
    have wM : wd.natAbs ≤ M := by rw [← M_e30]; unfold e30 at w1 ⊢; omega
    refine ⟨_, rfl, _, rfl, p, wd, rfl, sr1, by omega, Nat.lt_of_le_of_lt wM M_big, fun d H2 d0 d1 sr2 x2 => ?_⟩
    refine ⟨_, rfl, by show 2 ≤ sizeLine; decide, fun l3 h3 => ⟨_, rfl, p, 2, rfl, sr2.new h3, by decide, sm 2 (by decide), fun i3 H3 i30 i31 sr3 x3 => ?_⟩⟩
    have hl3 : H3 l3 = some (.lst [.int 1, .int (-1)]) := (x3 l3 (sr2.ne h3)).trans upd_same
    have E3 : Ext p H H3 := (E1.trans (.of_eq x2)).trans ((Ext.new h3).trans (.of_eq x3))
    obtain ⟨sg, hsg, sg1, sgn⟩ : ∃ sg : Int, atI [V.int 1, V.int (-1)] i3 = some (V.int sg) ∧ (d * sg).natAbs = d.natAbs ∧ (sg = 1 ∨ sg = -1) := by
      have two : i3 = 0 ∨ i3 = 1 := by omega
      rcases two with rfl | rfl
      · exact ⟨1, rfl, by rw [Int.mul_one], .inl rfl⟩
      · exact ⟨-1, rfl, by rw [show d * -1 = -d by omega, Int.natAbs_neg], .inr rfl⟩
    refine ⟨l3, _, _, _, rfl, rfl, SqL.of hl3, hsg, _, _, rfl, rfl, .inr (by rcases sgn with rfl | rfl <;> constructor <;> decide), ?_⟩
    refine ⟨_, rfl, _, rfl, _, rfl, _, _, rfl, rfl, p, wd - 1, rfl, sr3, by omega, Nat.lt_of_le_of_lt (show (wd - 1).natAbs ≤ M by omega) M_big, fun b H4 b0 b1 sr4 x4 => ⟨_, _, rfl, rfl, ?_⟩⟩
    have bM : (1 + b).natAbs ≤ M := by omega
    refine ⟨d * sg, 1 + b, rfl, by omega, Nat.lt_of_le_of_lt bM M_big, fun t n m ht fr _ => ?_⟩
    have dM : (d * sg).natAbs ≤ M := by rw [sg1]; omega
    exact q t n m _ upd_same ⟨⟨fr.pos, fr.low⟩, Nat.le_trans fr.top dM, Nat.le_trans fr.bot bM⟩ (sr4.new ht) ((E3.trans (.of_eq x4)).trans (Ext.new ht))
end
end G1

/-! ===== K02j ===== -/
set_option Elab.async false
set_option linter.all false
set_option maxRecDepth 100000
set_option maxHeartbeats 1000000
namespace G1
open PySem L2 GM
section
variable {P : Program} {w : World} {K : PySem.W.Frag} {mg : Str → Option Value} {base : Heap} {c : List Addr}
/-! is it worth so much -/
def spWorth (K : PySem.W.Frag) : Sp := fun vs H Q _ => ∃ (p : Addr) (a b n d : Int), vs = [.ref p, .int a, .int b] ∧ SqT K H p [.int n, .int d] ∧ FracOf a b n d ∧ a.natAbs < big ∧ b.natAbs < big ∧ ∀ H', Same H H' → Q (.bl true) H'
theorem scWo : FnScope ["_law_found", "_law_top", "_law_bottom"] ["_law_found", "_law_top", "_law_bottom"] (defScope sWorth) := ⟨rfl, rfl, rfl, by decide +kernel, rfl, by decide +kernel, by decide +kernel⟩
theorem ok_worth {f fI : Addr} {fd fdI : FuncData} (F : FunG K "_law_worth" "_law_worth" sWorth .none f fd)
    (GI : FnOk P w K mg base (CXE P w) 2 fI fdI ["_law_found"] (spIsFrac K)) (mI : mg "_law_is_fraction" = some (.ref fI)) (kI : PySem.W.keepIn K (.ref fI) = true) (bI : Binds K fdI ["_law_found"] []) :
    FnOk P w K mg base (CXE P w) 3 f fd ["_law_found", "_law_top", "_law_bottom"] (spWorth K) := by
  refine F.zokN scWo (fun vs H Q E h => ?_) (fun cdv A outer s H vs Q E hr h => ?_)
  · obtain ⟨p, a, b, n, d, rfl, _⟩ := h
    rfl
  · obtain ⟨p, a, b, n, d, rfl, hp, fr, ba, bb, q⟩ := h
    refine ⟨_, zpss_one (zps_ret (zpe_and (zpe_call GI hr (by rfl) mI kI bI .nil passE0 (zpac_n (zpv 0) zpa_nil))
      (zpe_one (zpe_cmpR op_eq (zpe_op op_mulB (zpe_ix ix_tup (zpv 0) zpe_int (fun _ _ => rfl)) (zpv 2)) (zpe_op op_mulB (zpv 1) (zpe_ix ix_tup (zpv 0) zpe_int (fun _ _ => rfl))) (nomark _))))), ?_⟩
    have db : d.natAbs < big := Nat.lt_of_le_of_lt fr.bot bb
    have nb : n.natAbs < big := Nat.lt_of_le_of_lt fr.top ba
    refine ⟨_, rfl, p, n, d, rfl, hp, fr.pos, db, fr.low, fun H2 s2 => ⟨_, rfl, ?_⟩⟩
    rw [if_pos rfl]
    have st : SqT K H2 p [.int n, .int d] := sqT_same s2 hp
    refine ⟨_, rfl, p, _, _, _, rfl, rfl, st, rfl, _, rfl, _, _, rfl, rfl, ⟨nb, bb⟩, _, rfl, _, rfl, p, _, _, _, rfl, rfl, st, rfl, _, _, rfl, rfl, ⟨ba, db⟩, rfl, ?_⟩
    obtain ⟨g, g0, e3, e4⟩ := fr.g
    have e5 : n * b = a * d := by rw [e3, e4]; rw [Int.mul_left_comm, Int.mul_assoc]
    have e6 : decide (V.int (n * b) = V.int (a * d)) = true := decide_eq_true (by rw [e5])
    show Q (.bl (decide (V.int (n * b) = V.int (a * d)))) H2
    rw [e6]
    exact q H2 s2
/-! one parted by the other -/
def sp2 (K : PySem.W.Frag) : Sp := fun vs H Q _ => ∃ (p q : Addr) (a b c d : Int), vs = [.ref p, .ref q] ∧ SqT K H p [.int a, .int b] ∧ SqT K H q [.int c, .int d] ∧ Fr (a, b) ∧ Fr (c, d) ∧ ∀ H', Same H H' → Q (.bl true) H'
theorem mul_big {x y : Int} (hx : x.natAbs ≤ M) (hy : y.natAbs ≤ M) : (x * y).natAbs < big := by
  rw [Int.natAbs_mul]; exact Nat.lt_of_le_of_lt (Nat.mul_le_mul hx hy) MM_big
theorem MM2 : M * M + M * M < big := by decide +kernel
theorem add_big {x y u v : Int} (hx : x.natAbs ≤ M) (hy : y.natAbs ≤ M) (hu : u.natAbs ≤ M) (hv : v.natAbs ≤ M) : (x * y + u * v).natAbs < big := by
  have h1 : (x * y).natAbs ≤ M * M := by rw [Int.natAbs_mul]; exact Nat.mul_le_mul hx hy
  have h2 : (u * v).natAbs ≤ M * M := by rw [Int.natAbs_mul]; exact Nat.mul_le_mul hu hv
  exact Nat.lt_of_le_of_lt (Nat.le_trans (Int.natAbs_add_le _ _) (Nat.add_le_add h1 h2)) MM2
theorem sub_big {x y u v : Int} (hx : x.natAbs ≤ M) (hy : y.natAbs ≤ M) (hu : u.natAbs ≤ M) (hv : v.natAbs ≤ M) : (x * y - u * v).natAbs < big := by
  have e : x * y - u * v = x * y + (-u) * v := by rw [Int.neg_mul]; omega
  rw [e]
  exact add_big hx hy (by rw [Int.natAbs_neg]; exact hu) hv
theorem scPa : FnScope ["_law_one", "_law_other", "_law_kept", "_law_found", "e"] ["_law_one", "_law_other"] (defScope sParted) := ⟨rfl, rfl, rfl, by decide +kernel, rfl, by decide +kernel, by decide +kernel⟩
theorem ok_parted {f fO fR fW : Addr} {fd fdO fdR fdW : FuncData} (F : FunG K "_law_parted" "_law_parted" sParted .none f fd) (C : Cl K mg c)
    (GO : FnOk P w K mg base (CXE P w) 3 fO fdO ["one", "other"] (spOver K (c.getD 1 0))) (mO : mg "over" = some (.ref fO)) (kO : PySem.W.keepIn K (.ref fO) = true) (bO : Binds K fdO ["one", "other"] [])
    (GR : FnOk P w K mg base (CXE P w) 1 fR fdR ["_law_kept"] (spRefusal (c.getD 1 0))) (mR : mg "_law_is_refusal" = some (.ref fR)) (kR : PySem.W.keepIn K (.ref fR) = true) (bR : Binds K fdR ["_law_kept"] [])
    (GW : FnOk P w K mg base (CXE P w) 3 fW fdW ["_law_found", "_law_top", "_law_bottom"] (spWorth K)) (mW : mg "_law_worth" = some (.ref fW)) (kW : PySem.W.keepIn K (.ref fW) = true) (bW : Binds K fdW ["_law_found", "_law_top", "_law_bottom"] []) :
    FnOk P w K mg base (CXE P w) 4 f fd ["_law_one", "_law_other"] (sp2 K) := by
  refine F.zokN scPa (fun vs H Q E h => ?_) (fun cdv A outer s H vs Q E hr h => ?_)
  · obtain ⟨p, q, a, b, x, y, rfl, _⟩ := h
    rfl
  · obtain ⟨p, q, a, b, x, y, rfl, h1, h2, f1, f2, Qq⟩ := h
    have hr1 : Room 1 _ := hr.mono (by decide)
    refine ⟨_, zpss_cons (zps_set (i := 2) scPa.nd rfl (Or.inl rfl) zpe_non)
      (zpss_cons (zps_set (i := 3) scPa.nd rfl (Or.inl rfl) zpe_non)
      (zpss_cons (zps_try_as (j := 4) (zpsx_asg (i := 3) scPa.nd rfl (Or.inl rfl) (zpex_call GO hr (by rfl) mO kO bO .nil (zpac_n (zpv 0) (zpac_n (zpv 1) zpa_nil)))) scPa.nd rfl rfl rfl rfl (by rfl) C.dear C.catch_
        (fun e => zpss_one (zps_set (i := 2) scPa.nd rfl (Or.inl rfl) (zpv 4))))
      (zpss_cons (zps_if (zpt_cmpR op_eq (zpe_ix ix_tup (zpv 1) zpe_int (fun _ _ => rfl)) zpe_int (nomark _)) (zpss_one (zps_ret (zpe_call GR hr1 (by rfl) mR kR bR .nil passE0 (zpac_n (zpv 2) zpa_nil)))) zpss_nil)
      (zpss_one (zps_ret (zpe_and (zpe_cmp (zpc_isN (zpv 2))) (zpe_one (zpe_call GW hr (by rfl) mW kW bW .nil passE0 (zpac_n (zpv 3)
        (zpac_b (zpe_op op_mulB (zpe_ix ix_tup (zpv 0) zpe_int (fun _ _ => rfl)) (zpe_ix ix_tup (zpv 1) zpe_int (fun _ _ => rfl)))
        (zpac_b (zpe_op op_mulB (zpe_ix ix_tup (zpv 0) zpe_int (fun _ _ => rfl)) (zpe_ix ix_tup (zpv 1) zpe_int (fun _ _ => rfl))) zpa_nil))))))))))), ?_⟩
    have T := two_fr f1 f2
    refine ⟨_, rfl, _, rfl, p, q, a, b, x, y, rfl, h1, h2, T, f2.low, mul_big f1.d f2.n, ?_, ?_⟩
    · -- refused
      intro x0
      refine ⟨c.getD 1 0, rfl, C.up, fun e he => ?_⟩
      have s1 : Same H (upd H e (ExcO (c.getD 1 0) e)) := same_upd he
      refine ⟨_, rfl, ?_⟩
      refine ⟨_, rfl, q, _, _, _, rfl, rfl, sqT_same s1 h2, rfl, rfl, _, rfl, ?_⟩
      rw [show decide (V.int x = V.int 0) = true from decide_eq_true (by rw [x0])]
      refine iteT ?_
      exact ⟨_, rfl, e, rfl, upd_same, fun H2 s2 => Qq H2 (s1.trans s2)⟩
    · intro x0 t n m ht fr
      have s1 : Same H (upd H t (.tup [.int n, .int m])) := same_upd ht
      have g1 := sqT_same s1 h1
      have g2 := sqT_same s1 h2
      refine ⟨_, rfl, q, _, _, _, rfl, rfl, g2, rfl, rfl, _, rfl, ?_⟩
      rw [show decide (V.int x = V.int 0) = false from decide_eq_false fun z => x0 (by injection z)]
      refine iteF ?_
      refine ⟨_, rfl, _, rfl, ?_⟩
      rw [if_pos (by decide)]
      refine ⟨_, rfl, _, rfl, p, _, _, _, rfl, rfl, g1, rfl, _, rfl, q, _, _, _, rfl, rfl, g2, rfl, _, _, rfl, rfl, ⟨T.ab, T.db⟩,
        _, rfl, p, _, _, _, rfl, rfl, g1, rfl, _, rfl, q, _, _, _, rfl, rfl, g2, rfl, _, _, rfl, rfl, ⟨T.bb, T.cb⟩, ?_⟩
      exact ⟨t, _, _, n, m, rfl, SqT.of upd_same, fr, mul_big f1.n f2.d, mul_big f1.d f2.n, fun H2 s2 => Qq H2 (s1.trans s2)⟩
/-! all that is reckoned of two -/
theorem scRi : FnScope ["_law_one", "_law_other", "_law_a", "_law_b", "_law_c", "_law_d", "_law_found"] ["_law_one", "_law_other"] (defScope sRight) := ⟨rfl, rfl, rfl, by decide +kernel, rfl, by decide +kernel, by decide +kernel⟩
theorem ok_right {f fP fM fT fU fX fW : Addr} {fd fdP fdM fdT fdU fdX fdW : FuncData} (F : FunG K "_law_right" "_law_right" sRight .none f fd) (B : Bl mg)
    (GP : FnOk P w K mg base (CXE P w) 3 fP fdP ["one", "other"] (spTwo K fun a b c d => a * d + c * b)) (mP : mg "plus" = some (.ref fP)) (kP : PySem.W.keepIn K (.ref fP) = true) (bP : Binds K fdP ["one", "other"] [])
    (GM : FnOk P w K mg base (CXE P w) 3 fM fdM ["one", "other"] (spTwo K fun a b c d => a * d - c * b)) (mM : mg "minus" = some (.ref fM)) (kM : PySem.W.keepIn K (.ref fM) = true) (bM : Binds K fdM ["one", "other"] [])
    (GT : FnOk P w K mg base (CXE P w) 3 fT fdT ["one", "other"] (spTwo K fun a b c d => a * c)) (mT : mg "times" = some (.ref fT)) (kT : PySem.W.keepIn K (.ref fT) = true) (bT : Binds K fdT ["one", "other"] [])
    (GU : FnOk P w K mg base (CXE P w) 1 fU fdU ["one", "other"] (spUnder K)) (mU : mg "under" = some (.ref fU)) (kU : PySem.W.keepIn K (.ref fU) = true) (bU : Binds K fdU ["one", "other"] [])
    (GX : FnOk P w K mg base (CXE P w) 4 fX fdX ["_law_one", "_law_other"] (sp2 K)) (mX : mg "_law_parted" = some (.ref fX)) (kX : PySem.W.keepIn K (.ref fX) = true) (bX : Binds K fdX ["_law_one", "_law_other"] [])
    (GW : FnOk P w K mg base (CXE P w) 3 fW fdW ["_law_found", "_law_top", "_law_bottom"] (spWorth K)) (mW : mg "_law_worth" = some (.ref fW)) (kW : PySem.W.keepIn K (.ref fW) = true) (bW : Binds K fdW ["_law_found", "_law_top", "_law_bottom"] []) :
    FnOk P w K mg base (CXE P w) 5 f fd ["_law_one", "_law_other"] (sp2 K) := by
  refine F.zokN scRi (fun vs H Q E h => ?_) (fun cdv A outer s H vs Q E hr h => ?_)
  · obtain ⟨p, q, a, b, x, y, rfl, _⟩ := h
    rfl
  · obtain ⟨p, q, a, b, x, y, rfl, h1, h2, f1, f2, Qq⟩ := h
    have hr1 : Room 1 _ := hr.mono (by decide)
    have hr3 : Room 3 _ := hr.mono (by decide)
    refine ⟨_, zpss_cons (zps_asg (zpv 0) (zpg_tup rfl (zpgs_cons (zpg_name (i := 2) scRi.nd rfl (Or.inl rfl)) (zpgs_cons (zpg_name (i := 3) scRi.nd rfl (Or.inl rfl)) zpgs_nil))))
      (zpss_cons (zps_asg (zpv 1) (zpg_tup rfl (zpgs_cons (zpg_name (i := 4) scRi.nd rfl (Or.inl rfl)) (zpgs_cons (zpg_name (i := 5) scRi.nd rfl (Or.inl rfl)) zpgs_nil))))
      (zpss_cons (zps_if (zpt_not (zpt_val (zpe_call GW hr3 (by rfl) mW kW bW .nil passE0 (zpac_f (zpe_call GP hr3 (by rfl) mP kP bP .nil passE0 (zpac_n (zpv 0) (zpac_n (zpv 1) zpa_nil)))
          (zpac_b (zpe_op op_add (zpe_op op_mulB (zpv 2) (zpv 5)) (zpe_op op_mulB (zpv 4) (zpv 3))) (zpac_b (zpe_op op_mulB (zpv 3) (zpv 5)) zpa_nil)))))) (zpss_one (zps_ret zpe_bl)) zpss_nil)
      (zpss_cons (zps_if (zpt_not (zpt_val (zpe_call GW hr3 (by rfl) mW kW bW .nil passE0 (zpac_f (zpe_call GM hr3 (by rfl) mM kM bM .nil passE0 (zpac_n (zpv 0) (zpac_n (zpv 1) zpa_nil)))
          (zpac_b (zpe_op op_sub (zpe_op op_mulB (zpv 2) (zpv 5)) (zpe_op op_mulB (zpv 4) (zpv 3))) (zpac_b (zpe_op op_mulB (zpv 3) (zpv 5)) zpa_nil)))))) (zpss_one (zps_ret zpe_bl)) zpss_nil)
      (zpss_cons (zps_if (zpw_or (zpt_not (zpt_val (zpe_call GW hr3 (by rfl) mW kW bW .nil passE0 (zpac_f (zpe_call GT hr3 (by rfl) mT kT bT .nil passE0 (zpac_n (zpv 0) (zpac_n (zpv 1) zpa_nil)))
          (zpac_b (zpe_op op_mulB (zpv 2) (zpv 4)) (zpac_b (zpe_op op_mulB (zpv 3) (zpv 5)) zpa_nil))))))
          (zpw_or1 (zpt_not (zpt_val (zpe_call GX hr (by rfl) mX kX bX .nil passE0 (zpac_n (zpv 0) (zpac_n (zpv 1) zpa_nil))))))).pt (zpss_one (zps_ret zpe_bl)) zpss_nil)
      (zpss_cons (zps_set (i := 6) scRi.nd rfl (Or.inl rfl) (zpe_call GU hr1 (by rfl) mU kU bU .nil passE0 (zpac_n (zpv 0) (zpac_n (zpv 1) zpa_nil))))
      (zpss_one (zps_ret (zpe_and (zpe_callB call_isi (by rfl) B.isi boot_isi (zpac_n (zpv 6) (zpac_n (zpe_bltn (by rfl) B.bool boot_bool (v := .ty "bool") rfl) zpa_nil)))
        (zpe_one (zpe_cmpR op_eq (zpv 6) (zpe_cmpR op_lt (zpe_op op_mulB (zpv 2) (zpv 5)) (zpe_op op_mulB (zpv 4) (zpv 3)) (nomark _)) (nomark _))))))))))), ?_⟩
    have T := two_fr f1 f2
    refine ⟨_, rfl, p, _, rfl, h1, rfl, _, _, rfl, _, _, rfl, rfl, ?_⟩
    refine ⟨_, rfl, q, _, rfl, h2, rfl, _, _, rfl, _, _, rfl, rfl, ?_⟩
    -- plus
    refine ⟨_, rfl, _, rfl, p, q, a, b, x, y, rfl, h1, h2, T, fun t1 n1 m1 ht1 fr1 => ?_⟩
    have s1 := same_upd (o := .tup [.int n1, .int m1]) ht1
    refine ⟨_, rfl, _, rfl, _, _, rfl, rfl, ⟨T.ab, T.db⟩, _, rfl, _, rfl, _, _, rfl, rfl, ⟨T.cb, T.bb⟩, _, _, rfl, rfl, _, rfl, _, rfl, _, _, rfl, rfl, ⟨T.bb, T.db⟩, ?_⟩
    refine ⟨t1, _, _, n1, m1, rfl, SqT.of upd_same, fr1, add_big f1.n f2.d f2.n f1.d, T.bot, fun H2 s2 => ⟨_, rfl, iteF ?_⟩⟩
    have S2 := s1.trans s2
    -- minus
    refine ⟨_, rfl, _, rfl, p, q, a, b, x, y, rfl, sqT_same S2 h1, sqT_same S2 h2, T, fun t3 n3 m3 ht3 fr3 => ?_⟩
    refine ⟨_, rfl, _, rfl, _, _, rfl, rfl, ⟨T.ab, T.db⟩, _, rfl, _, rfl, _, _, rfl, rfl, ⟨T.cb, T.bb⟩, _, _, rfl, rfl, _, rfl, _, rfl, _, _, rfl, rfl, ⟨T.bb, T.db⟩, ?_⟩
    refine ⟨t3, _, _, n3, m3, rfl, SqT.of upd_same, fr3, sub_big f1.n f2.d f2.n f1.d, T.bot, fun H4 s4 => ⟨_, rfl, iteF ?_⟩⟩
    have S4 := (S2.trans (same_upd ht3)).trans s4
    -- times
    refine ⟨_, rfl, _, rfl, p, q, a, b, x, y, rfl, sqT_same S4 h1, sqT_same S4 h2, T, fun t5 n5 m5 ht5 fr5 => ?_⟩
    refine ⟨_, rfl, _, rfl, _, _, rfl, rfl, ⟨T.ab, T.cb⟩, _, rfl, _, rfl, _, _, rfl, rfl, ⟨T.bb, T.db⟩, ?_⟩
    refine ⟨t5, _, _, n5, m5, rfl, SqT.of upd_same, fr5, mul_big f1.n f2.n, T.bot, fun H6 s6 => ⟨_, rfl, iteF ?_⟩⟩
    have S6 := (S4.trans (same_upd ht5)).trans s6
    -- over
    refine ⟨_, rfl, _, rfl, p, q, a, b, x, y, rfl, sqT_same S6 h1, sqT_same S6 h2, f1, f2, fun H7 s7 => ⟨_, rfl, iteF ?_⟩⟩
    have S7 := S6.trans s7
    -- under
    refine ⟨_, rfl, _, rfl, p, q, a, b, x, y, rfl, sqT_same S7 h1, sqT_same S7 h2, T, ?_⟩
    refine ⟨_, rfl, _, _, _, true, rfl, .of (.bl _), .inl ⟨_, rfl, kb2⟩, _, rfl, ?_⟩
    rw [if_pos rfl]
    refine ⟨_, rfl, _, rfl, _, rfl, _, _, rfl, rfl, ⟨T.ab, T.db⟩, _, rfl, _, rfl, _, _, rfl, rfl, ⟨T.cb, T.bb⟩, _, _, rfl, rfl, rfl, ?_⟩
    rw [show decide (V.bl (decide (a * y < x * b)) = V.bl (decide (a * y < x * b))) = true from decide_eq_true rfl]
    exact Qq H7 S7
end
end G1

/-! ===== K02k ===== -/
set_option Elab.async false
set_option linter.all false
set_option maxRecDepth 100000
set_option maxHeartbeats 1000000
namespace G1
open PySem L2 GM
section
variable {P : Program} {w : World} {K : PySem.W.Frag} {mg : Str → Option Value} {base : Heap} {c : List Addr}
theorem boot_list : bootBuiltins "list" = some (.type "list") := by decide +kernel
/-! all sums of what stands ahead -/
def spSums (K : PySem.W.Frag) : Sp := fun vs H Q _ => ∃ (S : Addr) (rs : List Rec), vs = [.ref S] ∧ H S = some (.lst (refs rs)) ∧ Frs K H rs ∧ rs.length ≤ 21 ∧ ∀ H', Q (.bl true) H'
theorem scSr : FnScope ["_law_some", "_law_handed", "_law_due", "_law_one", "_law_kept"] ["_law_some"] (defScope sSums) := ⟨rfl, rfl, rfl, by decide +kernel, rfl, by decide +kernel, by decide +kernel⟩
theorem ok_sums {f fU fI fL : Addr} {fd fdU fdI fdL : FuncData} (F : FunG K "_law_sums_right" "_law_sums_right" sSums .none f fd) (B : Bl mg)
    (GU : FnOk P w K mg base (CXE P w) 4 fU fdU ["some"] (spSum K)) (mU : mg "sum_of" = some (.ref fU)) (kU : PySem.W.keepIn K (.ref fU) = true) (bU : Binds K fdU ["some"] [])
    (GI : FnOk P w K mg base (CXE P w) 2 fI fdI ["_law_found"] (spIsFrac K)) (mI : mg "_law_is_fraction" = some (.ref fI)) (kI : PySem.W.keepIn K (.ref fI) = true) (bI : Binds K fdI ["_law_found"] [])
    (GL : FnOk P w K mg base (CXE P w) 1 fL fdL ["_law_top", "_law_bottom"] spLow) (mL : mg "_law_lowest" = some (.ref fL)) (kL : PySem.W.keepIn K (.ref fL) = true) (bL : Binds K fdL ["_law_top", "_law_bottom"] []) :
    FnOk P w K mg base (CXE P w) 5 f fd ["_law_some"] (spSums K) := by
  refine F.zokN scSr (fun vs H Q E h => ?_) (fun cdv A outer s H vs Q E hr h => ?_)
  · obtain ⟨S, rs, rfl, _⟩ := h
    rfl
  · obtain ⟨S, rs, rfl, hS, fs, len, q⟩ := h
    have hu := hr.units0
    have hr1 : Room 1 _ := hr.mono (by decide)
    have hr2 : Room 2 _ := hr.mono (by decide)
    refine ⟨_, zpss_cons (zps_set (i := 1) scSr.nd rfl (Or.inl rfl) (zpe_lst zpa_nil))
      (zpss_cons (zps_set (i := 2) scSr.nd rfl (Or.inl rfl) (zpe_tup (zpac_c zpe_int (zpac_c zpe_int zpa_nil))))
      (zpss_cons (zps_for PassesOwn.never rfl (zpi_list (zpe_op op_cat (zpv 0) (zpe_lst (zpac_t (zpe_tup (zpac_c zpe_int (zpac_c zpe_int zpa_nil))) zpa_nil)))) (zpg_name (i := 3) scSr.nd rfl (Or.inl rfl))
        (zpss_cons (zps_set (i := 4) scSr.nd rfl (Or.inl rfl) (zpe_callTy call_list_of (by rfl) B.list boot_list (zpac_n (zpv 1) zpa_nil)))
        (zpss_cons (zps_if (zpw_or (zpt_not (zpt_val (zpe_call GI hr2 (by rfl) mI kI bI .nil passE0 (zpac_f (zpe_call GU hr (by rfl) mU kU bU .nil passE0 (zpac_n (zpv 1) zpa_nil)) zpa_nil))))
            (zpw_or (zpt_cmpR (op_neT hu) (zpe_call GU hr (by rfl) mU kU bU .nil passE0 (zpac_n (zpv 1) zpa_nil)) (zpv 2) (nomark _)) (zpw_or1 (zpt_cmpR (op_neL hu) (zpv 1) (zpv 4) (nomark _))))).pt (zpss_one (zps_ret zpe_bl)) zpss_nil)
        (zpss_cons (zps_expr (zpe_bm PySem.F.plainAttrs_list PySem.F.slot_list_append PySem.F.type_list_append mt_append (zpv 1) (zpac_n (zpv 3) zpa_nil)))
        (zpss_one (zps_set (i := 2) scSr.nd rfl (Or.inl rfl) (zpe_call GL hr1 (by rfl) mL kL bL .nil passE0 (zpac_b (zpe_op op_add (zpe_op op_mulB (zpe_ix ix_tup (zpv 2) zpe_int (fun _ _ => rfl)) (zpe_ix ix_tup (zpv 3) zpe_int (fun _ _ => rfl)))
            (zpe_op op_mulB (zpe_ix ix_tup (zpv 3) zpe_int (fun _ _ => rfl)) (zpe_ix ix_tup (zpv 2) zpe_int (fun _ _ => rfl)))) (zpac_b (zpe_op op_mulB (zpe_ix ix_tup (zpv 2) zpe_int (fun _ _ => rfl)) (zpe_ix ix_tup (zpv 3) zpe_int (fun _ _ => rfl))) zpa_nil)))))))))
      (zpss_one (zps_ret zpe_bl)))), ?_⟩
    refine ⟨by show 0 ≤ sizeLine; decide, fun l hl => ⟨by show 2 ≤ sizeLine; decide, fun t ht => ?_⟩⟩
    refine ⟨_, rfl, by show 2 ≤ sizeLine; decide, fun t2 ht2 => ⟨by show 1 ≤ sizeLine; decide, fun l2 hl2 => ?_⟩⟩
    have s1 := same_upd (o := .lst []) hl
    have s2 := same_upd (o := .tup [.int 0, .int 1]) ht
    have s3 := same_upd (o := .tup [.int 0, .int 1]) ht2
    have s4 := same_upd (o := .lst [.ref t2]) hl2
    have S4 := ((s1.trans s2).trans s3).trans s4
    have fs4 : Frs K _ rs := fs.kt (KT.same S4)
    have ht24 := s4 _ _ (upd_same (H := (upd (upd H l (.lst [])) t (.tup [.int 0, .int 1]))) (a := t2) (o := .tup [.int 0, .int 1]))
    have hl4 := ((s2.trans s3).trans s4) _ _ (upd_same (H := H) (a := l) (o := .lst []))
    have ht4 := (s3.trans s4) _ _ (upd_same (H := upd H l (.lst [])) (a := t) (o := .tup [.int 0, .int 1]))
    have hS4 := S4 _ _ hS
    have hl24 : (upd (upd (upd (upd H l (.lst [])) t (.tup [.int 0, .int 1])) t2 (.tup [.int 0, .int 1])) l2 (.lst [.ref t2])) l2 = some (.lst [.ref t2]) := upd_same
    refine ⟨S, l2, _, _, rfl, rfl, hS4, hl24, ?_, fun L hL => ?_⟩
    · rw [refs_len]
      have : (21 : Nat) + 1 ≤ sizeLine := by decide
      show rs.length + 1 ≤ _
      omega
    generalize upd (upd (upd (upd H l (.lst [])) t (.tup [.int 0, .int 1])) t2 (.tup [.int 0, .int 1])) l2 (.lst [.ref t2]) = H4 at *
    have s5 := same_upd (o := .lst (refs rs ++ [.ref t2])) hL
    obtain ⟨ss, hss⟩ : ∃ ss : List Rec, ss = rs ++ [(t2, (0, 1))] := ⟨_, rfl⟩
    have e1 : refs rs ++ [V.ref t2] = refs ss := by rw [hss, refs_app]; rfl
    have ls : ss.length ≤ 22 := by rw [hss, List.length_append]; simp only [List.length_cons, List.length_nil]; omega
    have fss : Frs K (upd H4 L (.lst (refs rs ++ [.ref t2]))) ss := by
      rw [hss]
      exact (fs4.kt (KT.same s5)).snoc (SqT.of (s5 _ _ ht24)) fr0
    have ne : l ≠ L := ne_of_none hl4 hL
    refine ⟨L, rfl, ⟨_, SqL.of upd_same⟩, for_list (K := K) (a := L) (xs := refs ss)
      (fun i σ H2 => ∃ (du : Addr) (v3 v4 : Option V), σ = [some (.ref S), some (.ref l), some (.ref du), v3, v4] ∧ H2 L = some (.lst (refs ss)) ∧ H2 l = some (.lst (refs (ss.take i))) ∧ Frs K H2 ss ∧ SqT K H2 du [.int (sums (ss.take i)).1, .int (sums (ss.take i)).2])
      ⟨t, _, _, rfl, by rw [← e1]; exact upd_same, s5 _ _ hl4, fss, SqT.of (s5 _ _ ht4)⟩ ?_ ?_ ?_⟩
    · rintro i σ H2 _ ⟨du, v3, v4, _, hL2, _⟩
      exact SqL.of hL2
    · rintro i x σ H2 hi ⟨du, v3, v4, rfl, hL2, hl2', f2, hd2⟩
      obtain ⟨r, hr', rfl⟩ := refs_at hi
      have rm : r ∈ ss := List.mem_of_getElem? hr'
      have i22 : i < 22 := Nat.lt_of_lt_of_le (List.getElem?_eq_some_iff.mp hr').1 ls
      have lt : (ss.take i).length ≤ i := by rw [List.length_take]; omega
      -- kept
      refine ⟨_, rfl, l, _, rfl, .inl (SqL.of hl2'), fun kp hkp => ?_⟩
      have s6 := same_upd (o := .lst (refs (ss.take i))) hkp
      have hl6 := s6 _ _ hl2'
      have f6 := f2.kt (KT.same s6)
      have bd := sums_bd (f6.take i) lt
      have lo := sums_low (f6.take i)
      -- the sum is a fraction
      refine ⟨_, rfl, l, ss.take i, rfl, hl6, f6.take i, by omega, fun u7 H7 s7 hu7 => ?_⟩
      refine ⟨u7, _, _, rfl, hu7, bd.p, bd_d bd (by omega), lo.low, fun H8 s8 => ⟨_, rfl, iteF ?_⟩⟩
      have S8 := s7.trans s8
      -- it is what is due
      refine ⟨_, rfl, l, ss.take i, rfl, S8 _ _ hl6, (f6.kt (KT.same S8)).take i, by omega, fun u9 H9 s9 hu9 => ?_⟩
      have S9 := S8.trans s9
      have T9 : Same H2 H9 := s6.trans S9
      refine ⟨_, rfl, u9, du, _, _, rfl, rfl, hu9, sqT_same T9 hd2, rfl, rfl, _, rfl, ?_⟩
      rw [show eqVs [V.int (sums (ss.take i)).1, V.int (sums (ss.take i)).2] [V.int (sums (ss.take i)).1, V.int (sums (ss.take i)).2] = true by simp [eqVs, eqV]]
      refine iteF ?_
      -- what was handed is as it was
      refine ⟨_, rfl, _, rfl, l, kp, (ss.take i).map (fun r : Rec => r.1), rfl, rfl, SqL.of (S9 _ _ hl6), SqL.of (S9 _ _ upd_same), _, rfl, iteF ?_⟩
      -- one more
      have hl9 := S9 _ _ hl6
      have f9 := f6.kt (KT.same S9)
      refine ⟨_, rfl, .inl ⟨rfl, _, SqL.of hl9⟩, _, rfl, l, _, _, rfl, rfl, hl9, ?_, ?_⟩
      · rw [refs_len]
        have : (22 : Nat) < sizeLine := by decide
        omega
      have k10 : KT H9 (upd H9 l (.lst (refs (ss.take i) ++ [.ref r.1]))) := KT.put hl9
      have hd10 := k10.sq (sqT_same T9 hd2)
      have f10 := f9.kt k10
      have T := two_sum bd (by omega) (f10 r rm).2
      have hr10 := (f10 r rm).1
      refine ⟨_, rfl, du, _, _, _, rfl, rfl, hd10, rfl, _, rfl, r.1, _, _, _, rfl, rfl, hr10, rfl, _, _, rfl, rfl, ⟨T.ab, T.db⟩, _, rfl, r.1, _, _, _, rfl, rfl, hr10, rfl, _, rfl, du, _, _, _, rfl, rfl, hd10, rfl, _, _, rfl, rfl, ⟨T.cb, T.bb⟩, _, _, rfl, rfl,
        _, rfl, du, _, _, _, rfl, rfl, hd10, rfl, _, rfl, r.1, _, _, _, rfl, rfl, hr10, rfl, _, _, rfl, rfl, ⟨T.bb, T.db⟩, ?_⟩
      refine ⟨_, _, rfl, Int.mul_pos T.bp T.dp, T.bot, fun u n m hu' fr _ => ?_⟩
      have s11 := same_upd (o := .tup [.int n, .int m]) hu'
      have e := frac_eq (Int.mul_pos T.bp T.dp) fr
      have e2 : sums (ss.take (i + 1)) = (n, m) := by
        rw [take_snoc hr', sums_snoc]
        exact e.symm
      have e3 : refs (ss.take (i + 1)) = refs (ss.take i) ++ [.ref r.1] := by rw [take_snoc hr', refs_app]; rfl
      refine ⟨u, _, _, rfl, s11 _ _ (by rw [upd_ne ne.symm]; exact T9 _ _ hL2), by rw [e3]; exact s11 _ _ upd_same, f10.kt (KT.same s11), ?_⟩
      rw [e2]
      exact SqT.of upd_same
    · rintro σ H2 _
      exact q H2
end
end G1

/-! ===== K02l ===== -/
set_option Elab.async false
set_option linter.all false
set_option maxRecDepth 100000
set_option maxHeartbeats 1000000
namespace G1
open PySem L2 GM
section
variable {P : Program} {w : World} {K : PySem.W.Frag} {mg : Str → Option Value} {base : Heap} {c : List Addr}
theorem Src.same {H H' : Hp} {p : Addr} (h : Src H p) (s : Same H H') : Src H' p := by
  obtain ⟨n, d, e, r⟩ := h.ex
  exact ⟨n, d, s _ _ e, r⟩
/-- law's: a list of at most 63 ints is handed in, True comes out -/
def spLaw (K : PySem.W.Frag) : Sp := fun vs H Q _ => ∃ (a : Addr) (ns : List Int), vs = [.ref a] ∧ SqL K H a (ns.map V.int) ∧ ns.length ≤ 63 ∧ ∀ H', Q (.bl true) H'
theorem cut_int {ns : List Int} {lo hi : Option Int} {i : Nat} {x : V} (h : (cutV (ns.map V.int) lo hi)[i]? = some x) : ∃ z, x = .int z := by
  have m := List.mem_of_getElem? h
  unfold cutV at m
  have m2 := List.mem_of_mem_drop (List.mem_of_mem_take m)
  obtain ⟨z, _, e⟩ := List.mem_map.mp m2
  exact ⟨z, e.symm⟩
theorem fr12 : Fr (1, 2) := ⟨⟨by decide, by decide⟩, by decide +kernel, by decide +kernel⟩
theorem scLa : FnScope ["_law_script", "_law_ahead", "_law_some", "_law_k", "_law_cell_here", "_law_source_here", "_law_one", "_law_other"] ["_law_script"] (defScope sLaw) := ⟨rfl, rfl, rfl, by decide +kernel, rfl, by decide +kernel, by decide +kernel⟩
theorem ok_law {f fS fD fN fL fR fU : Addr} {fd fdS fdD fdN fdL fdR fdU : FuncData} (F : FunG K "law" "law" sLaw .none f fd) (B : Bl mg)
    (GS : FnOk P w K mg base (CXE P w) 1 fS fdS ["_law_cell_here", "_law_k"] spSource) (mS : mg "_law_source" = some (.ref fS)) (kS : PySem.W.keepIn K (.ref fS) = true) (bS : Binds K fdS ["_law_cell_here", "_law_k"] [])
    (GD : FnOk P w K mg base (CXE P w) 1 fD fdD ["_law_source_here", "_law_many"] spDraw) (mD : mg "_law_draw" = some (.ref fD)) (kD : PySem.W.keepIn K (.ref fD) = true) (bD : Binds K fdD ["_law_source_here", "_law_many"] [])
    (GN : FnOk P w K mg base (CXE P w) 2 fN fdN ["_law_source_here"] spDrawn) (mN : mg "_law_drawn" = some (.ref fN)) (kN : PySem.W.keepIn K (.ref fN) = true) (bN : Binds K fdN ["_law_source_here"] [])
    (GL : FnOk P w K mg base (CXE P w) 1 fL fdL ["_law_top", "_law_bottom"] spLow) (mL : mg "_law_lowest" = some (.ref fL)) (kL : PySem.W.keepIn K (.ref fL) = true) (bL : Binds K fdL ["_law_top", "_law_bottom"] [])
    (GR : FnOk P w K mg base (CXE P w) 5 fR fdR ["_law_one", "_law_other"] (sp2 K)) (mR : mg "_law_right" = some (.ref fR)) (kR : PySem.W.keepIn K (.ref fR) = true) (bR : Binds K fdR ["_law_one", "_law_other"] [])
    (GU : FnOk P w K mg base (CXE P w) 5 fU fdU ["_law_some"] (spSums K)) (mU : mg "_law_sums_right" = some (.ref fU)) (kU : PySem.W.keepIn K (.ref fU) = true) (bU : Binds K fdU ["_law_some"] []) :
    FnOk P w K mg base (CXE P w) 6 f fd ["_law_script"] (spLaw K) := by
  refine F.zokN scLa (fun vs H Q E h => ?_) (fun cdv A outer s H vs Q E hr h => ?_)
  · obtain ⟨a, ns, rfl, _⟩ := h
    rfl
  · obtain ⟨a, ns, rfl, hA, hlen, q⟩ := h
    have hr1 : Room 1 _ := hr.mono (by decide)
    have hr2 : Room 2 _ := hr.mono (by decide)
    refine ⟨_, zpss_cons (zps_set (i := 1) scLa.nd rfl (Or.inl rfl) (zpe_tup (zpac_c zpe_int (zpac_c zpe_int zpa_nil))))
      (zpss_cons (zps_set (i := 2) scLa.nd rfl (Or.inl rfl) (zpe_lst zpa_nil))
      (zpss_cons (zps_for PassesOwn.never rfl (zpi_enum (by rfl) B.enum (zpac_b (zpe_op op_cat (zpe_lst (zpac_c zpe_int (zpac_c zpe_int zpa_nil))) (zpe_slice sl_list (zpv 0) zpo_none (zpo_some zpe_int))) zpa_nil))
        (zpg_tup rfl (zpgs_cons (zpg_name (i := 3) scLa.nd rfl (Or.inl rfl)) (zpgs_cons (zpg_name (i := 4) scLa.nd rfl (Or.inl rfl)) zpgs_nil)))
        (zpss_cons (zps_set (i := 5) scLa.nd rfl (Or.inl rfl) (zpe_call GS hr1 (by rfl) mS kS bS .nil passE0 (zpac_n (zpv 4) (zpac_n (zpv 3) zpa_nil))))
        (zpss_cons (zps_set (i := 6) scLa.nd rfl (Or.inl rfl) (zpe_call GN hr2 (by rfl) mN kN bN .nil passE0 (zpac_n (zpv 5) zpa_nil)))
        (zpss_cons (zps_for PassesOwn.never rfl (zpi_list (zpe_lst (zpac_n (zpv 1) (zpac_n (zpv 6) zpa_nil)))) (zpg_name (i := 7) scLa.nd rfl (Or.inl rfl))
          (zpss_one (zps_if (zpw_or (zpt_not (zpt_val (zpe_call GR hr (by rfl) mR kR bR .nil passE0 (zpac_n (zpv 6) (zpac_n (zpv 7) zpa_nil)))))
            (zpw_or1 (zpt_not (zpt_val (zpe_call GR hr (by rfl) mR kR bR .nil passE0 (zpac_n (zpv 7) (zpac_n (zpv 6) zpa_nil))))))).pt (zpss_one (zps_ret zpe_bl)) zpss_nil)))
        (zpss_cons (zps_set (i := 1) scLa.nd rfl (Or.inl rfl) (zpv 6))
        (zpss_one (zps_if (zpw_and (zpt_cmpR op_lt (zpv 3) zpe_int (nomark _)) (zpw_and1 (zpt_cmpR op_eq (zpe_call GD hr1 (by rfl) mD kD bD .nil passE0 (zpac_n (zpv 5) (zpac_c zpe_int zpa_nil))) zpe_int (nomark _)))).pt
          (zpss_one (zps_expr (zpe_bm PySem.F.plainAttrs_list PySem.F.slot_list_append PySem.F.type_list_append mt_append (zpv 2) (zpac_n (zpv 6) zpa_nil))))
          (zpss_one (zps_if (zpt_cmpR op_lt (zpv 3) zpe_int (nomark _))
            (zpss_one (zps_expr (zpe_bm PySem.F.plainAttrs_list PySem.F.slot_list_append PySem.F.type_list_append mt_append (zpv 2) (zpac_f (zpe_call GL hr1 (by rfl) mL kL bL .nil passE0
              (zpac_b (zpe_op op_sub (zpe_call GD hr1 (by rfl) mD kD bD .nil passE0 (zpac_n (zpv 5) (zpac_c zpe_int zpa_nil))) zpe_int) (zpac_b (zpe_op op_add zpe_int (zpe_call GD hr1 (by rfl) mD kD bD .nil passE0 (zpac_n (zpv 5) (zpac_c zpe_int zpa_nil)))) zpa_nil))) zpa_nil)))) zpss_nil)))))))))
      (zpss_one (zps_ret (zpe_call GU hr (by rfl) mU kU bU .nil passE0 (zpac_n (zpv 2) zpa_nil)))))), ?_⟩
    have sm : ∀ k : Nat, k ≤ 2001 → k < big := fun k hk => Nat.lt_of_le_of_lt hk (by decide +kernel)
    refine ⟨by show 2 ≤ sizeLine; decide, fun t0 ht0 => ⟨by show 0 ≤ sizeLine; decide, fun S hS => ?_⟩⟩
    have s1 := same_upd (o := .tup [.int 1, .int 2]) ht0
    have s2 := same_upd (o := .lst []) hS
    refine ⟨by show 2 ≤ sizeLine; decide, fun l1 h1 => ⟨_, rfl, _, rfl, a, _, rfl, ((s1.trans s2).trans (same_upd h1)).seq hA, fun l2 h2 => ?_⟩⟩
    have s3 := same_upd (o := .lst [.int 1, .int 2]) h1
    have s4 := same_upd (o := .lst (cutV (ns.map V.int) none (some 63))) h2
    have hl1 := s4 _ _ (upd_same (H := upd (upd H t0 (.tup [.int 1, .int 2])) S (.lst [])) (a := l1) (o := .lst [.int 1, .int 2]))
    have hS4 := (s3.trans s4) _ _ (upd_same (H := upd H t0 (.tup [.int 1, .int 2])) (a := S) (o := .lst []))
    have ht4 := ((s2.trans s3).trans s4) _ _ (upd_same (H := H) (a := t0) (o := .tup [.int 1, .int 2]))
    refine ⟨l1, l2, _, _, rfl, rfl, hl1, upd_same, ?_, fun L hL => ?_⟩
    · have z := cutV_length (ns.map V.int) none (some 63)
      rw [List.length_map] at z
      have : (2 : Nat) + 63 ≤ sizeLine := by decide
      show ([V.int 1, V.int 2] : List V).length + _ ≤ _
      simp only [List.length_cons, List.length_nil]
      omega
    have LS : L ≠ S := fun z => by rw [z, hS4] at hL; cases hL
    have s5 := same_upd (o := .lst ([V.int 1, V.int 2] ++ cutV (ns.map V.int) none (some 63))) hL
    refine ⟨L, rfl, ⟨_, SqL.of upd_same⟩, for_enum (K := K) (a := L) (xs := [V.int 1, V.int 2] ++ cutV (ns.map V.int) none (some 63))
      (fun i σ H2 => ∃ (ah : Addr) (n d : Int) (rs : List Rec) (v3 v4 v5 v6 v7 : Option V), σ = [some (.ref a), some (.ref ah), some (.ref S), v3, v4, v5, v6, v7] ∧ H2 L = some (.lst ([V.int 1, V.int 2] ++ cutV (ns.map V.int) none (some 63))) ∧
        H2 S = some (.lst (refs rs)) ∧ Frs K H2 rs ∧ SqT K H2 ah [.int n, .int d] ∧ Fr (n, d) ∧ rs.length ≤ i ∧ rs.length ≤ 21)
      ⟨t0, 1, 2, [], _, _, _, _, _, rfl, upd_same, s5 _ _ hS4, (fun r hr => nomatch hr), SqT.of (s5 _ _ ht4), fr12, by simp, by simp⟩ ?_ ?_ ?_⟩
    · rintro i σ H2 _ ⟨ah, n, d, rs, v3, v4, v5, v6, v7, _, e, _⟩
      exact SqL.of e
    · rintro i x t σ H2 hi ⟨ah, n, d, rs, v3, v4, v5, v6, v7, rfl, hL2, hS2, fs2, ha2, fr2, len1, len2⟩ ht
      have il : i < 65 := by
        have z1 := (List.getElem?_eq_some_iff.mp hi).1
        have z := cutV_length (ns.map V.int) none (some 63)
        rw [List.length_map] at z
        simp only [List.length_append, List.length_cons, List.length_nil] at z1
        omega
      obtain ⟨z, rfl⟩ : ∃ z, x = V.int z := by
        match i, hi with
        | 0, hi => exact ⟨1, (Option.some.inj hi).symm⟩
        | 1, hi => exact ⟨2, (Option.some.inj hi).symm⟩
        | j + 2, hi => exact cut_int hi
      refine ⟨t, _, rfl, SqT.of upd_same, rfl, _, _, rfl, _, _, rfl, rfl, ?_⟩
      have s3 := same_upd (o := .tup [.int i, .int z]) ht
      generalize upd H2 t (.tup [.int i, .int z]) = H3 at s3
      -- the source
      refine ⟨_, rfl, _, rfl, z, i, rfl, by omega, by omega, fun p H4 hp sr4 x4 => ?_⟩
      have s4 : Same H3 H4 := fun b o e => (x4 b (ne_of_none e hp)).trans e
      have pS : S ≠ p := ne_of_none (s3 _ _ hS2) hp
      have pL : L ≠ p := ne_of_none (s3 _ _ hL2) hp
      have S4 := s3.trans s4
      -- one is drawn
      refine ⟨_, rfl, p, rfl, sr4, fun t5 n5 d5 H5 ht5 fr5 sr5 E5 => ?_⟩
      have k5 : KT H4 H5 := KT.ext sr4 E5
      have K5 : KT H2 H5 := (KT.same S4).trans k5
      have hL5 := E5 _ _ pL (S4 _ _ hL2)
      have hS5 := E5 _ _ pS (S4 _ _ hS2)
      have fs5 := fs2.kt K5
      have ha5 := K5.sq ha2
      have ht5' : SqT K H5 t5 [.int n5, .int d5] := SqT.of ht5
      -- with the one ahead, and with itself
      refine ⟨_, rfl, _, rfl, by show 2 ≤ sizeLine; decide, fun l6 h6 => ⟨l6, rfl, ⟨_, SqL.of upd_same⟩, ?_⟩⟩
      have s6 := same_upd (o := .lst [V.ref ah, V.ref t5]) h6
      have hl6 : (upd H5 l6 (.lst [V.ref ah, V.ref t5])) l6 = some (.lst [V.ref ah, V.ref t5]) := upd_same
      have sr6 := sr5.same s6
      generalize upd H5 l6 (.lst [V.ref ah, V.ref t5]) = H6 at s6 hl6 sr6
      refine for_list (K := K) (a := l6) (xs := [V.ref ah, V.ref t5])
        (fun j σ H7 => ∃ v7 : Option V, σ = [some (.ref a), some (.ref ah), some (.ref S), some (.int i), some (.int z), some (.ref p), some (.ref t5), v7] ∧ Same H6 H7) ⟨_, rfl, fun _ _ h => h⟩ ?_ ?_ ?_
      · rintro j σ H7 _ ⟨v7, _, s7⟩
        exact SqL.of (s7 _ _ hl6)
      · rintro j x σ H7 hj ⟨v7, rfl, s7⟩
        obtain ⟨o, no, dq, rfl, ho, fro⟩ : ∃ (o : Addr) (no dq : Int), x = .ref o ∧ SqT K H5 o [.int no, .int dq] ∧ Fr (no, dq) := by
          match j, hj with
          | 0, hj => exact ⟨ah, n, d, (Option.some.inj hj).symm, ha5, fr2⟩
          | 1, hj => exact ⟨t5, n5, d5, (Option.some.inj hj).symm, ht5', fr5⟩
          | _ + 2, hj => cases hj
        have S7 := s6.trans s7
        refine ⟨_, rfl, _, rfl, t5, o, n5, d5, no, dq, rfl, sqT_same S7 ht5', sqT_same S7 ho, fr5, fro, fun H8 s8 => ⟨_, rfl, iteF ?_⟩⟩
        refine ⟨_, rfl, _, rfl, o, t5, no, dq, n5, d5, rfl, sqT_same (S7.trans s8) ho, sqT_same (S7.trans s8) ht5', fro, fr5, fun H9 s9 => ⟨_, rfl, iteF ?_⟩⟩
        exact ⟨_, rfl, s7.trans (s8.trans s9)⟩
      · rintro σ H7 ⟨v7, rfl, s7⟩
        have S7 := s6.trans s7
        have hL7 := S7 _ _ hL5
        have hS7 := S7 _ _ hS5
        have fs7 := fs5.kt (KT.same S7)
        have ht7 := sqT_same S7 ht5'
        have sr7 := sr6.same s7
        refine ⟨_, rfl, ?_⟩
        refine ⟨_, rfl, _, _, rfl, rfl, _, rfl, ite2 (fun z6 => ?_) (fun z6 => ?_)⟩
        · have i6 : i < 6 := by have := of_decide_eq_true z6; omega
          refine ⟨_, rfl, p, 3, rfl, sr7, by decide, sm 3 (by decide), fun d8 H8 d80 d81 sr8 x8 => ?_⟩
          have E8 : Ext p H7 H8 := .of_eq x8
          have k8 := KT.ext sr7 E8
          have hL8 := E8 _ _ pL hL7
          have hS8 := E8 _ _ pS hS7
          have fs8 := fs7.kt k8
          have ht8 := k8.sq ht7
          refine ⟨rfl, _, rfl, ite2 (fun _ => ?_) (fun _ => ?_)⟩
          · refine ⟨_, rfl, .inl ⟨rfl, _, SqL.of hS8⟩, _, rfl, S, _, _, rfl, rfl, hS8, ?_, ?_⟩
            · rw [refs_len]
              have : (21 : Nat) < sizeLine := by decide
              omega
            have k9 := KT.put (o := .lst (refs rs ++ [.ref t5])) hS8
            refine ⟨t5, n5, d5, rs ++ [(t5, (n5, d5))], _, _, _, _, _, rfl, by rw [upd_ne LS]; exact hL8, by rw [refs_app]; exact upd_same, (fs8.kt k9).snoc (k9.sq ht8) fr5, k9.sq ht8, fr5, ?_, ?_⟩
            · rw [List.length_append]; simp only [List.length_cons, List.length_nil]; omega
            · rw [List.length_append]; simp only [List.length_cons, List.length_nil]; omega
          · refine ⟨_, rfl, _, _, rfl, rfl, _, rfl, ite2 (fun z21 => ?_) (fun z21 => ?_)⟩
            · have i21 : i < 21 := by have := of_decide_eq_true z21; omega
              refine ⟨_, rfl, .inl ⟨rfl, _, SqL.of hS8⟩, _, rfl, p, 2001, rfl, sr8, by decide, sm 2001 (by decide), fun dA HA dA0 dA1 srA xA => ?_⟩
              refine ⟨_, _, rfl, rfl, _, rfl, p, 9, rfl, srA, by decide, sm 9 (by decide), fun dB HB dB0 dB1 srB xB => ⟨_, _, rfl, rfl, ?_⟩⟩
              refine ⟨dA - 1000, 1 + dB, rfl, by omega, Nat.lt_of_le_of_lt (show (1 + dB).natAbs ≤ 2001 by omega) (by decide +kernel), fun u n' m' hu' fr _ => ?_⟩
              have EB : Ext p H8 HB := (Ext.of_eq xA).trans (.of_eq xB)
              have kB : KT H8 HB := KT.ext sr8 EB
              have sC := same_upd (o := .tup [.int n', .int m']) hu'
              have kC := kB.trans (KT.same sC)
              have hSC := sC _ _ (EB _ _ pS hS8)
              have fru : Fr (n', m') := ⟨⟨fr.pos, fr.low⟩, Nat.le_trans fr.top (Nat.le_trans (show (dA - 1000).natAbs ≤ 2001 by omega) (by decide +kernel)), Nat.le_trans fr.bot (Nat.le_trans (show (1 + dB).natAbs ≤ 2001 by omega) (by decide +kernel))⟩
              refine ⟨S, _, _, rfl, rfl, hSC, ?_, ?_⟩
              · rw [refs_len]
                have : (21 : Nat) < sizeLine := by decide
                omega
              have kD := KT.put (o := .lst (refs rs ++ [.ref u])) hSC
              refine ⟨t5, n5, d5, rs ++ [(u, (n', m'))], _, _, _, _, _, rfl, by rw [upd_ne LS]; exact sC _ _ (EB _ _ pL hL8), by rw [refs_app]; exact upd_same, ((fs8.kt kC).kt kD).snoc (kD.sq (SqT.of upd_same)) fru, (kC.trans kD).sq ht8, fr5, ?_, ?_⟩
              · rw [List.length_append]; simp only [List.length_cons, List.length_nil]; omega
              · rw [List.length_append]; simp only [List.length_cons, List.length_nil]; omega
            · exact ⟨t5, n5, d5, rs, _, _, _, _, _, rfl, hL8, hS8, fs8, ht8, fr5, by omega, len2⟩
        · refine ⟨_, rfl, _, _, rfl, rfl, _, rfl, ite2 (fun z21 => ?_) (fun z21 => ?_)⟩
          · have i21 : i < 21 := by have := of_decide_eq_true z21; omega
            refine ⟨_, rfl, .inl ⟨rfl, _, SqL.of hS7⟩, _, rfl, p, 2001, rfl, sr7, by decide, sm 2001 (by decide), fun dA HA dA0 dA1 srA xA => ?_⟩
            refine ⟨_, _, rfl, rfl, _, rfl, p, 9, rfl, srA, by decide, sm 9 (by decide), fun dB HB dB0 dB1 srB xB => ⟨_, _, rfl, rfl, ?_⟩⟩
            refine ⟨dA - 1000, 1 + dB, rfl, by omega, Nat.lt_of_le_of_lt (show (1 + dB).natAbs ≤ 2001 by omega) (by decide +kernel), fun u n' m' hu' fr _ => ?_⟩
            have EB : Ext p H7 HB := (Ext.of_eq xA).trans (.of_eq xB)
            have kB : KT H7 HB := KT.ext sr7 EB
            have sC := same_upd (o := .tup [.int n', .int m']) hu'
            have kC := kB.trans (KT.same sC)
            have hSC := sC _ _ (EB _ _ pS hS7)
            have fru : Fr (n', m') := ⟨⟨fr.pos, fr.low⟩, Nat.le_trans fr.top (Nat.le_trans (show (dA - 1000).natAbs ≤ 2001 by omega) (by decide +kernel)), Nat.le_trans fr.bot (Nat.le_trans (show (1 + dB).natAbs ≤ 2001 by omega) (by decide +kernel))⟩
            refine ⟨S, _, _, rfl, rfl, hSC, ?_, ?_⟩
            · rw [refs_len]
              have : (21 : Nat) < sizeLine := by decide
              omega
            have kD := KT.put (o := .lst (refs rs ++ [.ref u])) hSC
            refine ⟨t5, n5, d5, rs ++ [(u, (n', m'))], _, _, _, _, _, rfl, by rw [upd_ne LS]; exact sC _ _ (EB _ _ pL hL7), by rw [refs_app]; exact upd_same, ((fs7.kt kC).kt kD).snoc (kD.sq (SqT.of upd_same)) fru, (kC.trans kD).sq ht7, fr5, ?_, ?_⟩
            · rw [List.length_append]; simp only [List.length_cons, List.length_nil]; omega
            · rw [List.length_append]; simp only [List.length_cons, List.length_nil]; omega
          · exact ⟨t5, n5, d5, rs, _, _, _, _, _, rfl, hL7, hS7, fs7, ht7, fr5, by omega, len2⟩
    · rintro σ H2 ⟨ah, n, d, rs, v3, v4, v5, v6, v7, rfl, _, hS2, fs2, _, _, _, len2⟩
      exact ⟨_, rfl, S, rs, rfl, hS2, fs2, len2, q⟩
end
end G1

/-! ===== K02z ===== -/
set_option Elab.async false
set_option linter.all false
set_option maxRecDepth 100000
set_option maxHeartbeats 4000000
namespace G1
open PySem PySem.Spec PyProof.Rows L2 GM
/-! ### what the top has written, and the law's own head -/
theorem all_mk {l : PySem.W.OpenLaw} {w : World} {K : PySem.W.Frag} {h : Heap} {mg : Str → Option Value} {fa : Addr} (X : K.In h) (G : h.Ns mainGlobals mg) (hfa : mg "law" = some (.ref fa))
    {f0 : Addr} {od0 an0 : Option Addr} {sl0 : Array (Option Value)} {oc0 kV0 dc0 pm0 cd0 ct0 : Value}
    {f1 : Addr} {od1 an1 : Option Addr} {sl1 : Array (Option Value)} {oc1 kV1 dc1 pm1 cd1 ct1 : Value}
    {f2 : Addr} {od2 an2 : Option Addr} {sl2 : Array (Option Value)} {oc2 kV2 dc2 pm2 cd2 ct2 : Value}
    {dT : Addr} {oT : Value} {odT : Option Addr} {nT : Nat} {slT : Array (Option Value)} {tk : Tok}
    {f3 : Addr} {od3 an3 : Option Addr} {sl3 : Array (Option Value)} {oc3 kV3 dc3 pm3 cd3 ct3 : Value}
    {f4 : Addr} {od4 an4 : Option Addr} {sl4 : Array (Option Value)} {oc4 kV4 dc4 pm4 cd4 ct4 : Value}
    {f5 : Addr} {od5 an5 : Option Addr} {sl5 : Array (Option Value)} {oc5 kV5 dc5 pm5 cd5 ct5 : Value}
    {f6 : Addr} {od6 an6 : Option Addr} {sl6 : Array (Option Value)} {oc6 kV6 dc6 pm6 cd6 ct6 : Value}
    {f7 : Addr} {od7 an7 : Option Addr} {sl7 : Array (Option Value)} {oc7 kV7 dc7 pm7 cd7 ct7 : Value}
    {f8 : Addr} {od8 an8 : Option Addr} {sl8 : Array (Option Value)} {oc8 kV8 dc8 pm8 cd8 ct8 : Value}
    {f9 : Addr} {od9 an9 : Option Addr} {sl9 : Array (Option Value)} {oc9 kV9 dc9 pm9 cd9 ct9 : Value}
    {f10 : Addr} {od10 an10 : Option Addr} {sl10 : Array (Option Value)} {oc10 kV10 dc10 pm10 cd10 ct10 : Value}
    {f11 : Addr} {od11 an11 : Option Addr} {sl11 : Array (Option Value)} {oc11 kV11 dc11 pm11 cd11 ct11 : Value}
    {f12 : Addr} {od12 an12 : Option Addr} {sl12 : Array (Option Value)} {oc12 kV12 dc12 pm12 cd12 ct12 : Value}
    {f13 : Addr} {od13 an13 : Option Addr} {sl13 : Array (Option Value)} {oc13 kV13 dc13 pm13 cd13 ct13 : Value}
    {f14 : Addr} {od14 an14 : Option Addr} {sl14 : Array (Option Value)} {oc14 kV14 dc14 pm14 cd14 ct14 : Value}
    {f15 : Addr} {od15 an15 : Option Addr} {sl15 : Array (Option Value)} {oc15 kV15 dc15 pm15 cd15 ct15 : Value}
    {f16 : Addr} {od16 an16 : Option Addr} {sl16 : Array (Option Value)} {oc16 kV16 dc16 pm16 cd16 ct16 : Value}
    {f17 : Addr} {od17 an17 : Option Addr} {sl17 : Array (Option Value)} {oc17 kV17 dc17 pm17 cd17 ct17 : Value}
    {f18 : Addr} {od18 an18 : Option Addr} {sl18 : Array (Option Value)} {oc18 kV18 dc18 pm18 cd18 ct18 : Value}
    {f19 : Addr} {od19 an19 : Option Addr} {sl19 : Array (Option Value)} {oc19 kV19 dc19 pm19 cd19 ct19 : Value}
    {f20 : Addr} {od20 an20 : Option Addr} {sl20 : Array (Option Value)} {oc20 kV20 dc20 pm20 cd20 ct20 : Value}
    {aN : Addr} {odN : Option Addr} {nN : Nat} {slN : Array (Option Value)} {tkA tkB : Tok}
    {C0 C1 C2 C3 C4 C5 C6 C7 C8 C9 C10 C11 C12 C13 C14 : Addr}
    (a0 : PySem.W.nsIn K mainGlobals "is_whole" = some (some (.ref f0)))
    (l0 : K.lookup f0 = some ⟨oc0, od0, .func (PySem.W.fnOf "is_whole" "is_whole" (defArgs sWhole) (defBody sWhole) (defScope sWhole) .none kV0 dc0 pm0 an0 cd0 ct0), sl0⟩)
    (c0 : PySem.W.codeIn K cd0 "is_whole" = true)
    (k0 : PySem.W.keepIn K (.ref f0) = true)
    (a1 : PySem.W.nsIn K mainGlobals "common_divisor" = some (some (.ref f1)))
    (l1 : K.lookup f1 = some ⟨oc1, od1, .func (PySem.W.fnOf "common_divisor" "common_divisor" (defArgs sGcd) (defBody sGcd) (defScope sGcd) .none kV1 dc1 pm1 an1 cd1 ct1), sl1⟩)
    (c1 : PySem.W.codeIn K cd1 "common_divisor" = true)
    (k1 : PySem.W.keepIn K (.ref f1) = true)
    (a2 : PySem.W.nsIn K mainGlobals "fraction" = some (some (.ref f2)))
    (l2 : K.lookup f2 = some ⟨oc2, od2, .func (PySem.W.fnOf "fraction" "fraction" (defArgs sFrac) (defBody sFrac) (defScope sFrac) (.ref dT) kV2 dc2 pm2 an2 cd2 ct2), sl2⟩)
    (c2 : PySem.W.codeIn K cd2 "fraction" = true)
    (k2 : PySem.W.keepIn K (.ref f2) = true)
    (lT : K.lookup dT = some ⟨oT, odT, .seq #[.int 1 tk] nT, slT⟩)
    (a3 : PySem.W.nsIn K mainGlobals "plus" = some (some (.ref f3)))
    (l3 : K.lookup f3 = some ⟨oc3, od3, .func (PySem.W.fnOf "plus" "plus" (defArgs sPlus) (defBody sPlus) (defScope sPlus) .none kV3 dc3 pm3 an3 cd3 ct3), sl3⟩)
    (c3 : PySem.W.codeIn K cd3 "plus" = true)
    (k3 : PySem.W.keepIn K (.ref f3) = true)
    (a4 : PySem.W.nsIn K mainGlobals "minus" = some (some (.ref f4)))
    (l4 : K.lookup f4 = some ⟨oc4, od4, .func (PySem.W.fnOf "minus" "minus" (defArgs sMinus) (defBody sMinus) (defScope sMinus) .none kV4 dc4 pm4 an4 cd4 ct4), sl4⟩)
    (c4 : PySem.W.codeIn K cd4 "minus" = true)
    (k4 : PySem.W.keepIn K (.ref f4) = true)
    (a5 : PySem.W.nsIn K mainGlobals "times" = some (some (.ref f5)))
    (l5 : K.lookup f5 = some ⟨oc5, od5, .func (PySem.W.fnOf "times" "times" (defArgs sTimes) (defBody sTimes) (defScope sTimes) .none kV5 dc5 pm5 an5 cd5 ct5), sl5⟩)
    (c5 : PySem.W.codeIn K cd5 "times" = true)
    (k5 : PySem.W.keepIn K (.ref f5) = true)
    (a6 : PySem.W.nsIn K mainGlobals "over" = some (some (.ref f6)))
    (l6 : K.lookup f6 = some ⟨oc6, od6, .func (PySem.W.fnOf "over" "over" (defArgs sOver) (defBody sOver) (defScope sOver) .none kV6 dc6 pm6 an6 cd6 ct6), sl6⟩)
    (c6 : PySem.W.codeIn K cd6 "over" = true)
    (k6 : PySem.W.keepIn K (.ref f6) = true)
    (a7 : PySem.W.nsIn K mainGlobals "under" = some (some (.ref f7)))
    (l7 : K.lookup f7 = some ⟨oc7, od7, .func (PySem.W.fnOf "under" "under" (defArgs sUnder) (defBody sUnder) (defScope sUnder) .none kV7 dc7 pm7 an7 cd7 ct7), sl7⟩)
    (c7 : PySem.W.codeIn K cd7 "under" = true)
    (k7 : PySem.W.keepIn K (.ref f7) = true)
    (a8 : PySem.W.nsIn K mainGlobals "sum_of" = some (some (.ref f8)))
    (l8 : K.lookup f8 = some ⟨oc8, od8, .func (PySem.W.fnOf "sum_of" "sum_of" (defArgs sSum) (defBody sSum) (defScope sSum) .none kV8 dc8 pm8 an8 cd8 ct8), sl8⟩)
    (c8 : PySem.W.codeIn K cd8 "sum_of" = true)
    (k8 : PySem.W.keepIn K (.ref f8) = true)
    (a9 : PySem.W.nsIn K mainGlobals "_law_source" = some (some (.ref f9)))
    (l9 : K.lookup f9 = some ⟨oc9, od9, .func (PySem.W.fnOf "_law_source" "_law_source" (defArgs sSource) (defBody sSource) (defScope sSource) .none kV9 dc9 pm9 an9 cd9 ct9), sl9⟩)
    (c9 : PySem.W.codeIn K cd9 "_law_source" = true)
    (k9 : PySem.W.keepIn K (.ref f9) = true)
    (a10 : PySem.W.nsIn K mainGlobals "_law_draw" = some (some (.ref f10)))
    (l10 : K.lookup f10 = some ⟨oc10, od10, .func (PySem.W.fnOf "_law_draw" "_law_draw" (defArgs sDraw) (defBody sDraw) (defScope sDraw) .none kV10 dc10 pm10 an10 cd10 ct10), sl10⟩)
    (c10 : PySem.W.codeIn K cd10 "_law_draw" = true)
    (k10 : PySem.W.keepIn K (.ref f10) = true)
    (a11 : PySem.W.nsIn K mainGlobals "_law_lowest" = some (some (.ref f11)))
    (l11 : K.lookup f11 = some ⟨oc11, od11, .func (PySem.W.fnOf "_law_lowest" "_law_lowest" (defArgs sLowest) (defBody sLowest) (defScope sLowest) .none kV11 dc11 pm11 an11 cd11 ct11), sl11⟩)
    (c11 : PySem.W.codeIn K cd11 "_law_lowest" = true)
    (k11 : PySem.W.keepIn K (.ref f11) = true)
    (a12 : PySem.W.nsIn K mainGlobals "_law_whole" = some (some (.ref f12)))
    (l12 : K.lookup f12 = some ⟨oc12, od12, .func (PySem.W.fnOf "_law_whole" "_law_whole" (defArgs sLWhole) (defBody sLWhole) (defScope sLWhole) .none kV12 dc12 pm12 an12 cd12 ct12), sl12⟩)
    (c12 : PySem.W.codeIn K cd12 "_law_whole" = true)
    (k12 : PySem.W.keepIn K (.ref f12) = true)
    (a13 : PySem.W.nsIn K mainGlobals "_law_is_fraction" = some (some (.ref f13)))
    (l13 : K.lookup f13 = some ⟨oc13, od13, .func (PySem.W.fnOf "_law_is_fraction" "_law_is_fraction" (defArgs sIsFrac) (defBody sIsFrac) (defScope sIsFrac) .none kV13 dc13 pm13 an13 cd13 ct13), sl13⟩)
    (c13 : PySem.W.codeIn K cd13 "_law_is_fraction" = true)
    (k13 : PySem.W.keepIn K (.ref f13) = true)
    (a14 : PySem.W.nsIn K mainGlobals "_law_is_refusal" = some (some (.ref f14)))
    (l14 : K.lookup f14 = some ⟨oc14, od14, .func (PySem.W.fnOf "_law_is_refusal" "_law_is_refusal" (defArgs sRefusal) (defBody sRefusal) (defScope sRefusal) .none kV14 dc14 pm14 an14 cd14 ct14), sl14⟩)
    (c14 : PySem.W.codeIn K cd14 "_law_is_refusal" = true)
    (k14 : PySem.W.keepIn K (.ref f14) = true)
    (a15 : PySem.W.nsIn K mainGlobals "_law_drawn" = some (some (.ref f15)))
    (l15 : K.lookup f15 = some ⟨oc15, od15, .func (PySem.W.fnOf "_law_drawn" "_law_drawn" (defArgs sDrawn) (defBody sDrawn) (defScope sDrawn) .none kV15 dc15 pm15 an15 cd15 ct15), sl15⟩)
    (c15 : PySem.W.codeIn K cd15 "_law_drawn" = true)
    (k15 : PySem.W.keepIn K (.ref f15) = true)
    (a16 : PySem.W.nsIn K mainGlobals "_law_worth" = some (some (.ref f16)))
    (l16 : K.lookup f16 = some ⟨oc16, od16, .func (PySem.W.fnOf "_law_worth" "_law_worth" (defArgs sWorth) (defBody sWorth) (defScope sWorth) .none kV16 dc16 pm16 an16 cd16 ct16), sl16⟩)
    (c16 : PySem.W.codeIn K cd16 "_law_worth" = true)
    (k16 : PySem.W.keepIn K (.ref f16) = true)
    (a17 : PySem.W.nsIn K mainGlobals "_law_parted" = some (some (.ref f17)))
    (l17 : K.lookup f17 = some ⟨oc17, od17, .func (PySem.W.fnOf "_law_parted" "_law_parted" (defArgs sParted) (defBody sParted) (defScope sParted) .none kV17 dc17 pm17 an17 cd17 ct17), sl17⟩)
    (c17 : PySem.W.codeIn K cd17 "_law_parted" = true)
    (k17 : PySem.W.keepIn K (.ref f17) = true)
    (a18 : PySem.W.nsIn K mainGlobals "_law_right" = some (some (.ref f18)))
    (l18 : K.lookup f18 = some ⟨oc18, od18, .func (PySem.W.fnOf "_law_right" "_law_right" (defArgs sRight) (defBody sRight) (defScope sRight) .none kV18 dc18 pm18 an18 cd18 ct18), sl18⟩)
    (c18 : PySem.W.codeIn K cd18 "_law_right" = true)
    (k18 : PySem.W.keepIn K (.ref f18) = true)
    (a19 : PySem.W.nsIn K mainGlobals "_law_sums_right" = some (some (.ref f19)))
    (l19 : K.lookup f19 = some ⟨oc19, od19, .func (PySem.W.fnOf "_law_sums_right" "_law_sums_right" (defArgs sSums) (defBody sSums) (defScope sSums) .none kV19 dc19 pm19 an19 cd19 ct19), sl19⟩)
    (c19 : PySem.W.codeIn K cd19 "_law_sums_right" = true)
    (k19 : PySem.W.keepIn K (.ref f19) = true)
    (a20 : PySem.W.nsIn K mainGlobals "law" = some (some (.ref f20)))
    (l20 : K.lookup f20 = some ⟨oc20, od20, .func (PySem.W.fnOf "law" "law" (defArgs sLaw) (defBody sLaw) (defScope sLaw) .none kV20 dc20 pm20 an20 cd20 ct20), sl20⟩)
    (c20 : PySem.W.codeIn K cd20 "law" = true)
    (k20 : PySem.W.keepIn K (.ref f20) = true)
    (aNo : PySem.W.nsIn K mainGlobals "NOUGHT" = some (some (.ref aN)))
    (lNo : K.lookup aN = some ⟨.type "tuple", odN, .seq #[.int 0 tkA, .int 1 tkB] nN, slN⟩)
    (m0 : PySem.W.nsIn K mainGlobals "DearError" = some (some (.ref C0)))
    (m1 : PySem.W.nsIn K mainGlobals "NoNumber" = some (some (.ref C1)))
    (m2 : PySem.W.nsIn K mainGlobals "BadSign" = some (some (.ref C2)))
    (m3 : PySem.W.nsIn K mainGlobals "NoBook" = some (some (.ref C3)))
    (m4 : PySem.W.nsIn K mainGlobals "NoCount" = some (some (.ref C4)))
    (m5 : PySem.W.nsIn K mainGlobals "NoRow" = some (some (.ref C5)))
    (m6 : PySem.W.nsIn K mainGlobals "NoText" = some (some (.ref C6)))
    (m7 : PySem.W.nsIn K mainGlobals "NoThing" = some (some (.ref C7)))
    (m8 : PySem.W.nsIn K mainGlobals "NoTongue" = some (some (.ref C8)))
    (m9 : PySem.W.nsIn K mainGlobals "NoTree" = some (some (.ref C9)))
    (m10 : PySem.W.nsIn K mainGlobals "NoTurn" = some (some (.ref C10)))
    (m11 : PySem.W.nsIn K mainGlobals "NoUndo" = some (some (.ref C11)))
    (m12 : PySem.W.nsIn K mainGlobals "NoWants" = some (some (.ref C12)))
    (m13 : PySem.W.nsIn K mainGlobals "TooMany" = some (some (.ref C13)))
    (m14 : PySem.W.nsIn K mainGlobals "Unknown" = some (some (.ref C14)))
    (exc : PySem.W.excIn K C1 bmV "ValueError.__new__" = true)
    (q1 : PySem.W.findIn K (.ref C1) "__getattribute__" = some (some (.builtin "BaseException.__getattribute__")))
    (q0 : PySem.W.findIn K (.ref C1) "__getattr__" = some none)
    (q2 : PySem.W.hasDictIn K C1 = true)
    (q3 : PySem.W.findIn K (.ref C1) "__class__" = some (some (.builtin "object.__class__")))
    (q4 : PySem.W.specialIn K (.builtin "object.__class__") "__get__" = some (some (.builtin "getset_descriptor.__get__")))
    (q5 : PySem.W.takesIn K (.builtin "object.__class__") = some true)
    (q6 : PySem.W.mroIn K C1 (.type "object") = some true)
    (qb : PySem.W.mroIn K C1 (.type "BaseException") = some true)
    (q7 : PySem.W.mroIn K C1 (.ref C1) = some true)
    (q8 : PySem.W.mroIn K C1 (.type "ValueError") = some true)
    (q9 : PySem.W.mroIn K C1 (.ref C0) = some true)
    (r1 : PySem.W.instIn K (.ref C0) (.type "tuple") = some false)
    (r2 : PySem.W.hasDictIn K C0 = true)
    (r3 : PySem.W.mroIn K C0 (.type "BaseException") = some true)
    (n2 : PySem.W.mroIn K C1 (.ref C2) = some false)
    (d2 : PySem.W.hasDictIn K C2 = true)
    (t2 : PySem.W.typeIn K (.ref C2) = some (.type "type"))
    (n3 : PySem.W.mroIn K C1 (.ref C3) = some false)
    (d3 : PySem.W.hasDictIn K C3 = true)
    (t3 : PySem.W.typeIn K (.ref C3) = some (.type "type"))
    (n4 : PySem.W.mroIn K C1 (.ref C4) = some false)
    (d4 : PySem.W.hasDictIn K C4 = true)
    (t4 : PySem.W.typeIn K (.ref C4) = some (.type "type"))
    (n5 : PySem.W.mroIn K C1 (.ref C5) = some false)
    (d5 : PySem.W.hasDictIn K C5 = true)
    (t5 : PySem.W.typeIn K (.ref C5) = some (.type "type"))
    (n6 : PySem.W.mroIn K C1 (.ref C6) = some false)
    (d6 : PySem.W.hasDictIn K C6 = true)
    (t6 : PySem.W.typeIn K (.ref C6) = some (.type "type"))
    (n7 : PySem.W.mroIn K C1 (.ref C7) = some false)
    (d7 : PySem.W.hasDictIn K C7 = true)
    (t7 : PySem.W.typeIn K (.ref C7) = some (.type "type"))
    (n8 : PySem.W.mroIn K C1 (.ref C8) = some false)
    (d8 : PySem.W.hasDictIn K C8 = true)
    (t8 : PySem.W.typeIn K (.ref C8) = some (.type "type"))
    (n9 : PySem.W.mroIn K C1 (.ref C9) = some false)
    (d9 : PySem.W.hasDictIn K C9 = true)
    (t9 : PySem.W.typeIn K (.ref C9) = some (.type "type"))
    (n10 : PySem.W.mroIn K C1 (.ref C10) = some false)
    (d10 : PySem.W.hasDictIn K C10 = true)
    (t10 : PySem.W.typeIn K (.ref C10) = some (.type "type"))
    (n11 : PySem.W.mroIn K C1 (.ref C11) = some false)
    (d11 : PySem.W.hasDictIn K C11 = true)
    (t11 : PySem.W.typeIn K (.ref C11) = some (.type "type"))
    (n12 : PySem.W.mroIn K C1 (.ref C12) = some false)
    (d12 : PySem.W.hasDictIn K C12 = true)
    (t12 : PySem.W.typeIn K (.ref C12) = some (.type "type"))
    (n13 : PySem.W.mroIn K C1 (.ref C13) = some false)
    (d13 : PySem.W.hasDictIn K C13 = true)
    (t13 : PySem.W.typeIn K (.ref C13) = some (.type "type"))
    (n14 : PySem.W.mroIn K C1 (.ref C14) = some false)
    (d14 : PySem.W.hasDictIn K C14 = true)
    (t14 : PySem.W.typeIn K (.ref C14) = some (.type "type"))
    (z_isi : PySem.W.nsIn K mainGlobals "isinstance" = some none)
    (z_int : PySem.W.nsIn K mainGlobals "int" = some none)
    (z_bool : PySem.W.nsIn K mainGlobals "bool" = some none)
    (z_tuple : PySem.W.nsIn K mainGlobals "tuple" = some none)
    (z_abs : PySem.W.nsIn K mainGlobals "abs" = some none)
    (z_len : PySem.W.nsIn K mainGlobals "len" = some none)
    (z_enum : PySem.W.nsIn K mainGlobals "enumerate" = some none)
    (z_ve : PySem.W.nsIn K mainGlobals "ValueError" = some none)
    (z_list : PySem.W.nsIn K mainGlobals "list" = some none) :
    ∃ fd : FuncData, (∀ (s : Shared) (v : Value), BindsTo s fd ⟨[v], []⟩ [("_law_script", v)]) ∧ ∀ base : Heap, K.In base → base.Ns mainGlobals mg → FnOk l.prog w K mg base (CXE l.prog w) 6 fa fd ["_law_script"] (spLaw K) := by
  have e := hfa.symm.trans (PySem.W.mg_of X G a20)
  cases e
  have B : Bl mg := ⟨PySem.W.mg_none_of X G z_isi, PySem.W.mg_none_of X G z_int, PySem.W.mg_none_of X G z_bool, PySem.W.mg_none_of X G z_tuple, PySem.W.mg_none_of X G z_abs, PySem.W.mg_none_of X G z_len, PySem.W.mg_none_of X G z_enum, PySem.W.mg_none_of X G z_ve, PySem.W.mg_none_of X G z_list⟩
  have cl : ∀ {D : Addr}, PySem.W.hasDictIn K D = true → (PySem.W.clsIn K D).isSome = true := fun q => by
    obtain ⟨cd, z, _⟩ := PySem.W.any_some q
    rw [z]; rfl
  have C : Cl K mg [C0, C1, C2, C3, C4, C5, C6, C7, C8, C9, C10, C11, C12, C13, C14] := by
    refine ⟨rfl, PySem.W.mg_of X G m0, PySem.W.mg_of X G m1, PySem.W.mg_of X G m2, PySem.W.mg_of X G m3, PySem.W.mg_of X G m4, PySem.W.mg_of X G m5, PySem.W.mg_of X G m6, PySem.W.mg_of X G m7, PySem.W.mg_of X G m8, PySem.W.mg_of X G m9, PySem.W.mg_of X G m10, PySem.W.mg_of X G m11, PySem.W.mg_of X G m12, PySem.W.mg_of X G m13, PySem.W.mg_of X G m14, exc, ⟨q1, q0, q2, q3, q4, q5, q6, qb⟩, q7, q8, q9, ⟨r1, cl r2, r3⟩, fun i h1 h2 => ?_⟩
    have i13 : i = 2 ∨ i = 3 ∨ i = 4 ∨ i = 5 ∨ i = 6 ∨ i = 7 ∨ i = 8 ∨ i = 9 ∨ i = 10 ∨ i = 11 ∨ i = 12 ∨ i = 13 ∨ i = 14 := by omega
    rcases i13 with rfl | rfl | rfl | rfl | rfl | rfl | rfl | rfl | rfl | rfl | rfl | rfl | rfl
    · exact ⟨n2, d2, t2⟩
    · exact ⟨n3, d3, t3⟩
    · exact ⟨n4, d4, t4⟩
    · exact ⟨n5, d5, t5⟩
    · exact ⟨n6, d6, t6⟩
    · exact ⟨n7, d7, t7⟩
    · exact ⟨n8, d8, t8⟩
    · exact ⟨n9, d9, t9⟩
    · exact ⟨n10, d10, t10⟩
    · exact ⟨n11, d11, t11⟩
    · exact ⟨n12, d12, t12⟩
    · exact ⟨n13, d13, t13⟩
    · exact ⟨n14, d14, t14⟩
  have F0 := fung_mk (st := sWhole) l0 c0 k0
  have F1 := fung_mk (st := sGcd) l1 c1 k1
  have F2 := fung_mk (st := sFrac) l2 c2 k2
  have F3 := fung_mk (st := sPlus) l3 c3 k3
  have F4 := fung_mk (st := sMinus) l4 c4 k4
  have F5 := fung_mk (st := sTimes) l5 c5 k5
  have F6 := fung_mk (st := sOver) l6 c6 k6
  have F7 := fung_mk (st := sUnder) l7 c7 k7
  have F8 := fung_mk (st := sSum) l8 c8 k8
  have F9 := fung_mk (st := sSource) l9 c9 k9
  have F10 := fung_mk (st := sDraw) l10 c10 k10
  have F11 := fung_mk (st := sLowest) l11 c11 k11
  have F12 := fung_mk (st := sLWhole) l12 c12 k12
  have F13 := fung_mk (st := sIsFrac) l13 c13 k13
  have F14 := fung_mk (st := sRefusal) l14 c14 k14
  have F15 := fung_mk (st := sDrawn) l15 c15 k15
  have F16 := fung_mk (st := sWorth) l16 c16 k16
  have F17 := fung_mk (st := sParted) l17 c17 k17
  have F18 := fung_mk (st := sRight) l18 c18 k18
  have F19 := fung_mk (st := sSums) l19 c19 k19
  have F20 := fung_mk (st := sLaw) l20 c20 k20
  have b0 := F0.binds (ps := ["thing"]) fun _ _ _ _ _ _ us hl => match us, hl with | [_], _ => rfl
  have b1 := F1.binds (ps := ["one", "other"]) fun _ _ _ _ _ _ us hl => match us, hl with | [_, _], _ => rfl
  have bF2 : Binds K (PySem.W.fnOf "fraction" "fraction" (defArgs sFrac) (defBody sFrac) (defScope sFrac) (.ref dT) kV2 dc2 pm2 an2 cd2 ct2) ["top", "bottom"] [] := fun s us KX hl => by
    match us, hl with
    | [u, v], _ => exact PySem.W.binds_K KX rfl lT rfl rfl rfl
  have b3 := F3.binds (ps := ["one", "other"]) fun _ _ _ _ _ _ us hl => match us, hl with | [_, _], _ => rfl
  have b4 := F4.binds (ps := ["one", "other"]) fun _ _ _ _ _ _ us hl => match us, hl with | [_, _], _ => rfl
  have b5 := F5.binds (ps := ["one", "other"]) fun _ _ _ _ _ _ us hl => match us, hl with | [_, _], _ => rfl
  have b6 := F6.binds (ps := ["one", "other"]) fun _ _ _ _ _ _ us hl => match us, hl with | [_, _], _ => rfl
  have b7 := F7.binds (ps := ["one", "other"]) fun _ _ _ _ _ _ us hl => match us, hl with | [_, _], _ => rfl
  have b8 := F8.binds (ps := ["some"]) fun _ _ _ _ _ _ us hl => match us, hl with | [_], _ => rfl
  have b9 := F9.binds (ps := ["_law_cell_here", "_law_k"]) fun _ _ _ _ _ _ us hl => match us, hl with | [_, _], _ => rfl
  have b10 := F10.binds (ps := ["_law_source_here", "_law_many"]) fun _ _ _ _ _ _ us hl => match us, hl with | [_, _], _ => rfl
  have b11 := F11.binds (ps := ["_law_top", "_law_bottom"]) fun _ _ _ _ _ _ us hl => match us, hl with | [_, _], _ => rfl
  have b12 := F12.binds (ps := ["_law_found"]) fun _ _ _ _ _ _ us hl => match us, hl with | [_], _ => rfl
  have b13 := F13.binds (ps := ["_law_found"]) fun _ _ _ _ _ _ us hl => match us, hl with | [_], _ => rfl
  have b14 := F14.binds (ps := ["_law_kept"]) fun _ _ _ _ _ _ us hl => match us, hl with | [_], _ => rfl
  have b15 := F15.binds (ps := ["_law_source_here"]) fun _ _ _ _ _ _ us hl => match us, hl with | [_], _ => rfl
  have b16 := F16.binds (ps := ["_law_found", "_law_top", "_law_bottom"]) fun _ _ _ _ _ _ us hl => match us, hl with | [_, _, _], _ => rfl
  have b17 := F17.binds (ps := ["_law_one", "_law_other"]) fun _ _ _ _ _ _ us hl => match us, hl with | [_, _], _ => rfl
  have b18 := F18.binds (ps := ["_law_one", "_law_other"]) fun _ _ _ _ _ _ us hl => match us, hl with | [_, _], _ => rfl
  have b19 := F19.binds (ps := ["_law_some"]) fun _ _ _ _ _ _ us hl => match us, hl with | [_], _ => rfl
  have sO : ∀ H, SqT K H aN [.int 0, .int 1] := fun H => .inr ⟨_, _, _, lNo, rfl, rfl, by show 2 ≤ sizeLine; decide, .cons ⟨_, rfl⟩ (.cons ⟨_, rfl⟩ .nil)⟩
  have mO := PySem.W.mg_of X G aNo
  refine ⟨PySem.W.fnOf "law" "law" (defArgs sLaw) (defBody sLaw) (defScope sLaw) .none kV20 dc20 pm20 an20 cd20 ct20, fun s v => .of_eq rfl, fun base _ _ => ?_⟩
  have GW := ok_lwhole (P := l.prog) (w := w) (mg := mg) (base := base) F12 B
  have GL := ok_low (P := l.prog) (w := w) (mg := mg) (base := base) F11 B
  have GI := ok_isFrac (P := l.prog) (w := w) (mg := mg) (base := base) F13 B GW (PySem.W.mg_of X G a12) k12 b12 GL (PySem.W.mg_of X G a11) k11 b11
  have GR := ok_refusal (P := l.prog) (w := w) (mg := mg) (base := base) F14 B C
  have GF := ok_frac (P := l.prog) (w := w) (mg := mg) (base := base) F2 B F0 (PySem.W.mg_of X G a0) b0 F1 (PySem.W.mg_of X G a1) b1 (PySem.W.mg_of X G m1) exc
  have GP := ok_plus (P := l.prog) (w := w) (mg := mg) (base := base) F3 GF (PySem.W.mg_of X G a2) k2 bF2
  have GMi := ok_minus (P := l.prog) (w := w) (mg := mg) (base := base) F4 GF (PySem.W.mg_of X G a2) k2 bF2
  have GTi := ok_times (P := l.prog) (w := w) (mg := mg) (base := base) F5 GF (PySem.W.mg_of X G a2) k2 bF2
  have GOv := ok_over (P := l.prog) (w := w) (mg := mg) (base := base) F6 GF (PySem.W.mg_of X G a2) k2 bF2 mO sO (PySem.W.mg_of X G m1) exc
  have GUn := ok_under (P := l.prog) (w := w) (mg := mg) (base := base) F7
  have GSu := ok_sum (P := l.prog) (w := w) (mg := mg) (base := base) F8 GP (PySem.W.mg_of X G a3) k3 b3 mO sO
  have GS := ok_source (P := l.prog) (w := w) (mg := mg) (base := base) F9 B
  have GD := ok_draw (P := l.prog) (w := w) (mg := mg) (base := base) F10
  have GDr := ok_drawn (P := l.prog) (w := w) (mg := mg) (base := base) F15 GD (PySem.W.mg_of X G a10) k10 b10 GL (PySem.W.mg_of X G a11) k11 b11
  have GWo := ok_worth (P := l.prog) (w := w) (mg := mg) (base := base) F16 GI (PySem.W.mg_of X G a13) k13 b13
  have GPa := ok_parted (P := l.prog) (w := w) (mg := mg) (base := base) F17 C GOv (PySem.W.mg_of X G a6) k6 b6 GR (PySem.W.mg_of X G a14) k14 b14 GWo (PySem.W.mg_of X G a16) k16 b16
  have GRi := ok_right (P := l.prog) (w := w) (mg := mg) (base := base) F18 B GP (PySem.W.mg_of X G a3) k3 b3 GMi (PySem.W.mg_of X G a4) k4 b4 GTi (PySem.W.mg_of X G a5) k5 b5 GUn (PySem.W.mg_of X G a7) k7 b7 GPa (PySem.W.mg_of X G a17) k17 b17 GWo (PySem.W.mg_of X G a16) k16 b16
  have GSr := ok_sums (P := l.prog) (w := w) (mg := mg) (base := base) F19 B GSu (PySem.W.mg_of X G a8) k8 b8 GI (PySem.W.mg_of X G a13) k13 b13 GL (PySem.W.mg_of X G a11) k11 b11
  exact ok_law F20 B GS (PySem.W.mg_of X G a9) k9 b9 GD (PySem.W.mg_of X G a10) k10 b10 GDr (PySem.W.mg_of X G a15) k15 b15 GL (PySem.W.mg_of X G a11) k11 b11 GRi (PySem.W.mg_of X G a18) k18 b18 GSr (PySem.W.mg_of X G a19) k19 b19
theorem walk {l : PySem.W.OpenLaw} {q : Program} {loose : List Str} {XP : (Str → Option Value) → Heap → Prop} {YP : World → Heap → Prop} {d : DefRec} {K : Params → PySem.W.Frag} (hn : l.most = some 63) (hdf : d.params.defaults = [])
    (hY : ∀ (w : World) (h : Heap), YP w h → (K w.params).In h)
    (F : ∀ (w : World) (mg : Str → Option Value) (fa : Addr) (h : Heap), (K w.params).In h → h.Ns mainGlobals mg → mg d.name = some (.ref fa) →
      ∃ fd : FuncData, (∀ (s : Shared) (u : Value), BindsTo s fd ⟨[u], []⟩ [("_law_script", u)]) ∧ ∀ base : Heap, (K w.params).In base → base.Ns mainGlobals mg → FnOk l.prog w (K w.params) mg base (CXE l.prog w) 6 fa fd ["_law_script"] (spLaw (K w.params))) :
    PySem.W.WalkO q loose XP YP l.row.toRowW d [] (fun f vs => PySem.call f vs) :=
  L2.walk_of (n := 63) (k := 6) (x := "_law_script") (CX := fun w => CXE l.prog w) (sp := fun w => spLaw (K w.params)) hn (by decide) hdf ⟨rfl, by decide, by decide⟩ hY F (fun _ _ a ns hl _ hS => ⟨a, ns, rfl, hS, hl, fun _ => rfl⟩) fun _ _ _ _ _ z => by
    obtain ⟨_, _, _, _, _, _, _, _, _, _, _, _, z⟩ := z
    exact z
end G1
open PySem PySem.W PyProof.Rows
set_option maxRecDepth 100000 in
set_option maxHeartbeats 0 in
theorem PySem.Challenge.cw_dearsigns_k02_fractions_reckoned_holds : PySem.Challenge.rw_dearsigns_k02_fractions_reckoned.Holds := by
  w_on; o_law; k_head; (case hw => w_witness2)
  k_fill
  refine G1.walk (l := PySem.Challenge.rw_dearsigns_k02_fractions_reckoned) rfl rfl (fun w h Y => PySem.W.kIn_of Y) ?F
  case F =>
    intro w mg fa h KX G hmg
    refine' G1.all_mk KX G hmg ?a0 ?l0 ?c0 ?k0 ?a1 ?l1 ?c1 ?k1 ?a2 ?l2 ?c2 ?k2 ?lT ?a3 ?l3 ?c3 ?k3 ?a4 ?l4 ?c4 ?k4 ?a5 ?l5 ?c5 ?k5 ?a6 ?l6 ?c6 ?k6 ?a7 ?l7 ?c7 ?k7 ?a8 ?l8 ?c8 ?k8 ?a9 ?l9 ?c9 ?k9 ?a10 ?l10 ?c10 ?k10 ?a11 ?l11 ?c11 ?k11 ?a12 ?l12 ?c12 ?k12 ?a13 ?l13 ?c13 ?k13 ?a14 ?l14 ?c14 ?k14 ?a15 ?l15 ?c15 ?k15 ?a16 ?l16 ?c16 ?k16 ?a17 ?l17 ?c17 ?k17 ?a18 ?l18 ?c18 ?k18 ?a19 ?l19 ?c19 ?k19 ?a20 ?l20 ?c20 ?k20 ?aNo ?lNo ?m0 ?m1 ?m2 ?m3 ?m4 ?m5 ?m6 ?m7 ?m8 ?m9 ?m10 ?m11 ?m12 ?m13 ?m14 ?exc ?q1 ?q0 ?q2 ?q3 ?q4 ?q5 ?q6 ?qb ?q7 ?q8 ?q9 ?r1 ?r2 ?r3 ?n2 ?d2 ?t2 ?n3 ?d3 ?t3 ?n4 ?d4 ?t4 ?n5 ?d5 ?t5 ?n6 ?d6 ?t6 ?n7 ?d7 ?t7 ?n8 ?d8 ?t8 ?n9 ?d9 ?t9 ?n10 ?d10 ?t10 ?n11 ?d11 ?t11 ?n12 ?d12 ?t12 ?n13 ?d13 ?t13 ?n14 ?d14 ?t14 ?z_isi ?z_int ?z_bool ?z_tuple ?z_abs ?z_len ?z_enum ?z_ve ?z_list
    (case a0 => k_is)
    (case l0 => k_is)
    (case c0 => k_is)
    (case k0 => k_is)
    (case a1 => k_is)
    (case l1 => k_is)
    (case c1 => k_is)
    (case k1 => k_is)
    (case a2 => k_is)
    (case l2 => k_is)
    (case c2 => k_is)
    (case k2 => k_is)
    (case lT => k_is)
    (case a3 => k_is)
    (case l3 => k_is)
    (case c3 => k_is)
    (case k3 => k_is)
    (case a4 => k_is)
    (case l4 => k_is)
    (case c4 => k_is)
    (case k4 => k_is)
    (case a5 => k_is)
    (case l5 => k_is)
    (case c5 => k_is)
    (case k5 => k_is)
    (case a6 => k_is)
    (case l6 => k_is)
    (case c6 => k_is)
    (case k6 => k_is)
    (case a7 => k_is)
    (case l7 => k_is)
    (case c7 => k_is)
    (case k7 => k_is)
    (case a8 => k_is)
    (case l8 => k_is)
    (case c8 => k_is)
    (case k8 => k_is)
    (case a9 => k_is)
    (case l9 => k_is)
    (case c9 => k_is)
    (case k9 => k_is)
    (case a10 => k_is)
    (case l10 => k_is)
    (case c10 => k_is)
    (case k10 => k_is)
    (case a11 => k_is)
    (case l11 => k_is)
    (case c11 => k_is)
    (case k11 => k_is)
    (case a12 => k_is)
    (case l12 => k_is)
    (case c12 => k_is)
    (case k12 => k_is)
    (case a13 => k_is)
    (case l13 => k_is)
    (case c13 => k_is)
    (case k13 => k_is)
    (case a14 => k_is)
    (case l14 => k_is)
    (case c14 => k_is)
    (case k14 => k_is)
    (case a15 => k_is)
    (case l15 => k_is)
    (case c15 => k_is)
    (case k15 => k_is)
    (case a16 => k_is)
    (case l16 => k_is)
    (case c16 => k_is)
    (case k16 => k_is)
    (case a17 => k_is)
    (case l17 => k_is)
    (case c17 => k_is)
    (case k17 => k_is)
    (case a18 => k_is)
    (case l18 => k_is)
    (case c18 => k_is)
    (case k18 => k_is)
    (case a19 => k_is)
    (case l19 => k_is)
    (case c19 => k_is)
    (case k19 => k_is)
    (case a20 => k_is)
    (case l20 => k_is)
    (case c20 => k_is)
    (case k20 => k_is)
    (case aNo => k_is)
    (case lNo => k_is)
    (case m0 => k_is)
    (case m1 => k_is)
    (case m2 => k_is)
    (case m3 => k_is)
    (case m4 => k_is)
    (case m5 => k_is)
    (case m6 => k_is)
    (case m7 => k_is)
    (case m8 => k_is)
    (case m9 => k_is)
    (case m10 => k_is)
    (case m11 => k_is)
    (case m12 => k_is)
    (case m13 => k_is)
    (case m14 => k_is)
    (case exc => k_exc)
    (case q1 => k_is)
    (case q0 => k_is)
    (case q2 => k_is)
    (case q3 => k_is)
    (case q4 => k_is)
    (case q5 => k_is)
    (case q6 => k_is)
    (case qb => k_is)
    (case q7 => k_is)
    (case q8 => k_is)
    (case q9 => k_is)
    (case r1 => k_is)
    (case r2 => k_is)
    (case r3 => k_is)
    (case n2 => k_is)
    (case d2 => k_is)
    (case t2 => k_is)
    (case n3 => k_is)
    (case d3 => k_is)
    (case t3 => k_is)
    (case n4 => k_is)
    (case d4 => k_is)
    (case t4 => k_is)
    (case n5 => k_is)
    (case d5 => k_is)
    (case t5 => k_is)
    (case n6 => k_is)
    (case d6 => k_is)
    (case t6 => k_is)
    (case n7 => k_is)
    (case d7 => k_is)
    (case t7 => k_is)
    (case n8 => k_is)
    (case d8 => k_is)
    (case t8 => k_is)
    (case n9 => k_is)
    (case d9 => k_is)
    (case t9 => k_is)
    (case n10 => k_is)
    (case d10 => k_is)
    (case t10 => k_is)
    (case n11 => k_is)
    (case d11 => k_is)
    (case t11 => k_is)
    (case n12 => k_is)
    (case d12 => k_is)
    (case t12 => k_is)
    (case n13 => k_is)
    (case d13 => k_is)
    (case t13 => k_is)
    (case n14 => k_is)
    (case d14 => k_is)
    (case t14 => k_is)
    (case z_isi => k_is)
    (case z_int => k_is)
    (case z_bool => k_is)
    (case z_tuple => k_is)
    (case z_abs => k_is)
    (case z_len => k_is)
    (case z_enum => k_is)
    (case z_ve => k_is)
    (case z_list => k_is)
