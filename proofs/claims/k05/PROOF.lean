import PyProof.Rows.All
import Wide.All
import OpenK.AllK
import Wide.FinOn
import Lean
import PyProof.EqAt
import PyProof.EqKinds
import PyProof.TupleCall
import PySem.Challenge.RW_namepaths_k05_judges
set_option Elab.async false
set_option linter.all false
set_option maxRecDepth 100000
set_option maxHeartbeats 1000000
set_option Elab.async false
set_option linter.all false
set_option maxRecDepth 100000
/-! THE HAND LAYER, for ints, bools, texts, own classes, LISTS and tuples (index, slices, in, append, pop ..), calls, loops. Paste it whole ahead of your own text; what your proof does not reach may be deleted. -/
namespace L2
open PySem PySem.Spec PyProof.Rows

/-- a key: an int or a str -/
abbrev Key := Sum Int Str
def keyIs : Key → Value → Bool
  | .inl k, v => Value.isInt k v
  | .inr x, v => Value.isStrOf x v
def keyH (w : World) : Key → Int
  | .inl k => hashInt k
  | .inr x => hashStr w x
theorem keyIs_shape : ∀ {k : Key} {v : Value}, keyIs k v = true → (∃ i t, k = Sum.inl i ∧ v = Value.int i t) ∨ (∃ x t, k = Sum.inr x ∧ v = Value.str x t)
  | .inl i, v, h => by
    obtain ⟨t, e⟩ := Value.isInt_shape (k := i) (v := v) h
    exact .inl ⟨i, t, rfl, e⟩
  | .inr x, v, h => by
    obtain ⟨t, e⟩ := Value.isStrOf_shape (x := x) (v := v) h
    exact .inr ⟨x, t, rfl, e⟩
theorem keyIs_int (i : Int) (t : Tok) : keyIs (.inl i) (.int i t) = true := by simp [keyIs, Value.isInt]
theorem keyIs_str (x : Str) (t : Tok) : keyIs (.inr x) (.str x t) = true := by simp [keyIs, Value.isStrOf]
theorem key_ll (a b : Int) : decide ((Sum.inl a : Key) = Sum.inl b) = (a == b) := by
  by_cases e : a = b
  · subst e; simp
  · have h : ¬ (Sum.inl a : Key) = Sum.inl b := fun q => e (Sum.inl.inj q)
    rw [decide_eq_false h]
    exact (beq_eq_false_iff_ne.mpr e).symm
theorem key_rr (a b : Str) : decide ((Sum.inr a : Key) = Sum.inr b) = decide (a = b) := by
  by_cases e : a = b
  · subst e; simp
  · have h : ¬ (Sum.inr a : Key) = Sum.inr b := fun q => e (Sum.inr.inj q)
    rw [decide_eq_false h, decide_eq_false e]
theorem key_lr (a : Int) (b : Str) : decide ((Sum.inl a : Key) = Sum.inr b) = false := decide_eq_false (fun q => nomatch q)
theorem key_rl (a : Str) (b : Int) : decide ((Sum.inr a : Key) = Sum.inl b) = false := decide_eq_false (fun q => nomatch q)

def mixKind (prog : Program) (w : World) : PySem.KeyKind prog w Key where
  is := keyIs
  hash := keyH w
  inj := fun v a b ha hb => by
    rcases keyIs_shape ha with ⟨i, t, rfl, rfl⟩ | ⟨x, t, rfl, rfl⟩
    · rcases keyIs_shape hb with ⟨j, u, rfl, e⟩ | ⟨y, u, rfl, e⟩
      · injection e with e1 _; rw [e1]
      · exact nomatch e
    · rcases keyIs_shape hb with ⟨j, u, rfl, e⟩ | ⟨y, u, rfl, e⟩
      · exact nomatch e
      · injection e with e1 _; rw [e1]
  byValue := fun k v h => by
    rcases keyIs_shape h with ⟨i, t, rfl, rfl⟩ | ⟨x, t, rfl, rfl⟩ <;> rfl
  pyHash := fun hv h => by
    rcases keyIs_shape hv with ⟨i, t, rfl, rfl⟩ | ⟨x, t, rfl, rfl⟩
    · exact wpAny_pyHash_int h
    · exact wpAny_pyHash_str h
  eqBool := fun hu hv h => by
    rcases keyIs_shape hu with ⟨i, t, rfl, rfl⟩ | ⟨x, t, rfl, rfl⟩
    · rcases keyIs_shape hv with ⟨j, u, rfl, rfl⟩ | ⟨y, u, rfl, rfl⟩
      · rw [key_ll] at h; exact wpAny_eqBool_int h
      · rw [key_lr] at h; exact SeqAt.EqAt.int_str i t y u _ _ _ _ h
    · rcases keyIs_shape hv with ⟨j, u, rfl, rfl⟩ | ⟨y, u, rfl, rfl⟩
      · rw [key_rl] at h; exact SeqAt.EqAt.str_int x t j u _ _ _ _ h
      · rw [key_rr] at h; exact wpAny_eqBool_str h
  «strs» := fun k x t v h => by
    rcases keyIs_shape h with ⟨i, u, rfl, e⟩ | ⟨y, u, rfl, e⟩
    · exact nomatch e
    · injection e with e1 _
      subst e1
      cases v <;> rfl

theorem mixKind_int (prog : Program) (w : World) (i : Int) (t : Tok) : (mixKind prog w).is (.inl i) (.int i t) = true := keyIs_int i t
theorem mixKind_str (prog : Program) (w : World) (x : Str) (t : Tok) : (mixKind prog w).is (.inr x) (.str x t) = true := keyIs_str x t
end L2

namespace L2
open PySem PySem.Spec PyProof.Rows

/-- a value, without the heap -/
inductive V where
  | non | bl (b : Bool) | int (i : Int) | str (x : Str) | byt (b : Array UInt8) | flt (b : UInt64) | ref (a : Addr) | ty (n : String)
  deriving DecidableEq

def RelV : V → Value → Prop
  | .non, u => u = Value.none
  | .bl b, u => u = Value.bool b
  | .int i, u => ∃ t, u = Value.int i t
  | .str x, u => ∃ t, u = Value.str x t
  | .byt b, u => ∃ t, u = Value.bytes b t
  | .flt b, u => ∃ t, u = Value.float b t
  | .ref a, u => u = Value.ref a
  | .ty n, u => u = Value.type n

abbrev Vals : List V → List Value → Prop := Paired RelV
theorem Vals.length {xs : List V} {us : List Value} (r : Vals xs us) : xs.length = us.length := Paired.length r
theorem Vals.get : ∀ {xs : List V} {us : List Value} {i : Nat} {x : V}, Vals xs us → xs[i]? = some x → ∃ u, us[i]? = some u ∧ RelV x u
  | _, _, _, _, .nil, e => by simp at e
  | _, _, 0, _, .cons r _, e => by simp at e; subst e; exact ⟨_, rfl, r⟩
  | _, _, i + 1, x, .cons _ t, e => by
    obtain ⟨u, h1, h2⟩ := Vals.get (i := i) (x := x) t (by simpa using e)
    exact ⟨u, by simpa using h1, h2⟩
theorem Vals.set {x : V} {u : Value} (r : RelV x u) : ∀ {xs : List V} {us : List Value} (i : Nat), Vals xs us → Vals (xs.set i x) (us.set i u)
  | _, _, _, .nil => .nil
  | _, _, 0, .cons _ t => .cons r t
  | _, _, i + 1, .cons q t => .cons q (Vals.set r i t)
theorem Vals.append : ∀ {xs ys : List V} {us ws : List Value}, Vals xs us → Vals ys ws → Vals (xs ++ ys) (us ++ ws)
  | _, _, _, _, .nil, s => s
  | _, _, _, _, .cons r t, s => .cons r (Vals.append t s)
theorem Vals.take : ∀ {xs : List V} {us : List Value} (n : Nat), Vals xs us → Vals (xs.take n) (us.take n)
  | _, _, 0, _ => .nil
  | _, _, _ + 1, .nil => .nil
  | _, _, n + 1, .cons r t => .cons r (Vals.take n t)
theorem Vals.drop : ∀ {xs : List V} {us : List Value} (n : Nat), Vals xs us → Vals (xs.drop n) (us.drop n)
  | _, _, 0, r => r
  | _, _, _ + 1, .nil => .nil
  | _, _, n + 1, .cons _ t => Vals.drop n t

def RelO : Option V → Option Value → Prop
  | some v, some u => RelV v u
  | none, none => True
  | _, _ => False
def KV {κ : Type} : List (κ × V) → List (κ × Value) → Prop := Paired fun (p : κ × V) (q : κ × Value) => p.1 = q.1 ∧ RelV p.2 q.2

/-- a key of a dict (00_mix): an int or a text -/
def kV : Key → V
  | .inl i => .int i
  | .inr x => .str x

/-- what stands at a tracked address -/
inductive HO where
  /-- a list -/
  | lst (xs : List V)
  /-- a tuple (never changes) -/
  | tup (xs : List V)
  /-- a dict whose keys are ints and texts; one whose keys are tuples of ints and texts (the empty one is both) -/
  | dK (kvs : List (Key × V)) | dT (kvs : List (List Key × V))
  /-- a set of ints: its members, its size -/
  | set (S : Int → Bool) (n : Nat)
  /-- an instance of the class at C, its dict at dx, its attributes -/
  | ins (C dx : Addr) (fs : List (Str × V))
  /-- the dict of the instance at x -/
  | own (x : Addr)
  /-- the dict of an exception -/
  | xd (fs : List (Str × V))
  /-- a bound method, f of x -/
  | met (f x : Addr)
  /-- a range object lo, lo + 1, .. below hi -/
  | rng (lo hi : Int)
  /-- a thing that is known to the object (the script; a dict while a loop walks it): read, never written while it is so -/
  | frz (o : Obj) (u : HO)
  /-- a code object's table -/
  | tbl (ps : Array Value)
  /-- any other thing, by what is true of its one object (a def of one's own: SetO a S n := HO.ext fun h => ..) -/
  | ext (φ : Heap → Prop)

abbrev Hp := Addr → Option HO
def upd (H : Hp) (a : Addr) (o : HO) : Hp := fun b => if b = a then some o else H b
theorem upd_same {H : Hp} {a : Addr} {o : HO} : upd H a o a = some o := by unfold upd; rw [if_pos rfl]
theorem upd_ne {H : Hp} {a b : Addr} {o : HO} (h : b ≠ a) : upd H a o b = H b := by unfold upd; rw [if_neg h]
theorem upd_upd {H : Hp} {a : Addr} {o u : HO} : upd (upd H a o) a u = upd H a u := by
  funext b; unfold upd; split <;> rfl
/-- two objects of different content stand apart -/
theorem ne_of {H : Hp} {a b : Addr} {o u : HO} (h : H a = some o) (h' : H b = some u) (d : o ≠ u) : a ≠ b := by
  intro e; subst e; rw [h] at h'; exact d (Option.some.inj h')
theorem ne_of_none {H : Hp} {a b : Addr} {o : HO} (h : H a = some o) (h' : H b = none) : a ≠ b := by
  intro e; subst e; rw [h] at h'; cases h'

section
variable (P : Program) (w : World)
def ObjOk (H : Hp) (h : Heap) (a : Addr) : HO → Prop
  | .lst xs => xs.length ≤ sizeLine ∧ ∃ (its : List Value) (n : Nat), Vals xs its ∧ h.get? a = some { cls := .type "list", data := .seq its.toArray n }
  | .tup xs => xs.length ≤ sizeLine ∧ ∃ its : List Value, Vals xs its ∧ IsTup h a its.toArray
  | .dK kvs => kvs.length ≤ sizeLine ∧ (a == sysModules) = false ∧ ∃ vs, KV kvs vs ∧ h.DictOf (mixKind P w) a vs
  | .dT kvs => kvs.length ≤ sizeLine ∧ (a == sysModules) = false ∧ ∃ xs : List (List Key × Addr × Value),
      Paired (fun (p : List Key × V) (q : List Key × Addr × Value) => p.1 = q.1 ∧ H q.2.1 = some (.tup (p.1.map kV)) ∧ RelV p.2 q.2.2) kvs xs ∧
      ∃ o es ep, h.get? a = some o ∧ o.ExactDict ∧ o.data = .dict es ep ∧ es.toList = xs.map (entryOfKey (tupleKind (mixKind P w))) ∧ (xs.map (·.1)).Nodup
  | .set S n => h.SetOf (intKind P w) a S n
  | .ins C dx fs => H dx = some (.own a) ∧ fs.length ≤ 1000 ∧ dx ≠ a ∧ h.get? a = some (PySem.W.instObj C dx) ∧
      ∃ mA, h.Ns1 dx mA ∧ (∀ f, RelO (fs.lookup f) (mA f)) ∧ PySem.Within mA (fs.map (·.1))
  | .own _ => ∃ o, h.get? a = some o
  | .xd fs => ∃ mA, h.Ns1 a mA ∧ ∀ f, RelO (fs.lookup f) (mA f)
  | .rng lo hi => ∃ t u v, h.get? a = some { cls := .type "range", data := .fields #[.int lo t, .int hi u, .int 1 v] }
  | .frz o u => h.get? a = some o ∧ ObjOk H h a u
  | .tbl ps => h.get? a = some { cls := .none, data := .fields ps }
  | .met f x => h.get? a = some (PySem.W.methodObj (.ref f) (.ref x))
  | .ext φ => φ h ∧ (∃ o, h.get? a = some o) ∧ ∀ h1 h2 : Heap, φ h1 → (∀ o, h1.get? a = some o → h2.get? a = some o) → φ h2
/-- the abstract heap is held -/
def HOk (H : Hp) (h : Heap) : Prop := ∀ a o, H a = some o → ObjOk P w H h a o
end

section
variable {P : Program} {w : World} {H H' : Hp} {h h' : Heap} {a : Addr} {o : HO}
theorem ObjOk.lt (x : ObjOk P w H h a o) : a < h.objs.size := by
  cases o with
  | lst xs => obtain ⟨_, _, _, _, e⟩ := x; exact Heap.lt_size e
  | tup xs => obtain ⟨_, _, _, p⟩ := x; exact p.lt
  | dK kvs => obtain ⟨_, _, _, _, o, _, _, e, _⟩ := x; exact Heap.lt_size e
  | dT kvs => obtain ⟨_, _, _, _, o, _, _, e, _⟩ := x; exact Heap.lt_size e
  | set S n => obtain ⟨o, _, _, _, e, _⟩ := x; exact Heap.lt_size e
  | ins C dx fs => obtain ⟨_, _, _, e, _⟩ := x; exact Heap.lt_size e
  | own y => obtain ⟨_, e⟩ := x; exact Heap.lt_size e
  | xd fs => obtain ⟨_, ⟨_, _, _, e, _⟩, _⟩ := x; exact Heap.lt_size e
  | rng lo hi => obtain ⟨_, _, _, e⟩ := x; exact Heap.lt_size e
  | frz ob u => obtain ⟨e, _⟩ := x; exact Heap.lt_size e
  | tbl ps => exact Heap.lt_size (show h.get? a = some _ from x)
  | met f y => exact Heap.lt_size (show h.get? a = some _ from x)
  | ext φ => obtain ⟨_, ⟨_, e⟩, _⟩ := x; exact Heap.lt_size e
theorem Paired.mapP {α β : Type} {F G : α → β → Prop} : ∀ {l₁ : List α} {l₂ : List β}, Paired F l₁ l₂ → (∀ a b, F a b → G a b) → Paired G l₁ l₂
  | _, _, .nil, _ => .nil
  | _, _, .cons r t, f => .cons (f _ _ r) (Paired.mapP t f)
/-- what an object's description leans on: its own object, its own dict, the tuples -/
theorem ObjOk.stay (x : ObjOk P w H h a o) (k : ∀ b u, (b = a ∨ H b = some (.own a)) → h.get? b = some u → h'.get? b = some u)
    (ho : ∀ b, H b = some (.own a) → H' b = some (.own a)) (ht : ∀ b xs, H b = some (.tup xs) → H' b = some (.tup xs)) : ObjOk P w H' h' a o := by
  induction o with
  | lst xs => obtain ⟨z, its, n, r, e⟩ := x; exact ⟨z, its, n, r, k _ _ (.inl rfl) e⟩
  | tup xs => obtain ⟨z, its, r, ob, e, c⟩ := x; exact ⟨z, its, r, ob, k _ _ (.inl rfl) e, c⟩
  | dK kvs => obtain ⟨z, y, vs, r, ob, es, ep, e, c⟩ := x; exact ⟨z, y, vs, r, ob, es, ep, k _ _ (.inl rfl) e, c⟩
  | dT kvs =>
    obtain ⟨z, y, xs, r, ob, es, ep, e, c⟩ := x
    exact ⟨z, y, xs, Paired.mapP r fun p q z => ⟨z.1, ht _ _ z.2.1, z.2.2⟩, ob, es, ep, k _ _ (.inl rfl) e, c⟩
  | set S n => obtain ⟨ob, es, ep, t, e, c⟩ := x; exact ⟨ob, es, ep, t, k _ _ (.inl rfl) e, c⟩
  | ins C dx fs =>
    obtain ⟨d, z, ne, e, mA, ⟨od, es, ep, e2, c⟩, r⟩ := x
    exact ⟨ho _ d, z, ne, k _ _ (.inl rfl) e, mA, ⟨od, es, ep, k _ _ (.inr d) e2, c⟩, r⟩
  | own y => obtain ⟨ob, e⟩ := x; exact ⟨ob, k _ _ (.inl rfl) e⟩
  | xd fs => obtain ⟨mA, ⟨od, es, ep, e, c⟩, r⟩ := x; exact ⟨mA, ⟨od, es, ep, k _ _ (.inl rfl) e, c⟩, r⟩
  | rng lo hi => obtain ⟨t, u, v, e⟩ := x; exact ⟨t, u, v, k _ _ (.inl rfl) e⟩
  | frz ob u ih => obtain ⟨e, q⟩ := x; exact ⟨k _ _ (.inl rfl) e, ih q⟩
  | tbl ps =>
    have e : h.get? a = some { cls := .none, data := .fields ps } := x
    show h'.get? a = some { cls := .none, data := .fields ps }
    exact k a _ (.inl rfl) e
  | met f y =>
    have e : h.get? a = some (PySem.W.methodObj (.ref f) (.ref y)) := x
    show h'.get? a = some (PySem.W.methodObj (.ref f) (.ref y))
    exact k a _ (.inl rfl) e
  | ext φ => obtain ⟨p, ⟨o, e⟩, st⟩ := x; exact ⟨st _ _ p fun o q => k _ _ (.inl rfl) q, ⟨o, k _ _ (.inl rfl) e⟩, st⟩
theorem HOk.lt (x : HOk P w H h) (e : H a = some o) : a < h.objs.size := (x a o e).lt
theorem HOk.fresh (x : HOk P w H h) (e : h.objs.size ≤ a) : H a = none := by
  cases q : H a with
  | none => rfl
  | some u => exact absurd (Nat.lt_of_lt_of_le (x.lt q) e) (Nat.lt_irrefl _)
/-- every object of the heap is kept -/
theorem HOk.kept (x : HOk P w H h) (k : ∀ b u, h.get? b = some u → h'.get? b = some u) : HOk P w H h' := fun a o e =>
  (x a o e).stay (fun b u _ q => k b u q) (fun _ q => q) fun _ _ q => q
/-- a new object is laid and tracked -/
theorem HOk.laid (x : HOk P w H h) (k : ∀ b u, h.get? b = some u → h'.get? b = some u) (hp : h.objs.size ≤ a) (new : ObjOk P w (upd H a o) h' a o) : HOk P w (upd H a o) h' := fun b u e => by
  have hn := x.fresh hp
  by_cases hb : b = a
  · subst hb; rw [upd_same] at e; cases e; exact new
  · rw [upd_ne hb] at e
    exact (x b u e).stay (fun c v _ q => k c v q) (fun c q => by rw [upd_ne (ne_of_none q hn)]; exact q) fun c xs q => by rw [upd_ne (ne_of_none q hn)]; exact q
end

/-- what may be read as u: it is u, or a known u -/
def Rd (H : Hp) (a : Addr) (u : HO) : Prop := H a = some u ∨ ∃ o, H a = some (.frz o u)
theorem Rd.ok {P : Program} {w : World} {H : Hp} {h : Heap} {a : Addr} {u : HO} (r : Rd H a u) (x : HOk P w H h) : ObjOk P w H h a u := by
  rcases r with r | ⟨o, r⟩
  · exact x a u r
  · obtain ⟨_, q⟩ := x a _ r
    exact q
/-- what may be written -/
def Mut : Option HO → Prop
  | some (.lst _) => True
  | some (.dK _) => True
  | some (.dT _) => True
  | some (.set _ _) => True
  | some (.ins _ _ _) => True
  | some (.ext _) => True
  | _ => False
section
variable {P : Program} {w : World} {H : Hp} {h h' : Heap} {x e : Addr} {o' : HO}
/-- the object at e is changed: x itself, or the dict of the instance x -/
theorem HOk.write (ok : HOk P w H h) (mu : Mut (H x)) (he : e = x ∨ H e = some (.own x)) (k : ∀ b u, b ≠ e → h.get? b = some u → h'.get? b = some u) (heo : ∃ u, h'.get? e = some u)
    (new : ObjOk P w (upd H x o') h' x o') : HOk P w (upd H x o') h' := fun b u q => by
  have nown : ∀ c y, H c = some (.own y) → c ≠ x := fun c y r z => by subst z; rw [r] at mu; exact mu
  have ntup : ∀ c xs, H c = some (.tup xs) → c ≠ x := fun c xs r z => by subst z; rw [r] at mu; exact mu
  by_cases hb : b = x
  · subst hb; rw [upd_same] at q; cases q; exact new
  · rw [upd_ne hb] at q
    by_cases hbe : b = e
    · have q' : H b = some (.own x) := by
        rcases he with z | z
        · exact absurd (hbe.trans z) hb
        · rw [hbe]; exact z
      rw [q] at q'; cases q'
      obtain ⟨v, hv⟩ := heo
      exact ⟨v, by rw [hbe]; exact hv⟩
    · refine (ok b u q).stay (fun c v hc r => k c v ?_ r) (fun c r => by rw [upd_ne (nown c b r)]; exact r) fun c xs r => by rw [upd_ne (ntup c xs r)]; exact r
      rcases hc with rfl | hc
      · exact hbe
      · rintro rfl
        rcases he with z | z
        · exact nown c b hc z
        · rw [hc] at z; cases z; exact hb rfl
end

/-! ### kept unless tracked; of the frames at fs (the callers') the slots may change (an exception that passes writes there); of the records at ex (iterators) nothing is said -/
structure Un (fs ex : List Addr) (H H' : Hp) (h h' : Heap) : Prop where
  keep : ∀ b o, h.get? b = some o → H b = none → b ∉ fs → b ∉ ex → h'.get? b = some o
  slot : ∀ b o, h.get? b = some o → H b = none → b ∈ fs → b ∉ ex → ∃ sl, h'.get? b = some { o with slots := sl }
  free : ∀ b o, h.get? b = some o → H b = none → b ∉ ex → H' b = none
  there : ∀ b o, h.get? b = some o → b ∉ ex → ∃ o', h'.get? b = some o'
  tups : ∀ b xs, H b = some (.tup xs) → H' b = some (.tup xs)
  frzs : ∀ b o u, H b = some (.frz o u) → H' b = some (.frz o u)
  tbls : ∀ b ps, H b = some (.tbl ps) → ∃ more, H' b = some (.tbl (ps ++ more))
section
variable {fs fs' ex ex' : List Addr} {H H1 H2 : Hp} {h h1 h2 h' : Heap} {a x e : Addr} {o : HO}
theorem Un.any (u : Un fs ex H H1 h h1) {b : Addr} {ob : Obj} (q : h.get? b = some ob) (n : H b = none) (hx : b ∉ ex) : ∃ sl, h1.get? b = some { ob with slots := sl } := by
  by_cases hb : b ∈ fs
  · exact u.slot b ob q n hb hx
  · exact ⟨ob.slots, u.keep b ob q n hb hx⟩
theorem Un.kept (k : ∀ b u, h.get? b = some u → h'.get? b = some u) : Un fs ex H H h h' :=
  ⟨fun b ob q _ _ _ => k b ob q, fun b ob q _ _ _ => ⟨ob.slots, k b ob q⟩, fun _ _ _ n _ => n, fun b ob q _ => ⟨ob, k b ob q⟩, fun _ _ q => q, fun _ _ _ q => q, fun _ ps q => ⟨#[], by rw [q]; simp⟩⟩
theorem Un.refl : Un fs ex H H h h := Un.kept fun _ _ q => q
theorem Un.laid (k : ∀ b u, h.get? b = some u → h'.get? b = some u) (hp : h.objs.size ≤ a) (hn : H a = none) : Un fs ex H (upd H a o) h h' where
  keep := fun b u q _ _ _ => k b u q
  slot := fun b u q _ _ _ => ⟨u.slots, k b u q⟩
  free := fun b u q n _ => by rw [upd_ne (Nat.ne_of_lt (Nat.lt_of_lt_of_le (Heap.lt_size q) hp))]; exact n
  there := fun b u q _ => ⟨u, k b u q⟩
  tups := fun b xs q => by rw [upd_ne (ne_of_none q hn)]; exact q
  frzs := fun b u xs q => by rw [upd_ne (ne_of_none q hn)]; exact q
  tbls := fun b ps q => ⟨#[], by rw [upd_ne (ne_of_none q hn), q]; simp⟩
theorem Un.write (mu : Mut (H x)) (he : e = x ∨ H e = some (.own x)) (k : ∀ b u, b ≠ e → h.get? b = some u → h'.get? b = some u) (heo : ∃ u, h'.get? e = some u) : Un fs ex H (upd H x o) h h' := by
  have hx : ∀ b, H b = none → b ≠ x := fun b n z => by subst z; rw [n] at mu; exact mu
  have hb : ∀ b, H b = none → b ≠ e := fun b n z => by
    subst z
    rcases he with r | r
    · exact hx b n r
    · rw [n] at r; cases r
  have hm : ∀ b u, H b = some u → ¬ Mut (some u) → b ≠ x := fun b u q nm z => by subst z; rw [q] at mu; exact nm mu
  refine ⟨fun b u q n _ _ => k b u (hb b n) q, fun b u q n _ _ => ⟨u.slots, k b u (hb b n) q⟩, fun b u q n _ => by rw [upd_ne (hx b n)]; exact n, fun b u q _ => ?_,
    fun b xs q => by rw [upd_ne (hm b _ q fun z => z)]; exact q, fun b u xs q => by rw [upd_ne (hm b _ q fun z => z)]; exact q, fun b ps q => ⟨#[], by rw [upd_ne (hm b _ q fun z => z), q]; simp⟩⟩
  by_cases hbe : b = e
  · subst hbe; exact heo
  · exact ⟨u, k b u hbe q⟩
end

/-! ### the heap without what is tracked -/
def trk (h : Heap) (H : Hp) : List Addr := (List.range h.objs.size).filter fun a => (H a).isSome
def hidT (h : Heap) (H : Hp) : Heap := PySem.W.hideAll h (trk h H)
theorem hidT_size (h : Heap) (H : Hp) : (hidT h H).objs.size = h.objs.size := PySem.W.hideAll_size _ _
theorem hidT_get {h : Heap} {H : Hp} {b : Addr} {o : Obj} (e : h.get? b = some o) (n : H b = none) : (hidT h H).get? b = some o :=
  PySem.W.hideAll_get _ e fun hm => by
    have q : (H b).isSome = true := (List.mem_filter.mp hm).2
    rw [n] at q; simp at q
theorem of_hidT {h : Heap} {H : Hp} {b : Addr} {o : Obj} (e : (hidT h H).get? b = some o) : h.get? b = some o ∧ H b = none := by
  have e' : h.get? b = some o := PySem.W.of_hideAll (trk h H) e
  refine ⟨e', ?_⟩
  cases q : H b with
  | none => rfl
  | some x =>
    have hm : b ∈ trk h H := List.mem_filter.mpr ⟨List.mem_range.mpr (Heap.lt_size e'), by simp [q]⟩
    have z : (hidT h H).get? b = none := PySem.W.hideAll_none (trk h H) hm
    rw [z] at e; cases e

/-! ### OpenK's ledger, filled with every new object but one -/
end L2

namespace L2
open PySem PySem.Spec PyProof.Rows

/-- the module's facts, over the base: the heap at the law's entry without what is tracked there -/
structure Mod (K : PySem.W.Frag) (mg : Str → Option Value) (base : Heap) : Prop where
  kin : K.In base
  glob : base.Ns mainGlobals mg
  blt : ∃ mb, base.Ns builtinsNs mb ∧ ∀ x : Str, x ≠ "__name__" → mb x = bootBuiltins x
  nolimit : base.NoLimit

/-- the context: a def's body (or a comprehension's block) running. base: fixed through the whole law; s₀, H₀: the entry; outer: the frames whose slots others may change (a def's callers); stack: all frames that run;
   ex: iterators that were made ahead of the entry and are walked here (a comprehension's); fn: the names whose cells were made at the entry (a def: all; a comprehension's block: its own); calm: not within an except suite; pn: pins that every state bears; xe: what is wanted of an exception that leaves the code -/
structure Cx where
  prog : Program
  w : World
  K : PySem.W.Frag
  mg : Str → Option Value
  base : Heap
  A : Around
  N : List Str
  s₀ : Shared
  H₀ : Hp
  env : Env
  outer : List Env
  stack : List Env
  ex : List Addr
  fn : Str → Bool
  calm : Bool
  pn : List (Addr × Obj)
  xe : Value → Shared → Prop
/-- the callers' frames -/
def frs (l : List Env) : List Addr := l.filterMap (·.frame)
abbrev Cx.fs (X : Cx) : List Addr := frs X.outer

def Vis (sc : Scope) (x : Str) : Prop := sc.names.lookup x = some .local ∨ sc.names.lookup x = some .cell ∨ sc.names.lookup x = some .free
def Loc (sc : Scope) (x : Str) : Prop := sc.names.lookup x = some .local ∨ sc.names.lookup x = some .cell
def Look (env : Env) (h : Heap) (m : Str → Option Value) (x : Str) (u : Value) : Prop :=
  (env.kindOf x = some .local ∧ m x = some u) ∨ ((env.kindOf x = some .cell ∨ env.kindOf x = some .free) ∧ ∃ c, env.cells.lookup x = some c ∧ h.IsCell c (some u))

structure Cx.Ok (X : Cx) : Prop where
  mod : Mod X.K X.mg X.base
  kind : X.env.scope.kind = .function
  glob : X.env.globals = mainGlobals
  blt : X.env.builtins = builtinsNs
  above : X.s₀.heap.objs.size ≤ X.env.locals
  inj : ∀ x y c, X.env.cells.lookup x = some c → X.env.cells.lookup y = some c → x = y
  has : ∀ x, (X.env.kindOf x = some .cell ∨ X.env.kindOf x = some .free) → ∃ c, X.env.cells.lookup x = some c
  cab : ∀ x c, X.fn x = true → X.env.cells.lookup x = some c → X.s₀.heap.objs.size ≤ c
  hd : X.calm = true → X.A.handled = none
  frames : X.A.frames = some X.stack
  stk : X.stack = X.outer ∨ (X.stack = X.env :: X.outer ∧ X.env.frame = some X.env.locals)
  exf : ∀ b ∈ X.ex, b ≠ X.env.locals ∧ ∀ x c, X.env.cells.lookup x = some c → c ≠ b
  bs : ∀ b o, X.base.get? b = some o → X.s₀.heap.get? b = some o ∧ X.H₀ b = none
  bsz : X.base.objs.size ≤ X.s₀.heap.objs.size
  noex : ∀ b o, X.base.get? b = some o → b ∉ X.ex
  exfs : ∀ b ∈ X.ex, b ∉ X.fs
  funs : X.s₀.heap.FunFrames X.base X.outer
  frf : ∀ b ∈ X.fs, X.H₀ b = none

structure Inv (X : Cx) (pins : List (Addr × Obj)) (σ : List (Option V)) (H : Hp) (s : Shared) : Prop where
  ok : X.Ok
  os : s.os = X.s₀.os
  bare : AllBare s.gens
  base : Un X.fs X.ex X.H₀ H X.s₀.heap s.heap
  loc : ∃ m, s.heap.Ns X.env.locals m ∧ ∀ (i : Nat) (x : Str) (v : V), X.N[i]? = some x → σ[i]? = some (some v) → Vis X.env.scope x → ∃ u, RelV v u ∧ Look X.env s.heap m x u
  cell : ∀ x c, X.env.cells.lookup x = some c → ∃ v, s.heap.IsCell c v
  free : H X.env.locals = none
  freeC : ∀ x c, X.env.cells.lookup x = some c → H c = none
  pin : ∀ p ∈ X.pn ++ pins, s.heap.get? p.1 = some p.2 ∧ H p.1 = none ∧ p.1 ≠ X.env.locals ∧ p.1 ∉ X.fs ∧ ∀ v, p.2.data ≠ .cell v
  hok : HOk X.prog X.w H s.heap
  len : σ.length = X.N.length

section
variable {X : Cx} {pins : List (Addr × Obj)} {σ : List (Option V)} {H H' : Hp} {s : Shared} {h' : Heap}

theorem Cx.Ok.nofr (ok : X.Ok) {b : Addr} {o : Obj} (e : X.base.get? b = some o) : b ∉ X.fs := fun hb => by
  have := (ok.funs.mem hb).1
  rw [e] at this; cases this
theorem Inv.bs (I : Inv X pins σ H s) : ∀ b o, X.base.get? b = some o → s.heap.get? b = some o ∧ H b = none := fun b o e =>
  ⟨I.base.keep b o (I.ok.bs b o e).1 (I.ok.bs b o e).2 (I.ok.nofr e) (I.ok.noex b o e), I.base.free b o (I.ok.bs b o e).1 (I.ok.bs b o e).2 (I.ok.noex b o e)⟩
theorem Inv.bk (I : Inv X pins σ H s) : ∀ b o, X.base.get? b = some o → s.heap.get? b = some o := fun b o e => (I.bs b o e).1
theorem Inv.mod (I : Inv X pins σ H s) : Mod X.K X.mg X.base := I.ok.mod
theorem Inv.kIn (I : Inv X pins σ H s) : X.K.In s.heap := I.ok.mod.kin.keeps I.bk
theorem Inv.nolimit (I : Inv X pins σ H s) : s.heap.NoLimit := I.ok.mod.nolimit.keeps I.bk
theorem Inv.lt (I : Inv X pins σ H s) : X.env.locals < s.heap.objs.size := let ⟨_, hn, _⟩ := I.loc; hn.lt
theorem Inv.sz (I : Inv X pins σ H s) : X.s₀.heap.objs.size ≤ s.heap.objs.size := Nat.le_trans I.ok.above (Nat.le_of_lt I.lt)
theorem Inv.nofs (I : Inv X pins σ H s) {a : Addr} (h : s.heap.objs.size ≤ a) : a ∉ X.fs := fun hb => by
  obtain ⟨_, o, ho, _⟩ := I.ok.funs.mem hb
  exact absurd (Nat.lt_of_lt_of_le (Heap.lt_size ho) (Nat.le_trans I.sz h)) (Nat.lt_irrefl _)
theorem Inv.cne (I : Inv X pins σ H s) : ∀ x c, X.env.cells.lookup x = some c → c ≠ X.env.locals := fun x c e z => by
  obtain ⟨v, o, ho, hd⟩ := I.cell x c e
  obtain ⟨m, ⟨o', es, ep, ho', hd', _⟩, _⟩ := I.loc
  rw [z, ho'] at ho; cases ho; rw [hd'] at hd; cases hd
theorem Inv.funs (I : Inv X pins σ H s) : s.heap.FunFrames X.base X.outer := by
  have all : ∀ (l : List Env), (∀ b ∈ frs l, b ∈ X.fs) → X.s₀.heap.FunFrames X.base l → s.heap.FunFrames X.base l := by
    intro l
    induction l with
    | nil => intro _ _; trivial
    | cons env r ih =>
      intro hs hl
      obtain ⟨hk, ⟨L, o, hf, hn, ho, hd⟩, hr⟩ := hl
      have hL : L ∈ X.fs := hs L (by unfold frs; rw [List.filterMap_cons, hf]; exact List.mem_cons_self)
      obtain ⟨sl, e⟩ := I.base.slot L o ho (I.ok.frf L hL) hL fun z => I.ok.exfs L z hL
      exact ⟨hk, ⟨L, _, hf, hn, e, hd⟩, ih (fun b hb => hs b (by unfold frs; rw [List.filterMap_cons, hf]; exact List.mem_cons_of_mem _ hb)) hr⟩
  exact all X.outer (fun _ hb => hb) I.ok.funs

/-- the frames that run, for a call -/
theorem Inv.stack (I : Inv X pins σ H s) : s.heap.FunFrames X.base X.stack := by
  rcases I.ok.stk with e | ⟨e, hf⟩
  · rw [e]; exact I.funs
  · rw [e]
    obtain ⟨m, hn, _⟩ := I.loc
    refine .cons (by rw [I.ok.kind]; decide) hf hn ?_ I.funs
    exact Heap.get?_none_of_le (Nat.le_trans I.ok.bsz I.ok.above)
theorem Inv.stkSub (I : Inv X pins σ H s) : ∀ b ∈ frs X.stack, b ∈ X.env.locals :: X.fs := fun b hb => by
  rcases I.ok.stk with e | ⟨e, hf⟩
  · rw [e] at hb; exact List.mem_cons_of_mem _ hb
  · rw [e] at hb
    unfold frs at hb
    rw [List.filterMap_cons, hf] at hb
    exact hb
theorem Inv.stkFree (I : Inv X pins σ H s) : ∀ b ∈ frs X.stack, H b = none := fun b hb => by
  rcases List.mem_cons.mp (I.stkSub b hb) with e | hb
  · rw [e]; exact I.free
  · obtain ⟨_, o, ho, _⟩ := I.ok.funs.mem hb
    exact I.base.free b o ho (I.ok.frf b hb) fun z => I.ok.exfs b z hb

/-- THE STEP: the untracked objects but the frame and the records at ch are kept (the callers' frames up to slots), the frame's map is kept, the new abstract heap is held -/
theorem Inv.step {g' : Array GenState} {t' : Nat} {d' : Drawn} {ch : List Addr} (I : Inv X pins σ H s)
    (hch : ∀ b ∈ ch, (b ∈ X.ex ∨ X.s₀.heap.objs.size ≤ b) ∧ b ≠ X.env.locals ∧ (∀ x c, X.env.cells.lookup x = some c → c ≠ b) ∧ ∀ p ∈ X.pn ++ pins, p.1 ≠ b)
    (keep : ∀ b o, b ≠ X.env.locals → b ∉ X.fs → b ∉ ch → s.heap.get? b = some o → H b = none → h'.get? b = some o)
    (slot : ∀ b o, b ≠ X.env.locals → b ∈ X.fs → b ∉ ch → s.heap.get? b = some o → H b = none → ∃ sl, h'.get? b = some { o with slots := sl }) (free : ∀ b o, b ∉ ch → s.heap.get? b = some o → H b = none → H' b = none)
    (there : ∀ b o, b ∉ ch → s.heap.get? b = some o → ∃ o', h'.get? b = some o')
    (tups : ∀ b xs, H b = some (.tup xs) → H' b = some (.tup xs)) (frzs : ∀ b o u, H b = some (.frz o u) → H' b = some (.frz o u)) (tbls : ∀ b ps, H b = some (.tbl ps) → ∃ more, H' b = some (.tbl (ps ++ more)))
    (ns : ∀ m, s.heap.Ns X.env.locals m → h'.Ns X.env.locals m) (hok : HOk X.prog X.w H' h') (hg : AllBare g') :
    Inv X pins σ H' { s with heap := h', gens := g', drawn := d', toks := t' } := by
  have neL : ∀ b o, X.s₀.heap.get? b = some o → b ≠ X.env.locals := fun b o e => Nat.ne_of_lt (Nat.lt_of_lt_of_le (Heap.lt_size e) I.ok.above)
  have neC : ∀ b o, X.s₀.heap.get? b = some o → b ∉ X.ex → b ∉ ch := fun b o e hx hb => by
    rcases (hch b hb).1 with z | z
    · exact hx z
    · exact absurd (Nat.lt_of_lt_of_le (Heap.lt_size e) z) (Nat.lt_irrefl _)
  have cellK : ∀ x c, X.env.cells.lookup x = some c → ∀ v, s.heap.IsCell c v → h'.IsCell c v := fun x c e v ⟨o, ho, hd⟩ => by
    have nch : c ∉ ch := fun z => (hch c z).2.2.1 x c e rfl
    by_cases hc : c ∈ X.fs
    · obtain ⟨sl, q⟩ := slot c o (I.cne x c e) hc nch ho (I.freeC x c e)
      exact ⟨_, q, hd⟩
    · exact ⟨o, keep c o (I.cne x c e) hc nch ho (I.freeC x c e), hd⟩
  refine ⟨I.ok, I.os, hg, ⟨fun b o e n hb hx => ?_, fun b o e n hb hx => ?_, fun b o e n hx => ?_, fun b o e hx => ?_, fun b xs e => tups b xs (I.base.tups b xs e), fun b o xs e => frzs b o xs (I.base.frzs b o xs e), fun b ps e => ?_⟩, ?_, fun x c e => ?_, ?_, fun x c e => ?_, fun p hp => ?_, hok, I.len⟩
  · exact keep b o (neL b o e) hb (neC b o e hx) (I.base.keep b o e n hb hx) (I.base.free b o e n hx)
  · obtain ⟨sl, e1⟩ := I.base.slot b o e n hb hx
    obtain ⟨sl', e2⟩ := slot b _ (neL b o e) hb (neC b o e hx) e1 (I.base.free b o e n hx)
    exact ⟨sl', e2⟩
  · obtain ⟨o', e1⟩ := I.base.there b o e hx
    exact free b o' (neC b o e hx) e1 (I.base.free b o e n hx)
  · obtain ⟨o', e1⟩ := I.base.there b o e hx
    exact there b o' (neC b o e hx) e1
  · obtain ⟨m1, e1⟩ := I.base.tbls b ps e
    obtain ⟨m2, e2⟩ := tbls b _ e1
    exact ⟨m1 ++ m2, by rw [e2, Array.append_assoc]⟩
  · obtain ⟨m, hn, hl⟩ := I.loc
    refine ⟨m, ns m hn, fun i x v e1 e2 e3 => ?_⟩
    obtain ⟨u, r, l⟩ := hl i x v e1 e2 e3
    refine ⟨u, r, ?_⟩
    rcases l with l | ⟨k, c, e, z⟩
    · exact .inl l
    · exact .inr ⟨k, c, e, cellK x c e _ z⟩
  · obtain ⟨v, z⟩ := I.cell x c e
    exact ⟨v, cellK x c e v z⟩
  · obtain ⟨m, ⟨o, _, _, ho, _⟩, _⟩ := I.loc
    exact free _ o (fun z => (hch _ z).2.1 rfl) ho I.free
  · obtain ⟨v, o, ho, hd⟩ := I.cell x c e
    exact free c o (fun z => (hch c z).2.2.1 x c e rfl) ho (I.freeC x c e)
  · obtain ⟨e, n, ne, nf, d⟩ := I.pin p hp
    have nch : p.1 ∉ ch := fun z => (hch p.1 z).2.2.2 p hp rfl
    exact ⟨keep p.1 p.2 ne nf nch e n, free p.1 p.2 nch e n, ne, nf, d⟩
/-- .. where the frame's own object is kept too -/
theorem Inv.un {t' : Nat} (I : Inv X pins σ H s) (u : Un X.fs [] H H' s.heap h') (hok : HOk X.prog X.w H' h') : Inv X pins σ H' { s with heap := h', toks := t' } := by
  obtain ⟨m, ⟨o, es, ep, ho, r⟩, _⟩ := id I.loc
  obtain ⟨sl, hL⟩ := u.any ho I.free (by simp)
  exact I.step (g' := s.gens) (d' := s.drawn) (ch := []) (fun _ z => nomatch z) (fun b o _ hb _ e n => u.keep b o e n hb (by simp)) (fun b o _ hb _ e n => u.slot b o e n hb (by simp)) (fun b o _ e n => u.free b o e n (by simp)) (fun b o _ e => u.there b o e (by simp)) u.tups u.frzs u.tbls (fun m' hm => by
    obtain ⟨o', es', ep', ho', r'⟩ := hm
    rw [ho] at ho'; cases ho'
    exact ⟨_, es', ep', hL, r'⟩) hok I.bare
/-- behind a call (or a comprehension's block): the slots of this frame may have changed too, the records at ch may have turned -/
theorem Inv.call {g' : Array GenState} {t' : Nat} {d' : Drawn} {ch : List Addr} (I : Inv X pins σ H s) (u : Un (frs X.stack) ch H H' s.heap h') (hok : HOk X.prog X.w H' h') (hg : AllBare g')
    (hch : ∀ b ∈ ch, (b ∈ X.ex ∨ X.s₀.heap.objs.size ≤ b) ∧ b ≠ X.env.locals ∧ (∀ x c, X.env.cells.lookup x = some c → c ≠ b) ∧ ∀ p ∈ X.pn ++ pins, p.1 ≠ b) :
    Inv X pins σ H' { s with heap := h', gens := g', drawn := d', toks := t' } := by
  obtain ⟨m, ⟨o, es, ep, ho, r⟩, _⟩ := id I.loc
  obtain ⟨sl, hL⟩ := u.any ho I.free fun z => (hch _ z).2.1 rfl
  exact I.step (ch := ch) hch (fun b o hL hb hc e n => u.keep b o e n (fun z => (List.mem_cons.mp (I.stkSub b z)).elim hL hb) hc) (fun b o _ _ hc e n => u.any e n hc) (fun b o hc e n => u.free b o e n hc) (fun b o hc e => u.there b o e hc) u.tups u.frzs u.tbls (fun m' hm => by
    obtain ⟨o', es', ep', ho', r'⟩ := hm
    rw [ho] at ho'; cases ho'
    exact ⟨_, es', ep', hL, r'⟩) hok hg
/-- an untracked record of ours (an iterator) has turned -/
theorem Inv.turned {t' : Nat} {it : Addr} (I : Inv X pins σ H s) (k : ∀ b o, b ≠ it → s.heap.get? b = some o → h'.get? b = some o) (hn : H it = none) (hL : it ≠ X.env.locals)
    (h1 : it ∈ X.ex ∨ X.s₀.heap.objs.size ≤ it) (h2 : ∀ x c, X.env.cells.lookup x = some c → c ≠ it) (h3 : ∀ p ∈ X.pn ++ pins, p.1 ≠ it) : Inv X pins σ H { s with heap := h', toks := t' } := by
  have nit : ∀ b u, H b = some u → b ≠ it := fun b u e z => by rw [z, hn] at e; cases e
  refine I.step (g' := s.gens) (d' := s.drawn) (ch := [it]) (fun b hb => ?_) (fun b o _ _ hc e _ => k b o (fun z => hc (by simp [z])) e) (fun b o _ _ hc e _ => ⟨o.slots, k b o (fun z => hc (by simp [z])) e⟩) (fun _ _ _ _ n => n)
    (fun b o hc e => ⟨o, k b o (fun z => hc (by simp [z])) e⟩) (fun _ _ e => e) (fun _ _ _ e => e) (fun b ps e => ⟨#[], by rw [e]; simp⟩) (fun m hm => ?_) (fun b u e => ?_) I.bare
  · have e : b = it := by simpa using hb
    subst e
    exact ⟨h1, hL, h2, h3⟩
  · obtain ⟨o, es, ep, ho, r⟩ := hm
    exact ⟨o, es, ep, k _ o (Ne.symm hL) ho, r⟩
  · refine (I.hok b u e).stay (fun c v hc q => k c v ?_ q) (fun _ q => q) fun _ _ q => q
    rcases hc with z | z
    · rw [z]; exact nit b u e
    · exact nit c _ z
theorem Inv.tok (I : Inv X pins σ H s) (t : Nat) : Inv X pins σ H { s with toks := t } := I.un (h' := s.heap) (t' := t) Un.refl I.hok
/-- all objects kept -/
theorem Inv.kept {t' : Nat} (I : Inv X pins σ H s) (k : ∀ b u, s.heap.get? b = some u → h'.get? b = some u) : Inv X pins σ H { s with heap := h', toks := t' } := I.un (Un.kept k) (I.hok.kept k)
/-- a new object laid and tracked -/
theorem Inv.laid {a : Addr} {o : HO} {t' : Nat} (I : Inv X pins σ H s) (k : ∀ b u, s.heap.get? b = some u → h'.get? b = some u) (hp : s.heap.objs.size ≤ a) (new : ObjOk X.prog X.w (upd H a o) h' a o) :
    Inv X pins σ (upd H a o) { s with heap := h', toks := t' } := I.un (Un.laid k hp (I.hok.fresh hp)) (I.hok.laid k hp new)
/-- an object written -/
theorem Inv.write {x e : Addr} {o : HO} {t' : Nat} (I : Inv X pins σ H s) (mu : Mut (H x)) (he : e = x ∨ H e = some (.own x)) (k : ∀ b u, b ≠ e → s.heap.get? b = some u → h'.get? b = some u) (heo : ∃ u, h'.get? e = some u)
    (new : ObjOk X.prog X.w (upd H x o) h' x o) : Inv X pins σ (upd H x o) { s with heap := h', toks := t' } := I.un (Un.write mu he k heo) (I.hok.write mu he k heo new)
theorem Inv.pins_of {pins' : List (Addr × Obj)} (I : Inv X pins σ H s) (h : ∀ p ∈ pins', s.heap.get? p.1 = some p.2 ∧ H p.1 = none ∧ p.1 ≠ X.env.locals ∧ p.1 ∉ X.fs ∧ ∀ v, p.2.data ≠ .cell v) : Inv X pins' σ H s :=
  ⟨I.ok, I.os, I.bare, I.base, I.loc, I.cell, I.free, I.freeC, fun p hp => (List.mem_append.mp hp).elim (fun z => I.pin p (List.mem_append_left _ z)) (h p), I.hok, I.len⟩

theorem nodup_ix {N : List Str} (hN : N.Nodup) {i j : Nat} {x : Str} (a : N[i]? = some x) (b : N[j]? = some x) : i = j := by
  obtain ⟨h1, e1⟩ := List.getElem?_eq_some_iff.mp a
  obtain ⟨h2, e2⟩ := List.getElem?_eq_some_iff.mp b
  exact (List.getElem_inj hN).mp (e1.trans e2.symm)

/-- a name is stored; what changed -/
theorem store_ok2 {M : Model} {A : Around} {E : Value → Shared → Prop} {i : Nat} {x : Str} {v : V} {u : Value} {Q : Unit → Shared → Prop} (I : Inv X pins σ H s) (hN : X.N.Nodup) (hi : X.N[i]? = some x) (hx : Loc X.env.scope x) (r : RelV v u)
    (h : ∀ s', Inv X pins (σ.set i (some v)) H s' → (∃ a, Heap.SameBut a s.heap s'.heap ∧ (a = X.env.locals ∨ X.env.cells.lookup x = some a)) → Q () s') (hf : X.fn x = true ∨ X.env.scope.names.lookup x = some .local := by first | exact .inl rfl | exact .inr rfl | assumption) : wpAny M A (storeName X.env x u) Q E s := by
  obtain ⟨m, hn, hl⟩ := id I.loc
  have hcls : (X.env.scope.kind == .class || (X.env.scope.kind == .module && X.env.locals != X.env.globals)) = false := by rw [I.ok.kind]; rfl
  have hiσ : i < σ.length := by rw [I.len]; exact (List.getElem?_eq_some_iff.mp hi).1
  have cne := I.cne
  have tracked : ∀ {a : Addr} {h' : Heap}, (∃ o, s.heap.get? a = some o ∧ H a = none) → Heap.SameBut a s.heap h' → HOk X.prog X.w H h' := fun {a h'} ha hs b ob e => by
    obtain ⟨_, _, hfree⟩ := ha
    refine (I.hok b ob e).stay (fun c w' hc q => (hs.2 c ?_).trans q) (fun _ q => q) fun _ _ q => q
    rintro rfl
    rcases hc with rfl | hc
    · rw [hfree] at e; cases e
    · rw [hfree] at hc; cases hc
  rcases hx with hk | hk
  · refine wpAny_storeName_local hk hn (fun h' hn' hs => ?_) hcls
    obtain ⟨oL, _, _, hoL, _⟩ := id hn
    refine h _ ⟨I.ok, I.os, I.bare, ⟨fun b o e n hb hx => ?_, fun b o e n hb hx => ?_, I.base.free, fun b o e hx => ?_, I.base.tups, I.base.frzs, I.base.tbls⟩, ⟨_, hn', fun j y v' e1 e2 e3 => ?_⟩, fun y c e => ?_, I.free, I.freeC, fun p hp => ?_, tracked ⟨oL, hoL, I.free⟩ hs, by simpa using I.len⟩ ⟨_, hs, .inl rfl⟩
    · exact (hs.2 b (Nat.ne_of_lt (Nat.lt_of_lt_of_le (Heap.lt_size e) I.ok.above))).trans (I.base.keep b o e n hb hx)
    · obtain ⟨sl, e1⟩ := I.base.slot b o e n hb hx
      exact ⟨sl, (hs.2 b (Nat.ne_of_lt (Nat.lt_of_lt_of_le (Heap.lt_size e) I.ok.above))).trans e1⟩
    · obtain ⟨o', e1⟩ := I.base.there b o e hx
      exact ⟨o', (hs.2 b (Nat.ne_of_lt (Nat.lt_of_lt_of_le (Heap.lt_size e) I.ok.above))).trans e1⟩
    · by_cases hj : j = i
      · subst hj
        rw [hi] at e1; cases e1
        rw [List.getElem?_set_self hiσ] at e2
        cases e2
        exact ⟨u, r, .inl ⟨hk, by simp⟩⟩
      · rw [List.getElem?_set_ne (Ne.symm hj)] at e2
        obtain ⟨u', r', q⟩ := hl j y v' e1 e2 e3
        refine ⟨u', r', ?_⟩
        rcases q with ⟨k, e⟩ | ⟨k, c, e, z⟩
        · refine .inl ⟨k, ?_⟩
          have : y ≠ x := fun e => hj (nodup_ix hN e1 (e ▸ hi))
          simp [this, e]
        · exact .inr ⟨k, c, e, z.sameBut hs (cne y c e)⟩
    · obtain ⟨w', z⟩ := I.cell y c e
      exact ⟨w', z.sameBut hs (cne y c e)⟩
    · obtain ⟨e, n, ne, nf, d⟩ := I.pin p hp
      exact ⟨(hs.2 p.1 ne).trans e, n, ne, nf, d⟩
  · have hfn : X.fn x = true := by
      rcases hf with z | z
      · exact z
      · rw [z] at hk; cases hk
    obtain ⟨c, hc⟩ := I.ok.has x (.inl hk)
    obtain ⟨w', z⟩ := I.cell x c hc
    refine wpAny_storeName_cell I.ok.kind hk hc z (fun h' hc' hs => ?_)
    obtain ⟨oc, hoc, hocd⟩ := id z
    refine h { s with heap := h' } ⟨I.ok, I.os, I.bare, ⟨fun b o e n hb hx => ?_, fun b o e n hb hx => ?_, I.base.free, fun b o e hx => ?_, I.base.tups, I.base.frzs, I.base.tbls⟩, ⟨m, hn.sameBut hs (Ne.symm (cne x c hc)), fun j y v' e1 e2 e3 => ?_⟩, fun y c' e => ?_, I.free, I.freeC, fun p hp => ?_, tracked ⟨oc, hoc, I.freeC x c hc⟩ hs, by simpa using I.len⟩ ⟨c, hs, .inr hc⟩
    · exact (hs.2 b (Nat.ne_of_lt (Nat.lt_of_lt_of_le (Heap.lt_size e) (I.ok.cab x c hfn hc)))).trans (I.base.keep b o e n hb hx)
    · obtain ⟨sl, e1⟩ := I.base.slot b o e n hb hx
      exact ⟨sl, (hs.2 b (Nat.ne_of_lt (Nat.lt_of_lt_of_le (Heap.lt_size e) (I.ok.cab x c hfn hc)))).trans e1⟩
    · obtain ⟨o', e1⟩ := I.base.there b o e hx
      exact ⟨o', (hs.2 b (Nat.ne_of_lt (Nat.lt_of_lt_of_le (Heap.lt_size e) (I.ok.cab x c hfn hc)))).trans e1⟩
    · by_cases hj : j = i
      · subst hj
        rw [hi] at e1; cases e1
        rw [List.getElem?_set_self hiσ] at e2
        cases e2
        exact ⟨u, r, .inr ⟨.inl hk, c, hc, hc'⟩⟩
      · rw [List.getElem?_set_ne (Ne.symm hj)] at e2
        obtain ⟨u', r', q⟩ := hl j y v' e1 e2 e3
        refine ⟨u', r', ?_⟩
        rcases q with q | ⟨k, c', e, z'⟩
        · exact .inl q
        · refine .inr ⟨k, c', e, z'.sameBut hs ?_⟩
          rintro rfl
          exact hj (nodup_ix hN e1 (I.ok.inj _ _ _ e hc ▸ hi))
    · by_cases hcc : c' = c
      · subst hcc; exact ⟨_, hc'⟩
      · obtain ⟨w2, z2⟩ := I.cell y c' e
        exact ⟨w2, z2.sameBut hs hcc⟩
    · obtain ⟨e, n, ne, nf, d⟩ := I.pin p hp
      refine ⟨(hs.2 p.1 ?_).trans e, n, ne, nf, d⟩
      intro q
      rw [q, hoc] at e
      have q' : oc = p.2 := Option.some.inj e
      exact d w' (by rw [← q']; exact hocd)
theorem store_ok {M : Model} {A : Around} {E : Value → Shared → Prop} {i : Nat} {x : Str} {v : V} {u : Value} {Q : Unit → Shared → Prop} (I : Inv X pins σ H s) (hN : X.N.Nodup) (hi : X.N[i]? = some x) (hx : Loc X.env.scope x) (r : RelV v u)
    (h : ∀ s', Inv X pins (σ.set i (some v)) H s' → Q () s') (hf : X.fn x = true ∨ X.env.scope.names.lookup x = some .local := by first | exact .inl rfl | exact .inr rfl | assumption) : wpAny M A (storeName X.env x u) Q E s :=
  store_ok2 I hN hi hx r (fun s' I' _ => h s' I') hf
/-- behind a call or a block, the state as it is -/
theorem Inv.call' {s' : Shared} {ch : List Addr} (I : Inv X pins σ H s) (ho : s'.os = s.os) (u : Un (frs X.stack) ch H H' s.heap s'.heap) (hok : HOk X.prog X.w H' s'.heap) (hg : AllBare s'.gens)
    (hch : ∀ b ∈ ch, (b ∈ X.ex ∨ X.s₀.heap.objs.size ≤ b) ∧ b ≠ X.env.locals ∧ (∀ x c, X.env.cells.lookup x = some c → c ≠ b) ∧ ∀ p ∈ X.pn ++ pins, p.1 ≠ b) : Inv X pins σ H' s' := by
  obtain ⟨h', g', d', t', o'⟩ := s'
  have e : o' = s.os := ho
  subst e
  exact I.call (g' := g') (t' := t') (d' := d') u hok hg hch
end

/-! ### the judgements -/
/-- an exception: its class, its own dict's address (where it has one), the abstract heap behind it -/
abbrev XK := Value → Option Addr → Hp → Prop
abbrev St := List (Option V)
abbrev VK := V → Hp → Prop
/-- an expression's reading; a test's; an argument list's -/
abbrev TE := St → Hp → VK → Prop
abbrev TT := St → Hp → (Bool → Hp → Prop) → Prop
abbrev TA := St → Hp → (List V → Hp → Prop) → Prop
/-- what is wanted behind a statement -/
structure Ends where
  nx : St → Hp → Prop
  rt : VK
  bk : St → Hp → Prop := fun _ _ => False
  ct : St → Hp → Prop := fun _ _ => False
abbrev TS := Ends → St → Hp → Prop

def EP (X : Cx) (pins : List (Addr × Obj)) (σ : St) (Q : VK) (u : Value) (s' : Shared) : Prop := ∃ v H', Inv X pins σ H' s' ∧ RelV v u ∧ Q v H'
def TP (X : Cx) (pins : List (Addr × Obj)) (σ : St) (Q : Bool → Hp → Prop) (b : Bool) (s' : Shared) : Prop := ∃ H', Inv X pins σ H' s' ∧ Q b H'
def AP (X : Cx) (pins : List (Addr × Obj)) (σ : St) (Q : List V → Hp → Prop) (us : List Value) (s' : Shared) : Prop := ∃ vs H', Inv X pins σ H' s' ∧ Vals vs us ∧ Q vs H'
def SP (X : Cx) (pins : List (Addr × Obj)) (D : Ends) (f : Flow) (s' : Shared) : Prop :=
  match f with
  | .next => ∃ σ' H', Inv X pins σ' H' s' ∧ D.nx σ' H'
  | .brk => ∃ σ' H', Inv X pins σ' H' s' ∧ D.bk σ' H'
  | .cont => ∃ σ' H', Inv X pins σ' H' s' ∧ D.ct σ' H'
  | .ret u => ∃ v σ' H', Inv X pins σ' H' s' ∧ RelV v u ∧ D.rt v H'

def PE (X : Cx) (e : Expr) (t : TE) : Prop :=
  ∀ (pins : List (Addr × Obj)) (s : Shared) (σ : St) (H : Hp) (Q : VK), Inv X pins σ H s → t σ H Q → wpAny (model X.prog X.w) X.A (eval e X.env) (EP X pins σ Q) X.xe s
def PT (X : Cx) (e : Expr) (t : TT) : Prop :=
  ∀ (pins : List (Addr × Obj)) (s : Shared) (σ : St) (H : Hp) (Q : Bool → Hp → Prop), Inv X pins σ H s → t σ H Q → wpAny (model X.prog X.w) X.A (isTrue e X.env (eval e X.env)) (TP X pins σ Q) X.xe s
/-- a test whatever its 'whole' is (and, or) -/
def PW (X : Cx) (e : Expr) (t : TT) : Prop :=
  ∀ (whole : Sem Value) (pins : List (Addr × Obj)) (s : Shared) (σ : St) (H : Hp) (Q : Bool → Hp → Prop), Inv X pins σ H s → t σ H Q → wpAny (model X.prog X.w) X.A (isTrue e X.env whole) (TP X pins σ Q) X.xe s
theorem PW.pt {X : Cx} {e : Expr} {t : TT} (h : PW X e t) : PT X e t := h _
/-- an argument list (no star), from the left -/
def PA (X : Cx) (es : List Expr) (t : TA) : Prop :=
  ∀ (pos : Pos) (pins : List (Addr × Obj)) (s : Shared) (σ : St) (H : Hp) (Q : List V → Hp → Prop), Inv X pins σ H s → t σ H Q → wpAny (model X.prog X.w) X.A (spliced (backTo pos (starEach es X.env))) (AP X pins σ Q) X.xe s
def PS (X : Cx) (st : Stmt) (t : TS) : Prop :=
  ∀ (pins : List (Addr × Obj)) (s : Shared) (σ : St) (H : Hp) (D : Ends), Inv X pins σ H s → t D σ H → wpAny (model X.prog X.w) X.A (exec st X.env) (SP X pins D) X.xe s
def PSs (X : Cx) (st : List Stmt) (t : TS) : Prop :=
  ∀ (pins : List (Addr × Obj)) (s : Shared) (σ : St) (H : Hp) (D : Ends), Inv X pins σ H s → t D σ H → wpAny (model X.prog X.w) X.A (execs st X.env) (SP X pins D) X.xe s
/-- weaken the end -/
theorem thn {α : Type} {t : Sem α} {Q Q' : α → Shared → Prop} {M : Model} {A : Around} {E : Value → Shared → Prop} {s : Shared} (h : wpAny M A t Q E s) (hQ : ∀ a s, Q a s → Q' a s) : wpAny M A t Q' E s := wpAny_mono h hQ fun _ _ x => x
end L2

namespace L2
open PySem PySem.Spec PyProof.Rows
section
variable {X : Cx}


/-! ### names and constants -/
def tVar (i : Nat) : TE := fun σ H Q => ∃ v, σ[i]? = some (some v) ∧ Q v H
def tC (v : V) : TE := fun _ H Q => Q v H
theorem pe_var {i : Nat} {x : Str} {pos : Pos} (hN : X.N[i]? = some x) (hv : Vis X.env.scope x) (hd : (x == ("__debug__" : Str)) = false := by decide) (hcd : (x == ("__classdict__" : Str)) = false := by decide) : PE X (.Name x pos) (tVar i) := by
  intro pins s σ H Q I h
  obtain ⟨v, e, h⟩ := h
  obtain ⟨m, hn, hl⟩ := I.loc
  obtain ⟨u, r, l⟩ := hl i x v hN e hv
  have fin : EP X pins σ Q u s := ⟨v, H, I, r, h⟩
  rcases l with ⟨hk, hm⟩ | ⟨hk, c, hc, hcell⟩
  · exact wpAny_Name (wpAny_loadName_local I.ok.kind hk hn hm fin) hd
  · rcases hk with hk | hk
    · exact wpAny_Name (wpAny_loadName_cell I.ok.kind hk hc hcell fin) hd
    · exact wpAny_Name (wpAny_loadName_free I.ok.kind hk hc hcell fin hcd) hd
theorem pe_int {i j pos} : PE X (.Constant (.int i) j pos) (tC (.int i)) := fun _ _ _ H _ I h => wpAny_Constant_int ⟨.int i, H, I.tok _, ⟨_, rfl⟩, h⟩
theorem pe_bl {b j pos} : PE X (.Constant (.bool b) j pos) (tC (.bl b)) := fun _ _ _ H _ I h => Constant_bool ⟨.bl b, H, I, rfl, h⟩
theorem pe_str {x j pos} : PE X (.Constant (.str x) j pos) (tC (.str x)) := fun _ _ _ H _ I h => Calls.Constant_str ⟨.str x, H, I.tok _, ⟨_, rfl⟩, h⟩

/-- a global name of the def -/
def Gl (X : Cx) (x : Str) : Prop := X.env.kindOf x = some .globalImplicit
theorem ld_glob {E : Value → Shared → Prop} {pins : List (Addr × Obj)} {s : Shared} {σ : St} {H : Hp} {x : Str} {u : Value} {pos : Pos} {Q : Value → Shared → Prop} (I : Inv X pins σ H s) (hg : Gl X x) (hm : X.mg x = some u) (h : Q u s)
    (hd : (x == ("__debug__" : Str)) = false := by decide) : wpAny (model X.prog X.w) X.A (eval (.Name x pos) X.env) Q E s :=
  Calls.Name_function_global I.ok.kind hg (Calls.loadGlobal_global (by rw [I.ok.glob]; exact I.mod.glob.keeps I.bk) hm h) hd
theorem ld_blt {E : Value → Shared → Prop} {pins : List (Addr × Obj)} {s : Shared} {σ : St} {H : Hp} {x : Str} {u : Value} {pos : Pos} {Q : Value → Shared → Prop} (I : Inv X pins σ H s) (hg : Gl X x) (hm : X.mg x = none) (hv : bootBuiltins x = some u) (h : Q u s)
    (hn : x ≠ "__name__" := by decide) (hd : (x == ("__debug__" : Str)) = false := by decide) : wpAny (model X.prog X.w) X.A (eval (.Name x pos) X.env) Q E s := by
  obtain ⟨mb, h1, h2⟩ := I.mod.blt
  exact Calls.Name_function_global I.ok.kind hg (Calls.loadGlobal_builtin (by rw [I.ok.glob]; exact I.mod.glob.keeps I.bk) hm (by rw [I.ok.blt]; exact h1.keeps I.bk) ((h2 x hn).trans hv) h) hd
theorem pe_bltn {x : Str} {v : V} {u : Value} {pos : Pos} (hg : Gl X x) (hm : X.mg x = none) (hv : bootBuiltins x = some u) (r : RelV v u) (hn : x ≠ "__name__" := by decide) (hd : (x == ("__debug__" : Str)) = false := by decide) : PE X (.Name x pos) (tC v) :=
  fun _ _ _ H _ I h => ld_blt I hg hm hv ⟨v, H, I, r, h⟩ hn hd

/-! ### arithmetic -/
variable {a b : Expr} {ta tb : TE} {pos : Pos}

/-! ### comparisons -/
def PC (X : Cx) (op : CmpOp) (a b : Expr) (t : TE) : Prop :=
  ∀ (pins : List (Addr × Obj)) (s : Shared) (σ : St) (H : Hp) (Q : VK), Inv X pins σ H s → t σ H Q →
    wpAny (model X.prog X.w) X.A (eval a X.env) (fun v s₁ => wpAny (model X.prog X.w) X.A (eval b X.env) (fun u s₂ => wpAny (model X.prog X.w) X.A (compareOp op v u) (EP X pins σ Q) X.xe s₂) X.xe s₁) X.xe s
/-- a comparison as a value, as a test -/
def tB (t : TE) : TT := fun σ H Q => t σ H fun x H1 => ∃ c, x = .bl c ∧ Q c H1
/-- an expression whose value is a bool, as a test -/
theorem pt_val {e : Expr} {t : TE} (h : PE X e t) (he : ∀ whole, isTrue e X.env whole = (do let v ← whole; standAt e.pos; holding [v] (truthy v)) := by intro _; rfl) : PT X e (tB t) := by
  intro pins s σ H Q I hw
  refine isTrue_plain (thn (h pins s σ H _ I hw) fun v s1 ⟨x, H1, I1, r1, q1⟩ => ?_) (he _)
  obtain ⟨d, rfl, q⟩ := q1
  cases r1
  exact wpAny_truthy_bool ⟨H1, I1, q⟩

/-! ### and, or, not -/
variable {tA tB' : TT} {rest : List Expr}
def tAnd (t u : TT) : TT := fun σ H Q => t σ H fun c H1 => if c = true then u σ H1 Q else Q false H1
def tNot (t : TT) : TT := fun σ H Q => t σ H fun c H1 => Q (!c) H1
theorem pw_and1 (ha : PT X a tA) : PW X (.BoolOp .And [a] pos) tA := by
  intro wh pins s σ H Q I h
  refine isTrue_and (thn (ha pins s σ H Q I h) fun c s1 e => ?_)
  cases c with
  | true => exact isTrue_and_nil e
  | false => exact e
theorem pw_and (ha : PT X a tA) (hb : PW X (.BoolOp .And (b :: rest) pos) tB') : PW X (.BoolOp .And (a :: b :: rest) pos) (tAnd tA tB') := by
  intro wh pins s σ H Q I h
  refine isTrue_and (thn (ha pins s σ H _ I h) fun c s1 ⟨H1, I1, q1⟩ => ?_)
  cases c with
  | true => exact hb wh pins s1 σ H1 Q I1 q1
  | false => exact ⟨H1, I1, q1⟩
theorem pt_not (ha : PT X a tA) : PT X (.UnaryOp .Not a pos) (tNot tA) := by
  intro pins s σ H Q I h
  exact isTrue_not (ha pins s σ H (fun c H1 => Q (!c) H1) I h)
/-- .. as values (bools) -/
def tAndV (ta tb : TE) : TE := fun σ H Q => ta σ H fun x H1 => ∃ c, x = .bl c ∧ if c = true then tb σ H1 Q else Q (.bl false) H1
theorem pe_one {op} {t : TE} (h : PE X a t) : PE X (.BoolOp op [a] pos) t := fun pins s σ H Q I hw => BoolOp_one (h pins s σ H Q I hw)
theorem pe_and (ha : PE X a ta) (hb : PE X (.BoolOp .And (b :: rest) pos) tb) : PE X (.BoolOp .And (a :: b :: rest) pos) (tAndV ta tb) := by
  intro pins s σ H Q I h
  refine BoolOp_and (thn (ha pins s σ H _ I h) fun v s1 ⟨x, H1, I1, r1, q1⟩ => ?_)
  obtain ⟨c, rfl, q1⟩ := q1
  cases r1
  refine wpAny_truthy_bool ?_
  cases c with
  | true => exact hb pins s1 σ H1 Q I1 q1
  | false => exact ⟨.bl false, H1, I1, rfl, q1⟩
end
end L2

namespace L2
open PySem PySem.Spec PyProof.Rows

/-! ### a list, a tuple that is read: tracked, frozen, or an object of the module -/
def SqL (K : PySem.W.Frag) (H : Hp) (a : Addr) (xs : List V) : Prop :=
  Rd H a (.lst xs) ∨
    ∃ (o : Obj) (its : Array Value) (n : Nat), K.lookup a = some o ∧ o.cls = .type "list" ∧ o.dict = none ∧ o.data = .seq its n ∧ its.size ≤ sizeLine ∧ Vals xs its.toList
def SqT (K : PySem.W.Frag) (H : Hp) (a : Addr) (xs : List V) : Prop :=
  Rd H a (.tup xs) ∨
    ∃ (o : Obj) (its : Array Value) (n : Nat), K.lookup a = some o ∧ o.cls = .type "tuple" ∧ o.data = .seq its n ∧ its.size ≤ sizeLine ∧ Vals xs its.toList
def absV : Value → Option V
  | .none => some .non
  | .bool b => some (.bl b)
  | .int i _ => some (.int i)
  | .str x _ => some (.str x)
  | .bytes b _ => some (.byt b)
  | .float b _ => some (.flt b)
  | .ref a => some (.ref a)
  | .type n => some (.ty n)
  | _ => none
theorem RelV.abs {x : V} {u : Value} (r : RelV x u) : absV u = some x := by
  cases x with
  | non => cases r; rfl
  | bl _ => cases r; rfl
  | int _ => obtain ⟨t, rfl⟩ := r; rfl
  | str _ => obtain ⟨t, rfl⟩ := r; rfl
  | byt _ => obtain ⟨t, rfl⟩ := r; rfl
  | flt _ => obtain ⟨t, rfl⟩ := r; rfl
  | ref _ => cases r; rfl
  | ty _ => cases r; rfl
theorem RelV.inj {x y : V} {u : Value} (r : RelV x u) (q : RelV y u) : x = y := Option.some.inj (r.abs.symm.trans q.abs)
theorem Vals.inj : ∀ {xs ys : List V} {us : List Value}, Vals xs us → Vals ys us → xs = ys
  | _, _, _, .nil, .nil => rfl
  | _, _, _, .cons r t, .cons r' t' => by rw [r.inj r', Vals.inj t t']
section
variable {X : Cx} {pins : List (Addr × Obj)} {σ : St} {H : Hp} {s : Shared} {a : Addr} {xs ys : List V}
theorem SqL.of {K : PySem.W.Frag} (h : H a = some (.lst xs)) : SqL K H a xs := .inl (.inl h)
theorem SqT.of {K : PySem.W.Frag} (h : H a = some (.tup xs)) : SqT K H a xs := .inl (.inl h)
theorem Inv.list (I : Inv X pins σ H s) (h : SqL X.K H a xs) : ∃ its : List Value, Vals xs its ∧ PlainL s.heap a its.toArray ∧ xs.length ≤ sizeLine := by
  rcases h with h | ⟨o, its, n, hk, hc, hd, hs, hz, r⟩
  · obtain ⟨z, its, n, r, e⟩ := h.ok I.hok
    exact ⟨its, r, ⟨_, n, e, rfl, rfl, rfl⟩, z⟩
  · refine ⟨its.toList, r, ⟨o, n, I.kIn a o hk, hc, hd, by simpa using hs⟩, ?_⟩
    have e := r.length
    simp only [Array.length_toList] at e
    omega
theorem Inv.tuple (I : Inv X pins σ H s) (h : SqT X.K H a xs) : ∃ its : List Value, Vals xs its ∧ IsTup s.heap a its.toArray ∧ xs.length ≤ sizeLine := by
  rcases h with h | ⟨o, its, n, hk, hc, hs, hz, r⟩
  · obtain ⟨z, its, r, p⟩ := h.ok I.hok
    exact ⟨its, r, p, z⟩
  · refine ⟨its.toList, r, ⟨o, I.kIn a o hk, hc, n, by simpa using hs⟩, ?_⟩
    have e := r.length
    simp only [Array.length_toList] at e
    omega
theorem Inv.list_inj (I : Inv X pins σ H s) (h : SqL X.K H a xs) (h' : SqL X.K H a ys) : xs = ys := by
  obtain ⟨its, r, ⟨o, n, e, _, _, d⟩, _⟩ := I.list h
  obtain ⟨its', r', ⟨o', n', e', _, _, d'⟩, _⟩ := I.list h'
  rw [e] at e'; cases e'
  rw [d] at d'
  injection d' with d1 _
  have : its = its' := by simpa using congrArg Array.toList d1
  subst this
  exact r.inj r'
theorem Inv.tuple_inj (I : Inv X pins σ H s) (h : SqT X.K H a xs) (h' : SqT X.K H a ys) : xs = ys := by
  obtain ⟨its, r, ⟨o, e, _, n, d⟩, _⟩ := I.tuple h
  obtain ⟨its', r', ⟨o', e', _, n', d'⟩, _⟩ := I.tuple h'
  rw [e] at e'; cases e'
  rw [d] at d'
  injection d' with d1 _
  have : its = its' := by simpa using congrArg Array.toList d1
  subst this
  exact r.inj r'
end

/-! ### another wish about exceptions -/
abbrev Cx.wish (X : Cx) (E : Value → Shared → Prop) : Cx := { X with xe := E }
/-- no exception leaves -/
abbrev Cx.nox (X : Cx) : Cx := X.wish fun _ _ => False
theorem Cx.Ok.wish {X : Cx} (ok : X.Ok) (E : Value → Shared → Prop) : (X.wish E).Ok :=
  ⟨ok.mod, ok.kind, ok.glob, ok.blt, ok.above, ok.inj, ok.has, ok.cab, ok.hd, ok.frames, ok.stk, ok.exf, ok.bs, ok.bsz, ok.noex, ok.exfs, ok.funs, ok.frf⟩
theorem Cx.Ok.unwish {X : Cx} {E : Value → Shared → Prop} (ok : (X.wish E).Ok) : X.Ok :=
  ⟨ok.mod, ok.kind, ok.glob, ok.blt, ok.above, ok.inj, ok.has, ok.cab, ok.hd, ok.frames, ok.stk, ok.exf, ok.bs, ok.bsz, ok.noex, ok.exfs, ok.funs, ok.frf⟩
section
variable {X : Cx} {pins : List (Addr × Obj)} {σ : St} {H : Hp} {s : Shared} {E : Value → Shared → Prop}
theorem Inv.wish (I : Inv X pins σ H s) (E : Value → Shared → Prop) : Inv (X.wish E) pins σ H s := ⟨I.ok.wish E, I.os, I.bare, I.base, I.loc, I.cell, I.free, I.freeC, I.pin, I.hok, I.len⟩
theorem Inv.unwish (I : Inv (X.wish E) pins σ H s) : Inv X pins σ H s := ⟨I.ok.unwish, I.os, I.bare, I.base, I.loc, I.cell, I.free, I.freeC, I.pin, I.hok, I.len⟩
theorem SP.unwish {D : Ends} {f : Flow} {s' : Shared} (h : SP (X.wish E) pins D f s') : SP X pins D f s' := by
  cases f with
  | next => obtain ⟨σ', H', I, q⟩ := h; exact ⟨σ', H', I.unwish, q⟩
  | brk => obtain ⟨σ', H', I, q⟩ := h; exact ⟨σ', H', I.unwish, q⟩
  | cont => obtain ⟨σ', H', I, q⟩ := h; exact ⟨σ', H', I.unwish, q⟩
  | ret u => obtain ⟨v, σ', H', I, r, q⟩ := h; exact ⟨v, σ', H', I.unwish, r, q⟩
theorem PSs.nox {st : List Stmt} {t : TS} (h : PSs X.nox st t) : PSs X st t := fun pins s σ H D I hw =>
  wpAny_mono (h pins s σ H D (I.wish _) hw) (fun _ _ q => q.unwish) fun _ _ z => False.elim z
end

/-! ### blocks and small statements -/
section
variable {X : Cx} {st : Stmt} {rest : List Stmt} {t u : TS} {e : Expr} {te : TE} {pos : Pos}
def tNext : TS := fun D σ H => D.nx σ H
def tSeq (t u : TS) : TS := fun D σ H => t { D with nx := u D } σ H
theorem pss_nil : PSs X [] tNext := fun _ _ σ H _ I h => wpAny_execs_nil ⟨σ, H, I, h⟩
theorem pss_cons (h1 : PS X st t) (h2 : PSs X rest u) : PSs X (st :: rest) (tSeq t u) := by
  intro pins s σ H D I h
  refine wpAny_execs_cons (thn (h1 pins s σ H { D with nx := u D } I h) fun f s1 q => ?_)
  cases f with
  | next =>
    obtain ⟨σ', H', I', q⟩ := q
    exact h2 pins s1 σ' H' D I' q
  | ret v => exact q
  | brk => exact q
  | cont => exact q
theorem pss_one (h1 : PS X st t) : PSs X [st] t := by
  intro pins s σ H D I h
  refine wpAny_execs_cons (thn (h1 pins s σ H D I h) fun f s1 q => ?_)
  cases f with
  | next => exact wpAny_execs_nil q
  | ret v => exact q
  | brk => exact q
  | cont => exact q
/-- in a def's body nothing is shown -/
theorem Inv.quiet {pins : List (Addr × Obj)} {σ : St} {H : Hp} {s : Shared} (I : Inv X pins σ H s) : interactive X.env = false := by simp [interactive, I.ok.kind]
/-- an expression whose value is dropped -/
def tDrop (te : TE) : TS := fun D σ H => te σ H fun _ H1 => D.nx σ H1
theorem ps_expr (he : PE X e te) (hs : swapsWith e none pos.line X.env = pure false := by rfl) : PS X (.Expr e pos) (tDrop te) := by
  intro pins s σ H D I h
  exact wpAny_Expr_any (thn (he pins s σ H _ I h) fun v s1 ⟨x, H1, I1, r1, q1⟩ => ⟨σ, H1, I1, q1⟩) I.quiet hs
def tRet (te : TE) : TS := fun D σ H => te σ H D.rt
theorem ps_ret (he : PE X e te) : PS X (.Return (some e) pos) (tRet te) := by
  intro pins s σ H D I h
  exact wpAny_Return_some (thn (he pins s σ H _ I h) fun v s1 ⟨x, H1, I1, r1, q1⟩ => ⟨x, σ, H1, I1, r1, q1⟩)
def tIfS (c : TT) (t u : TS) : TS := fun D σ H => c σ H fun b H1 => if b = true then t D σ H1 else u D σ H1
theorem ps_if {c : Expr} {a b : List Stmt} {tc : TT} (hc : PT X c tc) (ha : PSs X a t) (hb : PSs X b u) : PS X (.If c a b pos) (tIfS tc t u) := by
  intro pins s σ H D I h
  refine wpAny_If (thn (hc pins s σ H _ I h) fun d s1 ⟨H1, I1, q1⟩ => ?_)
  cases d with
  | true => exact ha pins s1 σ H1 D I1 q1
  | false => exact hb pins s1 σ H1 D I1 q1
end

/-! ### targets -/
abbrev TG := V → St → Hp → (St → Hp → Prop) → Prop
abbrev TGs := List V → St → Hp → (St → Hp → Prop) → Prop
def PG (X : Cx) (target : Expr) (t : TG) : Prop :=
  ∀ (pins : List (Addr × Obj)) (s : Shared) (σ : St) (H : Hp) (v : V) (u : Value) (Q : St → Hp → Prop), Inv X pins σ H s → RelV v u → t v σ H Q →
    wpAny (model X.prog X.w) X.A (assign target X.env u) (fun _ s' => ∃ σ' H', Inv X pins σ' H' s' ∧ Q σ' H') X.xe s
/-- several targets, one after another -/
def PGs (X : Cx) (ts : List Expr) (t : TGs) : Prop :=
  ∀ (pins : List (Addr × Obj)) (s : Shared) (σ : St) (H : Hp) (vs : List V) (us : List Value) (Q : St → Hp → Prop), Inv X pins σ H s → Vals vs us → t vs σ H Q →
    wpAny (model X.prog X.w) X.A (assignInOrder ((assignEach ts X.env).map (·.2)) us) (fun _ s' => ∃ σ' H', Inv X pins σ' H' s' ∧ Q σ' H') X.xe s
/-- o[i] = v, by values -/
abbrev TSet := V → V → V → Hp → (Hp → Prop) → Prop
def PSet (X : Cx) (t : TSet) : Prop :=
  ∀ (pins : List (Addr × Obj)) (s : Shared) (σ : St) (H : Hp) (o i v : V) (ov iv u : Value) (Q : Hp → Prop), Inv X pins σ H s → RelV o ov → RelV i iv → RelV v u → t o i v H Q →
    wpAny (model X.prog X.w) X.A (setItem ov iv u) (fun _ s' => ∃ H', Inv X pins σ H' s' ∧ Q H') X.xe s
section
variable {X : Cx} {pos : Pos}
def gName (i : Nat) : TG := fun v σ H Q => Q (σ.set i (some v)) H
theorem pg_name {i : Nat} {x : Str} (hN : X.N.Nodup) (hi : X.N[i]? = some x := by rfl) (hx : Loc X.env.scope x := by first | exact .inl rfl | exact .inr rfl) (hf : X.fn x = true ∨ X.env.scope.names.lookup x = some .local := by first | exact .inl rfl | exact .inr rfl | assumption) : PG X (.Name x pos) (gName i) := by
  intro pins s σ H v u Q I r h
  exact wpAny_assign_Name (store_ok I hN hi hx r (fun s' I' => ⟨_, H, I', h⟩) hf)
def gNil : TGs := fun vs σ H Q => vs = [] ∧ Q σ H
def gCons (t : TG) (u : TGs) : TGs := fun vs σ H Q => ∃ v r, vs = v :: r ∧ t v σ H fun σ' H' => u r σ' H' Q
theorem pgs_nil : PGs X [] gNil := by
  intro pins s σ H vs us Q I r h
  obtain ⟨e, h⟩ := h
  subst e
  cases r
  exact assignInOrder_nil ⟨σ, H, I, h⟩
theorem pgs_cons {e : Expr} {es : List Expr} {t : TG} {u : TGs} (h1 : PG X e t) (h2 : PGs X es u)
    (hs : (assignEach (e :: es) X.env).map (·.2) = assign e X.env :: (assignEach es X.env).map (·.2) := by rfl) : PGs X (e :: es) (gCons t u) := by
  intro pins s σ H vs us Q I r h
  obtain ⟨v, vr, e1, h⟩ := h
  subst e1
  cases r with
  | cons r rr =>
    rw [hs]
    refine assignInOrder_cons (thn (h1 pins s σ H _ _ _ I r h) fun _ s1 ⟨σ1, H1, I1, q1⟩ => ?_)
    exact h2 pins s1 σ1 H1 _ _ Q I1 rr q1
/-- (a, b, ..) = a tuple of that length -/
def gTup (K : PySem.W.Frag) (n : Nat) (t : TGs) : TG := fun v σ H Q => ∃ a xs, v = .ref a ∧ SqT K H a xs ∧ xs.length = n ∧ t xs σ H Q
theorem pg_tup {es : List Expr} {k : Nat} {t : TGs} {n : Nat} (hc : X.calm = true) (h : PGs X es t)
    (hn : (assignEach es X.env).length = n := by rfl) (hst : (assignEach es X.env).findIdx? (·.1) = none := by rfl) : PG X (.Tuple es k pos) (gTup X.K n t) := by
  intro pins s σ H v u Q I r hw
  obtain ⟨a, xs, e1, hq, hl, hw⟩ := hw
  subst e1
  cases r
  obtain ⟨its, rv, ht, hz⟩ := I.tuple hq
  refine assign_Tuple_tuple (I.ok.hd hc) ht (by simp [hn, ← hl, rv.length]) hst fun h' hx => ?_
  have I1 : Inv X pins σ H { s with heap := h' } := I.kept (t' := s.toks) fun b o e => hx b o (Nat.ne_of_lt (Heap.lt_size e)) e
  exact h pins _ σ H xs _ Q I1 (by simpa using rv) hw
/-- o[i] = .. -/
def gSub (to ti : TE) (t : TSet) : TG := fun v σ H Q => to σ H fun o H1 => ti σ H1 fun i H2 => t o i v H2 fun H3 => Q σ H3
theorem pg_sub {o i : Expr} {to ti : TE} {t : TSet} (ho : PE X o to) (hi : PE X i ti) (hs : PSet X t)
    (ha : ∀ v, assign (.Subscript o i pos) X.env v = (do
      let ov ← holding [v] (eval o X.env)
      let iv ← holding [v, ov] (eval i X.env)
      standAt pos
      holding [v, ov, iv] (setItem ov iv v)
      release [v, ov, iv] []) := by intro _; rfl) : PG X (.Subscript o i pos) (gSub to ti t) := by
  intro pins s σ H v u Q I r h
  rw [ha]
  refine wpAny_bind (wpAny_holding (thn (ho pins s σ H _ I h) fun ov s1 ⟨x, H1, I1, r1, q1⟩ => ?_))
  refine wpAny_bind (wpAny_holding (thn (hi pins s1 σ H1 _ I1 q1) fun iv s2 ⟨y, H2, I2, r2, q2⟩ => ?_))
  refine wpAny_bind (wpAny_standAt (wpAny_bind (wpAny_holding (thn (hs pins s2 σ H2 x y v ov iv u _ I2 r1 r2 r q2) fun _ s3 ⟨H3, I3, q3⟩ => ?_))))
  exact wpAny_release ⟨σ, H3, I3, q3⟩
/-- target = value -/
def tAsg (te : TE) (g : TG) : TS := fun D σ H => te σ H fun x H1 => g x σ H1 D.nx
theorem ps_asg {tg e : Expr} {te : TE} {g : TG} (he : PE X e te) (hg : PG X tg g) (hs : swapsWithSole [tg] e pos.line X.env = pure false := by rfl) (hw : swappedStores [tg] e X.env = pure none := by rfl)
    (h1 : (assignEach [tg] X.env).map (·.2) = [assign tg X.env] := by rfl) : PS X (.Assign [tg] e pos) (tAsg te g) := by
  intro pins s σ H D I h
  refine wpAny_Assign_stores (thn (he pins s σ H _ I h) fun v s1 ⟨x, H1, I1, r1, q1⟩ => ?_) hs hw
  rw [h1]
  exact thn (hg pins s1 σ H1 x v _ I1 r1 q1) fun _ s2 q => q
/-- name = value -/
theorem ps_set {i : Nat} {x : Str} {e : Expr} {te : TE} {pos' : Pos} (hN : X.N.Nodup) (he : PE X e te) (hi : X.N[i]? = some x := by rfl) (hx : Loc X.env.scope x := by first | exact .inl rfl | exact .inr rfl) (hs : swapsWith e (some (.Name x pos')) pos.line X.env = pure false := by rfl) (hf : X.fn x = true ∨ X.env.scope.names.lookup x = some .local := by first | exact .inl rfl | exact .inr rfl | assumption) :
    PS X (.Assign [.Name x pos'] e pos) (tAsg te (gName i)) := by
  intro pins s σ H D I h
  refine wpAny_Assign_Name (thn (he pins s σ H _ I h) fun v s1 ⟨y, H1, I1, r1, q1⟩ => ?_) hs
  exact store_ok I1 hN hi hx r1 (fun s2 I2 => ⟨_, H1, I2, q1⟩) hf
end

/-! ### while -/
section
variable {X : Cx} {pos : Pos}
/-- the invariant W with its measure -/
def tWhile (c : TT) (tb : TS) : TS := fun D σ H => ∃ W : Nat → St → Hp → Prop, (∃ m, W m σ H) ∧ ∀ m σ H, W m σ H →
  c σ H fun b H1 => if b = true then ∃ N : St → Hp → Prop, (∀ σ' H', N σ' H' → ∃ m', m' < m ∧ W m' σ' H') ∧ tb { D with nx := N, ct := N, bk := D.nx } σ H1 else D.nx σ H1
theorem ps_while {c : Expr} {body : List Stmt} {tc : TT} {tb : TS} (hp : PassesOwn (model X.prog X.w) X.A X.env X.xe) (hc : PT X c tc) (hb : PSs X body tb) : PS X (.While c body [] pos) (tWhile tc tb) := by
  intro pins s σ H D I h
  obtain ⟨W, ⟨m0, w0⟩, turn⟩ := h
  refine wpAny_While (codeAny_whileLoop (fun n s' => ∃ σ' H', Inv X pins σ' H' s' ∧ W n σ' H') ?_ m0 ⟨σ, H, I, w0⟩)
  rintro n s1 ⟨σ1, H1, I1, w1⟩
  refine wpAny_passesOwn hp (thn (hc pins s1 σ1 H1 _ I1 (turn n σ1 H1 w1)) fun b s2 ⟨H2, I2, q2⟩ => ?_)
  cases b with
  | true =>
    obtain ⟨N, hN, q2⟩ := q2
    rw [if_pos rfl]
    refine wpAny_passesOwn hp (thn (hb pins s2 σ1 H2 _ I2 q2) fun f s3 q3 => ?_)
    cases f with
    | next =>
      obtain ⟨σ3, H3, I3, n3⟩ := q3
      obtain ⟨m', hm, w3⟩ := hN σ3 H3 n3
      exact ⟨m', hm, σ3, H3, I3, w3⟩
    | cont =>
      obtain ⟨σ3, H3, I3, n3⟩ := q3
      obtain ⟨m', hm, w3⟩ := hN σ3 H3 n3
      exact ⟨m', hm, σ3, H3, I3, w3⟩
    | brk => exact q3
    | ret v => exact q3
  | false =>
    rw [if_neg Bool.false_ne_true]
    exact wpAny_execs_nil ⟨σ1, H2, I2, q2⟩
end

/-! ### what a loop or a comprehension walks -/
/-- at turn i: it yields x (the heap may grow), or it stops -/
structure It where
  go : Nat → Hp → Prop
  yld : Nat → Hp → V → Hp → Prop
  stop : Nat → Hp → Prop
/-- the iterator's own objects may turn: they are not the frame's, not pinned, younger than the entry (or a comprehension's own) -/
def FpOk (X : Cx) (pins : List (Addr × Obj)) (H : Hp) (b : Addr) : Prop :=
  H b = none ∧ b ≠ X.env.locals ∧ b ∉ X.fs ∧ (b ∈ X.ex ∨ X.s₀.heap.objs.size ≤ b) ∧ (∀ x c, X.env.cells.lookup x = some c → c ≠ b) ∧ ∀ p ∈ X.pn ++ pins, p.1 ≠ b
theorem Inv.fpOk {X : Cx} {pins : List (Addr × Obj)} {σ : St} {H H' : Hp} {s : Shared} {b : Addr} (I : Inv X pins σ H s) (hb : s.heap.objs.size ≤ b) (hn : H' b = none) : FpOk X pins H' b := by
  refine ⟨hn, Nat.ne_of_gt (Nat.lt_of_lt_of_le I.lt hb), I.nofs hb, .inr (Nat.le_trans I.sz hb), fun x c e z => ?_, fun p hp z => ?_⟩
  · obtain ⟨v, q⟩ := I.cell x c e
    exact absurd (Nat.lt_of_lt_of_le q.lt (by rw [z]; exact hb)) (Nat.lt_irrefl _)
  · exact absurd (Nat.lt_of_lt_of_le (Heap.lt_size (I.pin p hp).1) (by rw [z]; exact hb)) (Nat.lt_irrefl _)
structure Turn (P : Program) (w : World) (K : PySem.W.Frag) (tg : Expr) (J : It) (fp : List Addr) (it : Addr) (tn : Nat → Heap → Prop) : Prop where
  mem : it ∈ fp
  obj : ∀ i h, tn i h → ∀ b ∈ fp, ∃ o, h.get? b = some o ∧ ∀ v, o.data ≠ .cell v
  keep : ∀ i h h', tn i h → (∀ b ∈ fp, ∀ o, h.get? b = some o → h'.get? b = some o) → tn i h'
  item : ∀ (X : Cx), X.prog = P → X.w = w → X.K = K → X.calm = true → ∀ (i : Nat) (pins : List (Addr × Obj)) (s : Shared) (σ : St) (H : Hp) (E : Value → Shared → Prop), Inv X pins σ H s → (∀ b ∈ fp, FpOk X pins H b) → tn i s.heap → J.go i H →
    wpAny (model P w) X.A (pyNext (.ref it)) (fun r s1 => ∃ u, r = some u ∧
      wpAny (model P w) X.A (letOwnedTupleGo tg (.ref it) u) (fun _ s2 => ∃ x H', Inv X pins σ H' s2 ∧ RelV x u ∧ J.yld i H x H' ∧ tn (i + 1) s2.heap ∧ ∀ b ∈ fp, H' b = none) E s1) E s
  done : ∀ (X : Cx), X.prog = P → X.w = w → X.K = K → X.calm = true → ∀ (i : Nat) (pins : List (Addr × Obj)) (s : Shared) (σ : St) (H : Hp) (E : Value → Shared → Prop), Inv X pins σ H s → (∀ b ∈ fp, FpOk X pins H b) → tn i s.heap → J.stop i H →
    wpAny (model P w) X.A (pyNext (.ref it)) (fun r s1 => r = none ∧ Inv X pins σ H s1) E s
  self : ∀ (A : Around) (i : Nat) (s : Shared) (Q : Value → Shared → Prop) (E : Value → Shared → Prop), tn i s.heap → Q (.ref it) s → wpAny (model P w) A (pyIter (.ref it)) Q E s
abbrev TI := St → Hp → (It → Hp → Prop) → Prop
/-- an iterator has come -/
def PIE (X : Cx) (pins : List (Addr × Obj)) (σ : St) (tg : Expr) (R : It → Hp → Prop) (itv : Value) (s2 : Shared) : Prop :=
  ∃ (it : Addr) (fp : List Addr) (tn : Nat → Heap → Prop) (J : It) (H' : Hp), itv = .ref it ∧ Inv X pins σ H' s2 ∧ Turn X.prog X.w X.K tg J fp it tn ∧ tn 0 s2.heap ∧ (∀ b ∈ fp, FpOk X pins H' b) ∧ R J H'
def PI (X : Cx) (tg iter : Expr) (wi : TI) : Prop :=
  ∀ (pins : List (Addr × Obj)) (s : Shared) (σ : St) (H : Hp) (R : It → Hp → Prop), Inv X pins σ H s → wi σ H R →
    wpAny (model X.prog X.w) X.A (eval iter X.env) (fun v s1 => wpAny (model X.prog X.w) X.A (pyIter v) (PIE X pins σ tg R) X.xe s1) X.xe s

/-- the step ahead of the store is nothing for an iterator that keeps no tuple -/
theorem go_of {M : Model} {A : Around} {E : Value → Shared → Prop} {s : Shared} {tg : Expr} {it : Addr} {u : Value} {o : Obj} {n : String} {vs : Array Value} {Q : Unit → Shared → Prop} (ho : s.heap.get? it = some o) (hc : o.cls = .type n) (hd : o.data = .fields vs)
    (hn : ["enumerate", "zip", "dict_itemiterator", "dict_reverseitemiterator", "odict_iterator", "itertools.zip_longest", "itertools.pairwise"].contains n = false) (hQ : Q () s) : wpAny M A (letOwnedTupleGo tg (.ref it) u) Q E s := by
  unfold letOwnedTupleGo
  cases tg <;> first
    | exact wpAny_pure hQ
    | (cases u <;> first
        | exact wpAny_pure hQ
        | (refine wpAny_bind (wpAny_load ho ?_)
           rw [hc, hd]
           show wpAny M A (if (["enumerate", "zip", "dict_itemiterator", "dict_reverseitemiterator", "odict_iterator", "itertools.zip_longest", "itertools.pairwise"].contains n && vs[0]? == some (rawInt _)) = true then _ else _) Q E s
           rw [if_neg (by intro h; rw [hn, Bool.false_and] at h; cases h)]
           exact wpAny_pure hQ))

/-- the list at a, as it stands at each turn (a loop may append to it) -/
def Itl (K : PySem.W.Frag) (a : Addr) : It :=
  ⟨fun i H => ∃ xs x, SqL K H a xs ∧ xs[i]? = some x, fun i H x H' => H' = H ∧ ∀ xs, SqL K H a xs → xs[i]? = some x, fun i H => ∃ xs, SqL K H a xs ∧ xs.length ≤ i⟩
/-- lo, lo + 1, .. (n of them) -/
def Itr (lo : Int) (n : Nat) : It := ⟨fun i _ => i < n, fun i H x H' => H' = H ∧ x = .int (lo + i), fun i _ => n ≤ i⟩
theorem turn_list {P : Program} {w : World} {K : PySem.W.Frag} {tg : Expr} (a it : Addr) : Turn P w K tg (Itl K a) [it] it (fun i h => h.IsListIter it a i) where
  mem := by simp
  obj := fun i h st b hb => by
    have e : b = it := by simpa using hb
    subst e
    obtain ⟨o, e, c, d⟩ := st
    exact ⟨o, e, fun v z => by rw [d] at z; cases z⟩
  keep := fun i h h' st k => st.at fun o e => k it (by simp) o e
  item := by
    intro X hP hw hK hc i pins s σ H E I hf st hg
    subst hP hw hK
    obtain ⟨xs, x, hq, hx⟩ := hg
    obtain ⟨its, rv, p, hz⟩ := I.list hq
    obtain ⟨u, hu, ru⟩ := rv.get hx
    obtain ⟨f0, f1, f2, f3, f4, f5⟩ := hf it (by simp)
    refine wpAny_pyNext_list_item st p.isList (x := u) (by simpa using hu) fun h' st' sb => ?_
    have I1 : Inv X pins σ H { s with heap := h' } := I.turned (t' := s.toks) (fun b o hb e => (sb.2 b hb).trans e) f0 f1 f3 f4 f5
    obtain ⟨o, e, c, d⟩ := id st'
    exact ⟨u, rfl, go_of (s := { s with heap := h' }) e c d (by decide) ⟨x, H, I1, ru, ⟨rfl, fun ys hy => by rw [I.list_inj hy hq]; exact hx⟩, st', fun b hb => (hf b hb).1⟩⟩
  done := by
    intro X hP hw hK hc i pins s σ H E I hf st hg
    subst hP hw hK
    obtain ⟨xs, hq, hx⟩ := hg
    obtain ⟨its, rv, p, hz⟩ := I.list hq
    obtain ⟨f0, f1, f2, f3, f4, f5⟩ := hf it (by simp)
    have hl := rv.length
    exact wpAny_pyNext_list_end (I.ok.hd hc) st p.isList (by simp; omega) fun h' eb => ⟨rfl, I.turned (t' := s.toks) (fun b o hb e => eb b o hb e) f0 f1 f3 f4 f5⟩
  self := fun _ _ _ _ _ st h => wpAny_pyIter_listiter st h
theorem turn_range {P : Program} {w : World} {K : PySem.W.Frag} {tg : Expr} (it : Addr) (lo : Int) (n : Nat) : Turn P w K tg (Itr lo n) [it] it (fun i h => IsRangeIter h it (lo + (i : Nat) * 1) ((n : Int) - (i : Nat)) 1) where
  mem := by simp
  obj := fun i h st b hb => by
    have e : b = it := by simpa using hb
    subst e
    exact ⟨_, st, fun v z => by
      have z' : Data.fields _ = Data.cell v := z
      cases z'⟩
  keep := fun i h h' st k => k it (by simp) _ st
  item := by
    intro X hP hw hK hc i pins s σ H E I hf st hg
    subst hP hw hK
    obtain ⟨f0, f1, f2, f3, f4, f5⟩ := hf it (by simp)
    have W := Walks.range (prog := X.prog) (w := X.w) (I.ok.hd hc) it lo 1 n
    refine W.item i s _ _ hg st fun v h' tk hv st' kk => ?_
    obtain ⟨t, rfl⟩ := hv
    have I1 : Inv X pins σ H { s with heap := h', toks := tk } := I.turned (fun b o hb e => kk b o (by simpa using hb) e) f0 f1 f3 f4 f5
    refine ⟨_, rfl, go_of (s := { s with heap := h', toks := tk }) (n := "range_iterator") st' rfl rfl (by decide) ⟨.int (lo + i), H, I1, ⟨t, ?_⟩, ⟨rfl, rfl⟩, st', fun b hb => (hf b hb).1⟩⟩
    rw [Int.mul_one]
  done := by
    intro X hP hw hK hc i pins s σ H E I hf st hg
    subst hP hw hK
    obtain ⟨f0, f1, f2, f3, f4, f5⟩ := hf it (by simp)
    exact wpAny_pyNext_range_end (I.ok.hd hc) st (by have : n ≤ i := hg; omega) fun h' eb => ⟨rfl, I.turned (t' := s.toks) (fun b o hb e => eb b o hb e) f0 f1 f3 f4 f5⟩
  self := fun _ _ _ _ _ st h => wpAny_pyIter_rangeiter st h
end L2

namespace L2
open PySem PySem.Spec PyProof.Rows
section
variable {X : Cx} {tg : Expr}
def iList (K : PySem.W.Frag) (tl : TE) : TI := fun σ H R => tl σ H fun x H1 => ∃ a, x = .ref a ∧ (∃ xs, SqL K H1 a xs) ∧ R (Itl K a) H1
theorem pi_list {l : Expr} {tl : TE} (hl : PE X l tl) : PI X tg l (iList X.K tl) := by
  intro pins s σ H R I h
  refine thn (hl pins s σ H _ I h) fun v s1 ⟨x, H1, I1, r1, q1⟩ => ?_
  obtain ⟨a, e, ⟨xs, hq⟩, q⟩ := q1
  subst e
  cases r1
  obtain ⟨its, rv, p, hz⟩ := I1.list hq
  refine wpAny_pyIter_list p.isList ?_
  refine ⟨s1.heap.objs.size, [s1.heap.objs.size], _, _, H1, rfl, I1.kept (t' := s1.toks) fun b o e => Heap.get?_push_of_some _ e, turn_list a _, ⟨_, Heap.get?_push_size _ rfl, rfl, rfl⟩, fun b hb => ?_, q⟩
  have e : b = s1.heap.objs.size := by simpa using hb
  subst e
  exact I1.fpOk (Nat.le_refl _) (I1.hok.fresh (Nat.le_refl _))
/-- a range object just made, walked -/
theorem range_it {pins : List (Addr × Obj)} {σ : St} {H : Hp} {s : Shared} {R : It → Hp → Prop} {E : Value → Shared → Prop} {lo hi : Int} {t u v : Tok} {tk : Nat} (I : Inv X pins σ H s) (h1 : -(2 ^ 62) ≤ lo) (h2 : lo < 2 ^ 62) (h3 : -(2 ^ 62) ≤ hi) (h4 : hi < 2 ^ 62)
    (q : R (Itr lo (hi - lo).toNat) H) : wpAny (model X.prog X.w) X.A (pyIter (.ref s.heap.objs.size)) (PIE X pins σ tg R) E { s with heap := s.heap.push { cls := .type "range", data := .fields #[.int lo t, .int hi u, .int 1 v] }, toks := tk } := by
  refine wpAny_pyIter_range (IsRange.new ..) (small_one h1 h2 h3 h4) ?_
  have I1 : Inv X pins σ H { s with heap := s.heap.push { cls := .type "range", data := .fields #[.int lo t, .int hi u, .int 1 v] }, toks := tk } := I.kept fun b o e => Heap.get?_push_of_some _ e
  refine ⟨(s.heap.push { cls := .type "range", data := .fields #[.int lo t, .int hi u, .int 1 v] }).objs.size, [(s.heap.push { cls := .type "range", data := .fields #[.int lo t, .int hi u, .int 1 v] }).objs.size], _, _, H, rfl,
    I1.kept (t' := tk) fun b o e => Heap.get?_push_of_some _ e, turn_range _ lo (hi - lo).toNat, ?_, fun b hb => ?_, q⟩
  · have e1 : lo + ((0 : Nat) : Int) * 1 = lo := by simp
    have e2 : (((hi - lo).toNat : Nat) : Int) - ((0 : Nat) : Int) = Builtin.Range.rangeSize lo hi 1 := by rw [rangeSize_one]; split <;> omega
    show IsRangeIter _ _ (lo + ((0 : Nat) : Int) * 1) ((((hi - lo).toNat : Nat) : Int) - ((0 : Nat) : Int)) 1
    rw [e1, e2]
    exact Heap.get?_push_size _ rfl
  · have e : b = (s.heap.push { cls := .type "range", data := .fields #[.int lo t, .int hi u, .int 1 v] }).objs.size := by simpa using hb
    subst e
    exact I1.fpOk (Nat.le_refl _) (I1.hok.fresh (Nat.le_refl _))
def iRng1 (ta : TA) : TI := fun σ H R => ta σ H fun vs H1 => ∃ j : Int, vs = [.int j] ∧ -(2 ^ 62) ≤ j ∧ j < 2 ^ 62 ∧ R (Itr 0 j.toNat) H1
theorem pi_range1 {a : Expr} {ta : TA} {p pos : Pos} (hg : Gl X "range") (hm : X.mg "range" = none) (ha : PA X [a] ta) (hs : starEach [a] X.env = [(false, eval a X.env)] := by rfl) : PI X tg (.Call (.Name "range" p) [a] [] pos) (iRng1 ta) := by
  intro pins s σ H R I h
  refine Call_ (ld_blt I hg hm boot_range (PyProof.Rows.callWith_type1 (thn (ha pos pins s σ H _ I h) fun us s1 ⟨vs, H1, I1, r1, q1⟩ => ?_) hs rfl))
  obtain ⟨j, e, q1, q2, q⟩ := q1
  subst e
  cases r1 with
  | cons r rr =>
    cases rr
    obtain ⟨t, rfl⟩ := r
    exact call_range_1 (range_it I1 (by omega) (by omega) q1 q2 (by simpa using q))

/-! ### for -/
/-- W: the invariant by the turn and a measure; N: what the body is to reach -/
def tFor (wi : TI) (g : TG) (tb : TS) : TS := fun D σ H => wi σ H fun J H1 => ∃ W : Nat → Nat → St → Hp → Prop, (∃ m, W 0 m σ H1) ∧ ∀ i m σ H, W i m σ H →
  (J.stop i H ∧ D.nx σ H) ∨ (J.go i H ∧ ∃ N : St → Hp → Prop, (∀ σ' H', N σ' H' → ∃ m', m' < m ∧ W (i + 1) m' σ' H') ∧ ∀ x H', J.yld i H x H' → g x σ H' fun σ2 H2 => tb { D with nx := N, ct := N, bk := D.nx } σ2 H2)
/-- the records at fp as they stand -/
def pinsAt (fp : List Addr) (h : Heap) : List (Addr × Obj) := fp.filterMap fun b => (h.get? b).map fun o => (b, o)
theorem mem_pinsAt {fp : List Addr} {h : Heap} {b : Addr} {o : Obj} (hb : b ∈ fp) (e : h.get? b = some o) : (b, o) ∈ pinsAt fp h := List.mem_filterMap.mpr ⟨b, hb, by rw [e]; rfl⟩
theorem of_pinsAt {fp : List Addr} {h : Heap} {p : Addr × Obj} (hp : p ∈ pinsAt fp h) : p.1 ∈ fp ∧ h.get? p.1 = some p.2 := by
  obtain ⟨b, hb, e⟩ := List.mem_filterMap.mp hp
  cases q : h.get? b with
  | none => rw [q] at e; cases e
  | some o =>
    rw [q] at e
    have e' : (b, o) = p := Option.some.inj e
    subst e'
    exact ⟨hb, q⟩
theorem Inv.pinned {pins : List (Addr × Obj)} {σ : St} {H : Hp} {s : Shared} {fp : List Addr} (I : Inv X pins σ H s) (hf : ∀ b ∈ fp, FpOk X pins H b) (ho : ∀ b ∈ fp, ∃ o, s.heap.get? b = some o ∧ ∀ v, o.data ≠ .cell v) : Inv X (pins ++ pinsAt fp s.heap) σ H s :=
  I.pins_of fun p hp => (List.mem_append.mp hp).elim (fun z => I.pin p (List.mem_append_right _ z)) fun z => by
    obtain ⟨hb, e⟩ := of_pinsAt z
    obtain ⟨f0, f1, f2, _⟩ := hf p.1 hb
    obtain ⟨o, e', d⟩ := ho p.1 hb
    rw [e] at e'; cases e'
    exact ⟨e, f0, f1, f2, d⟩
theorem Inv.unpinned {pins pl : List (Addr × Obj)} {σ : St} {H : Hp} {s : Shared} (I : Inv X (pins ++ pl) σ H s) : Inv X pins σ H s := I.pins_of fun p hp => I.pin p (List.mem_append_right _ (List.mem_append_left _ hp))
theorem ps_for {iter : Expr} {body : List Stmt} {wi : TI} {g : TG} {tb : TS} {pos : Pos} (hp : PassesOwn (model X.prog X.w) X.A X.env X.xe) (hc : X.calm = true) (hi : PI X tg iter wi) (hg : PG X tg g) (hb : PSs X body tb)
    (hs : ∀ x, foldedSetIterable iter X.env x = pure x := by intro _; rfl) : PS X (.For tg iter body [] pos) (tFor wi g tb) := by
  intro pins s σ H D I h
  refine wpAny_For (thn (hi pins s σ H _ I h) fun v s1 h1 => thn h1 fun itv s2 h2 => ?_) hs
  obtain ⟨it, fp, tn, J, H2, e, I2, T, st2, f2, W, ⟨m0, w0⟩, turn⟩ := h2
  subst e
  -- what stays true of the iterator's objects through the loop
  have stat : ∀ {H' : Hp}, (∀ b ∈ fp, H' b = none) → ∀ b ∈ fp, FpOk X pins H' b := fun hn b hb => ⟨hn b hb, (f2 b hb).2⟩
  refine codeAny_forLoop_any (fun n s' => ∃ i σ' H', Inv X pins σ' H' s' ∧ tn i s'.heap ∧ (∀ b ∈ fp, H' b = none) ∧ W i n σ' H') ?_ m0 ⟨0, σ, H2, I2, st2, fun b hb => (f2 b hb).1, w0⟩
  rintro n s3 ⟨i, σ3, H3, I3, st3, fr3, w3⟩
  rcases turn i n σ3 H3 w3 with ⟨stop, qn⟩ | ⟨go, N, hN, step⟩
  · refine wpAny_passesOwn hp (thn (T.done X rfl rfl rfl hc i pins s3 σ3 H3 X.xe I3 (stat fr3) st3 stop) fun r s4 ⟨hr, I4⟩ => ?_)
    subst hr
    exact wpAny_execs_nil ⟨σ3, H3, I4, qn⟩
  · refine wpAny_passesOwn hp (thn (T.item X rfl rfl rfl hc i pins s3 σ3 H3 X.xe I3 (stat fr3) st3 go) fun r s4 ⟨u, hr, h4⟩ => ?_)
    subst hr
    refine wpAny_passesOwn hp (thn h4 fun _ s5 ⟨x, H5, I5, r5, y5, st5, fr5⟩ => ?_)
    have I5' := I5.pinned (stat fr5) (T.obj _ _ st5)
    refine wpAny_passesOwn hp (thn (hg _ s5 σ3 H5 x u _ I5' r5 (step x H5 y5)) fun _ s6 ⟨σ6, H6, I6, q6⟩ => ?_)
    refine wpAny_passesOwn hp (thn (hb _ s6 σ6 H6 _ I6 q6) fun f s7 q7 => ?_)
    have again : ∀ {σ7 : St} {H7 : Hp}, Inv X (pins ++ pinsAt fp s5.heap) σ7 H7 s7 → N σ7 H7 → ∃ m, m < n ∧ ∃ i σ' H', Inv X pins σ' H' s7 ∧ tn i s7.heap ∧ (∀ b ∈ fp, H' b = none) ∧ W i m σ' H' := fun {σ7 H7} I7 n7 => by
      obtain ⟨m', hm, w7⟩ := hN σ7 H7 n7
      refine ⟨m', hm, i + 1, σ7, H7, I7.unpinned, T.keep _ _ _ st5 fun b hb o e => (I7.pin (b, o) (List.mem_append_right _ (List.mem_append_right _ (mem_pinsAt hb e)))).1, fun b hb => ?_, w7⟩
      obtain ⟨o, e, d⟩ := T.obj _ _ st5 b hb
      exact (I7.pin (b, o) (List.mem_append_right _ (List.mem_append_right _ (mem_pinsAt hb e)))).2.1
    cases f with
    | next => obtain ⟨σ7, H7, I7, n7⟩ := q7; exact again I7 n7
    | cont => obtain ⟨σ7, H7, I7, n7⟩ := q7; exact again I7 n7
    | brk => obtain ⟨σ7, H7, I7, q7⟩ := q7; exact ⟨σ7, H7, I7.unpinned, q7⟩
    | ret v => obtain ⟨x7, σ7, H7, I7, r7, q7⟩ := q7; exact ⟨x7, σ7, H7, I7.unpinned, r7, q7⟩
end

/-! ### the forms one uses -/
/-- over a list that the body leaves as it is -/
theorem for_list {K : PySem.W.Frag} {a : Addr} {xs : List V} {g : TG} {tb : TS} {D : Ends} {σ : St} {H : Hp} (Pv : Nat → St → Hp → Prop) (h0 : Pv 0 σ H) (hl : ∀ i σ H, i ≤ xs.length → Pv i σ H → SqL K H a xs)
    (hs : ∀ i x σ H, xs[i]? = some x → Pv i σ H → g x σ H fun σ2 H2 => tb { D with nx := Pv (i + 1), ct := Pv (i + 1), bk := D.nx } σ2 H2) (hd : ∀ σ H, Pv xs.length σ H → D.nx σ H) :
    ∃ W : Nat → Nat → St → Hp → Prop, (∃ m, W 0 m σ H) ∧ ∀ i m σ H, W i m σ H →
      ((Itl K a).stop i H ∧ D.nx σ H) ∨ ((Itl K a).go i H ∧ ∃ N : St → Hp → Prop, (∀ σ' H', N σ' H' → ∃ m', m' < m ∧ W (i + 1) m' σ' H') ∧ ∀ x H', (Itl K a).yld i H x H' → g x σ H' fun σ2 H2 => tb { D with nx := N, ct := N, bk := D.nx } σ2 H2) := by
  refine ⟨fun i m σ H => m = xs.length - i ∧ i ≤ xs.length ∧ Pv i σ H, ⟨xs.length, by simp, Nat.zero_le _, h0⟩, ?_⟩
  rintro i m σ H ⟨rfl, hi, p⟩
  have q := hl i σ H hi p
  by_cases hlt : i < xs.length
  · refine .inr ⟨⟨xs, xs[i], q, by simp [hlt]⟩, Pv (i + 1), fun σ' H' p' => ⟨xs.length - (i + 1), by omega, rfl, hlt, p'⟩, fun x H' y => ?_⟩
    obtain ⟨e, y⟩ := y
    subst e
    exact hs i x σ _ (y xs q) p
  · have e : i = xs.length := by omega
    subst e
    exact .inl ⟨⟨xs, q, Nat.le_refl _⟩, hd σ H p⟩
theorem for_range {lo : Int} {n : Nat} {g : TG} {tb : TS} {D : Ends} {σ : St} {H : Hp} (Pv : Nat → St → Hp → Prop) (h0 : Pv 0 σ H)
    (hs : ∀ i σ H, i < n → Pv i σ H → g (.int (lo + i)) σ H fun σ2 H2 => tb { D with nx := Pv (i + 1), ct := Pv (i + 1), bk := D.nx } σ2 H2) (hd : ∀ σ H, Pv n σ H → D.nx σ H) :
    ∃ W : Nat → Nat → St → Hp → Prop, (∃ m, W 0 m σ H) ∧ ∀ i m σ H, W i m σ H →
      ((Itr lo n).stop i H ∧ D.nx σ H) ∨ ((Itr lo n).go i H ∧ ∃ N : St → Hp → Prop, (∀ σ' H', N σ' H' → ∃ m', m' < m ∧ W (i + 1) m' σ' H') ∧ ∀ x H', (Itr lo n).yld i H x H' → g x σ H' fun σ2 H2 => tb { D with nx := N, ct := N, bk := D.nx } σ2 H2) := by
  refine ⟨fun i m σ H => m = n - i ∧ i ≤ n ∧ Pv i σ H, ⟨n, by simp, Nat.zero_le _, h0⟩, ?_⟩
  rintro i m σ H ⟨rfl, hi, p⟩
  by_cases hlt : i < n
  · refine .inr ⟨hlt, Pv (i + 1), fun σ' H' p' => ⟨n - (i + 1), by omega, rfl, hlt, p'⟩, fun x H' y => ?_⟩
    obtain ⟨e, y⟩ := y
    subst e y
    exact hs i σ _ hlt p
  · have e : i = n := by omega
    subst e
    exact .inl ⟨Nat.le_refl _, hd σ H p⟩
end L2

namespace L2
open PySem PySem.Spec PyProof.Rows

abbrev R2 := V → V → Hp → VK → Prop
/-- a two-place operation on values: f is binaryOp op, inplaceOp op or compareOp op -/
def OpR (X : Cx) (f : Value → Value → Sem Value) (r : R2) : Prop :=
  ∀ (pins : List (Addr × Obj)) (s : Shared) (σ : St) (H : Hp) (x y : V) (v u : Value) (Q : VK), Inv X pins σ H s → RelV x v → RelV y u → r x y H Q →
    wpAny (model X.prog X.w) X.A (f v u) (EP X pins σ Q) X.xe s
/-- a one-place operation -/
def UnR (X : Cx) (f : Value → Sem Value) (r : V → Hp → VK → Prop) : Prop :=
  ∀ (pins : List (Addr × Obj)) (s : Shared) (σ : St) (H : Hp) (x : V) (v : Value) (Q : VK), Inv X pins σ H s → RelV x v → r x H Q →
    wpAny (model X.prog X.w) X.A (f v) (EP X pins σ Q) X.xe s
/-- a call of a value that is known (a builtin, a type) with values -/
def CallR (X : Cx) (f : Value) (r : List V → Hp → VK → Prop) : Prop :=
  ∀ (pins : List (Addr × Obj)) (s : Shared) (σ : St) (H : Hp) (xs : List V) (us : List Value) (Q : VK), Inv X pins σ H s → Vals xs us → r xs H Q →
    wpAny (model X.prog X.w) X.A (call f us) (EP X pins σ Q) X.xe s
/-- a value's truth -/
def TruR (X : Cx) (r : V → Hp → (Bool → Hp → Prop) → Prop) : Prop :=
  ∀ (pins : List (Addr × Obj)) (s : Shared) (σ : St) (H : Hp) (x : V) (v : Value) (Q : Bool → Hp → Prop), Inv X pins σ H s → RelV x v → r x H Q →
    wpAny (model X.prog X.w) X.A (truthy v) (TP X pins σ Q) X.xe s

def tOp (r : R2) (ta tb : TE) : TE := fun σ H Q => ta σ H fun x H1 => tb σ H1 fun y H2 => r x y H2 Q
def tUn (r : V → Hp → VK → Prop) (ta : TE) : TE := fun σ H Q => ta σ H fun x H1 => r x H1 Q
/-- ints in, under C, and a value out -/
def rI (C : Int → Int → Prop) (g : Int → Int → V) : R2 := fun x y H Q => ∃ i j, x = .int i ∧ y = .int j ∧ C i j ∧ Q (g i j) H
def rI0 (g : Int → Int → V) : R2 := fun x y H Q => ∃ i j, x = .int i ∧ y = .int j ∧ Q (g i j) H
def rU (g : Int → V) : V → Hp → VK → Prop := fun x H Q => ∃ i, x = .int i ∧ Q (g i) H

section
variable {X : Cx} {a b c : Expr} {ta tb tc : TE} {pos : Pos}

theorem binT (ha : PE X a ta) (hb : PE X b tb) {pins : List (Addr × Obj)} {s : Shared} {σ : St} {H : Hp} {R : V → V → Hp → Prop} (I : Inv X pins σ H s)
    (h : ta σ H fun x H1 => tb σ H1 fun y H2 => R x y H2) {Q : Value → Shared → Prop} {f : Value → Value → Sem Value}
    (hf : ∀ v u s2 x y H2, Inv X pins σ H2 s2 → RelV x v → RelV y u → R x y H2 → wpAny (model X.prog X.w) X.A (f v u) Q X.xe s2) :
    wpAny (model X.prog X.w) X.A (eval a X.env) (fun v s₁ => wpAny (model X.prog X.w) X.A (eval b X.env) (fun u s₂ => wpAny (model X.prog X.w) X.A (f v u) Q X.xe s₂) X.xe s₁) X.xe s := by
  refine thn (ha pins s σ H _ I h) fun v s1 ⟨x, H1, I1, r1, q1⟩ => ?_
  refine thn (hb pins s1 σ H1 _ I1 q1) fun u s2 ⟨y, H2, I2, r2, q2⟩ => ?_
  exact hf v u s2 x y H2 I2 r1 r2 q2

theorem pe_op {op : Operator} {r : R2} (ho : OpR X (binaryOp op) r) (ha : PE X a ta) (hb : PE X b tb) : PE X (.BinOp a op b pos) (tOp r ta tb) := by
  intro pins s σ H Q I h
  exact wpAny_BinOp (binT ha hb I h fun v u s2 x y H2 I2 rx ry q => ho pins s2 σ H2 x y v u Q I2 rx ry q)
theorem pe_un {op : UnaryOp} {r : V → Hp → VK → Prop} (ho : UnR X (unaryOp op) r) (ha : PE X a ta) : PE X (.UnaryOp op a pos) (tUn r ta) := by
  intro pins s σ H Q I h
  exact UnaryOp_ (thn (ha pins s σ H _ I h) fun v s1 ⟨x, H1, I1, r1, q1⟩ => ho pins s1 σ H1 x v Q I1 r1 q1)

/-! ### ints -/
theorem opI {f : Value → Value → Sem Value} {C : Int → Int → Prop} {g : Int → Int → Int}
    (rule : ∀ (i j : Int) (t u : Tok) (s : Shared) (Q : Value → Shared → Prop) (E : Value → Shared → Prop), C i j → Q (.int (g i j) s.toks) { s with toks := s.toks + 1 } → wpAny (model X.prog X.w) X.A (f (.int i t) (.int j u)) Q E s) :
    OpR X f (rI C fun i j => .int (g i j)) := by
  intro pins s σ H x y v u Q I rx ry h
  obtain ⟨i, j, rfl, rfl, hc, q⟩ := h
  obtain ⟨t, rfl⟩ := rx
  obtain ⟨t', rfl⟩ := ry
  exact rule i j t t' s _ _ hc ⟨.int (g i j), H, I.tok _, ⟨_, rfl⟩, q⟩
theorem opI0 {f : Value → Value → Sem Value} {g : Int → Int → Int}
    (rule : ∀ (i j : Int) (t u : Tok) (s : Shared) (Q : Value → Shared → Prop) (E : Value → Shared → Prop), Q (.int (g i j) s.toks) { s with toks := s.toks + 1 } → wpAny (model X.prog X.w) X.A (f (.int i t) (.int j u)) Q E s) :
    OpR X f (rI0 fun i j => .int (g i j)) := by
  intro pins s σ H x y v u Q I rx ry h
  obtain ⟨i, j, rfl, rfl, q⟩ := h
  obtain ⟨t, rfl⟩ := rx
  obtain ⟨t', rfl⟩ := ry
  exact rule i j t t' s _ _ ⟨.int (g i j), H, I.tok _, ⟨_, rfl⟩, q⟩
theorem opB0 {f : Value → Value → Sem Value} {g : Int → Int → Bool}
    (rule : ∀ (i j : Int) (t u : Tok) (s : Shared) (Q : Value → Shared → Prop) (E : Value → Shared → Prop), Q (.bool (g i j)) s → wpAny (model X.prog X.w) X.A (f (.int i t) (.int j u)) Q E s) :
    OpR X f (rI0 fun i j => .bl (g i j)) := by
  intro pins s σ H x y v u Q I rx ry h
  obtain ⟨i, j, rfl, rfl, q⟩ := h
  obtain ⟨t, rfl⟩ := rx
  obtain ⟨t', rfl⟩ := ry
  exact rule i j t t' s _ _ ⟨.bl (g i j), H, I, rfl, q⟩

def CDiv (i j : Int) : Prop := 0 < j ∧ j < 1073741824
def CPow (i j : Int) : Prop := 0 ≤ j ∧ j ≤ 1000000 ∧ i.natAbs < 2 ^ 64
def CMul (i j : Int) : Prop := (-(2 ^ 64) < i ∧ i < 2 ^ 64) ∨ (-(2 ^ 64) < j ∧ j < 2 ^ 64)
theorem CMul.ok {i j : Int} (h : CMul i j) : IntMulOk i j := by
  rcases h with ⟨h1, h2⟩ | ⟨h1, h2⟩
  · exact .of_left (intBits_le_64 h1 h2)
  · exact .of_right (intBits_le_64 h1 h2)

theorem op_add : OpR X (binaryOp .Add) (rI0 fun i j => .int (i + j)) := opI0 fun _ _ _ _ _ _ _ q => add_int q
theorem op_sub : OpR X (binaryOp .Sub) (rI0 fun i j => .int (i - j)) := opI0 fun _ _ _ _ _ _ _ q => sub_int q
theorem op_mul : OpR X (binaryOp .Mult) (rI CMul fun i j => .int (i * j)) := opI fun _ _ _ _ _ _ _ hc q => mul_int q hc.ok
/-- // by a positive divisor -/
theorem op_fdiv : OpR X (binaryOp .FloorDiv) (rI CDiv fun i j => .int (i / j)) := opI fun i j _ _ _ _ _ hc q => by
  have h1 : (0 : Int) < j := hc.1
  have h2 : j < 1073741824 := hc.2
  exact floordiv_int (by omega) (by rw [Int.fdiv_eq_ediv_of_nonneg i (by omega)]; exact q) (.inl (PyProof.noPylong_small (by omega)))
/-- % by a positive divisor of any size -/
theorem op_mod : OpR X (binaryOp .Mod) (rI (fun _ j => 0 < j) fun i j => .int (i % j)) := opI fun i j _ _ _ _ _ hc q => by
  have h1 : (0 : Int) < j := hc
  exact mod_int' (by omega) (by rw [Int.fmod_eq_emod_of_nonneg i (by omega)]; exact q)
theorem op_pow : OpR X (binaryOp .Pow) (rI CPow fun i j => .int (i ^ j.toNat)) := opI fun _ _ _ _ _ _ _ hc q => pow_int_small hc.1 hc.2.1 hc.2.2 q


theorem unI {f : Value → Sem Value} {g : Int → Int}
    (rule : ∀ (i : Int) (t : Tok) (s : Shared) (Q : Value → Shared → Prop) (E : Value → Shared → Prop), Q (.int (g i) s.toks) { s with toks := s.toks + 1 } → wpAny (model X.prog X.w) X.A (f (.int i t)) Q E s) :
    UnR X f (rU fun i => .int (g i)) := by
  intro pins s σ H x v Q I rx h
  obtain ⟨i, rfl, q⟩ := h
  obtain ⟨t, rfl⟩ := rx
  exact rule i t s _ _ ⟨.int (g i), H, I.tok _, ⟨_, rfl⟩, q⟩
theorem un_neg : UnR X (unaryOp .USub) (rU fun i => .int (-i)) := unI fun _ _ _ _ _ q => neg_int q

/-! ### bools among ints: n += (a < b) -/
end

/-! ### comparisons -/
/-- the scalars that == tells apart as data does -/
def scal : V → V → Bool
  | .non, .non => true | .non, .int _ => true | .int _, .non => true | .non, .bl _ => true | .bl _, .non => true | .non, .str _ => true | .str _, .non => true
  | .int _, .int _ => true | .bl _, .bl _ => true | .str _, .str _ => true | .byt _, .byt _ => true
  | .int _, .str _ => true | .str _, .int _ => true | .bl _, .str _ => true | .str _, .bl _ => true
  | _, _ => false
def rEq : R2 := fun x y H Q => scal x y = true ∧ Q (.bl (decide (x = y))) H

theorem dec_int {i j : Int} : decide (V.int i = V.int j) = (i == j) := by
  rw [Bool.eq_iff_iff]
  simp
theorem dec_bl {i j : Bool} : decide (V.bl i = V.bl j) = (i == j) := by
  rw [Bool.eq_iff_iff]
  simp
theorem dec_str {i j : Str} : decide (V.str i = V.str j) = (i == j) := by
  rw [Bool.eq_iff_iff]
  simp
theorem dec_byt {i j : Array UInt8} : decide (V.byt i = V.byt j) = (i.toList == j.toList) := by
  rw [Bool.eq_iff_iff]
  cases i
  cases j
  simp

section
variable {X : Cx} {a b c : Expr} {ta tb tc : TE} {pos : Pos}
theorem fin_bl {pins : List (Addr × Obj)} {σ : St} {H : Hp} {s : Shared} {Q : VK} {k k' : Bool} (I : Inv X pins σ H s) (q : Q (.bl k) H) (e : k = k') : EP X pins σ Q (.bool k') s := by
  subst e
  exact ⟨.bl k, H, I, rfl, q⟩
theorem op_eq : OpR X (compareOp .Eq) rEq := by
  intro pins s σ H x y v u Q I rx ry h
  obtain ⟨hs, q⟩ := h
  cases x with
  | non =>
    cases rx
    cases y with
    | non => cases ry; exact PySem.EqNone.eq_none_none (fin_bl I q (by simp))
    | bl j => cases ry; exact PySem.EqNone.eq_none_bool (fin_bl I q (by simp))
    | int j => obtain ⟨t', rfl⟩ := ry; exact PySem.EqNone.eq_none_int (fin_bl I q (by simp))
    | str j => obtain ⟨t', rfl⟩ := ry; exact PySem.EqNone.eq_none_str (fin_bl I q (by simp))
    | _ => exact absurd (show false = true from hs) Bool.false_ne_true
  | bl i =>
    cases rx
    cases y with
    | non => cases ry; exact PySem.EqNone.eq_bool_none (fin_bl I q (by simp))
    | bl j => cases ry; exact eq_bool (fin_bl I q dec_bl)
    | str j => obtain ⟨t', rfl⟩ := ry; exact PySem.EqMixed.eq_bool_str (fin_bl I q (by simp))
    | _ => exact absurd (show false = true from hs) Bool.false_ne_true
  | int i =>
    obtain ⟨t, rfl⟩ := rx
    cases y with
    | non => cases ry; exact PySem.EqNone.eq_int_none (fin_bl I q (by simp))
    | int j => obtain ⟨t', rfl⟩ := ry; exact eq_int (fin_bl I q dec_int)
    | str j => obtain ⟨t', rfl⟩ := ry; exact PySem.EqMixed.eq_int_str (fin_bl I q (by simp))
    | _ => exact absurd (show false = true from hs) Bool.false_ne_true
  | str i =>
    obtain ⟨t, rfl⟩ := rx
    cases y with
    | non => cases ry; exact PySem.EqNone.eq_str_none (fin_bl I q (by simp))
    | bl j => cases ry; exact PySem.EqMixed.eq_str_bool (fin_bl I q (by simp))
    | int j => obtain ⟨t', rfl⟩ := ry; exact PySem.EqMixed.eq_str_int (fin_bl I q (by simp))
    | str j => obtain ⟨t', rfl⟩ := ry; exact eq_str (fin_bl I q dec_str)
    | _ => exact absurd (show false = true from hs) Bool.false_ne_true
  | byt i =>
    obtain ⟨t, rfl⟩ := rx
    cases y with
    | byt j => obtain ⟨t', rfl⟩ := ry; exact PySem.W.eq_bytes (fin_bl I q dec_byt)
    | _ => exact absurd (show false = true from hs) Bool.false_ne_true
  | _ => cases y <;> exact absurd (show false = true from hs) Bool.false_ne_true

theorem op_lt : OpR X (compareOp .Lt) (rI0 fun i j => .bl (decide (i < j))) := opB0 fun _ _ _ _ _ _ _ q => lt_int q




theorem nomark (b : Expr) {op : CmpOp} (h : op ≠ .In := by decide) (h2 : op ≠ .NotIn := by decide) : behindInMarks op b = false := by
  have e1 : (op == CmpOp.In) = false := by cases op <;> first | rfl | exact absurd rfl h
  have e2 : (op == CmpOp.NotIn) = false := by cases op <;> first | rfl | exact absurd rfl h2
  cases b <;> simp [behindInMarks, e1, e2]
/-- a comparison as a value; hm: nomark b, or (for in, not in) by with_unfolding_all rfl -/
theorem pe_cmpR {op : CmpOp} {r : R2} (ho : OpR X (compareOp op) r) (ha : PE X a ta) (hb : PE X b tb) (hm : behindInMarks op b = false) : PE X (.Compare a [op] [b] pos) (tOp r ta tb) := by
  intro pins s σ H Q I h
  exact wpAny_Compare1 (binT ha hb I h fun v u s2 x y H2 I2 rx ry q => ho pins s2 σ H2 x y v u Q I2 rx ry q) hm
/-- a reading of a value as a test -/
def tTest (t : TE) : TT := fun σ H Q => t σ H fun x H' => ∃ k, x = .bl k ∧ Q k H'
theorem pt_cmpR {op : CmpOp} {r : R2} (ho : OpR X (compareOp op) r) (ha : PE X a ta) (hb : PE X b tb) (hm : behindInMarks op b = false) : PT X (.Compare a [op] [b] pos) (tTest (tOp r ta tb)) := by
  intro pins s σ H Q I h
  refine wpAny_isTrue_Compare1 (thn (ha pins s σ H _ I h) fun v s1 ⟨x, H1, I1, r1, q1⟩ => thn (hb pins s1 σ H1 _ I1 q1) fun u s2 ⟨y, H2, I2, r2, q2⟩ =>
    thn (ho pins s2 σ H2 x y v u _ I2 r1 r2 q2) fun c s3 ⟨z, H3, I3, r3, k, e, q3⟩ => ?_) hm
  subst e
  cases r3
  exact wpAny_truthy_bool ⟨H3, I3, q3⟩

/-! ### truth -/
/-- a value's truth by the abstract heap -/
def TruV (K : PySem.W.Frag) (x : V) (H : Hp) (k : Bool) : Prop :=
  match x with
  | .non => k = false
  | .bl b => k = b
  | .int i => k = (i != 0)
  | .str y => y.length ≤ sizeLine ∧ k = ((y.length : Int) != 0)
  | .byt y => y.size ≤ sizeLine ∧ k = ((y.size : Int) != 0)
  | .ref p => (∃ xs, SqL K H p xs ∧ k = !xs.isEmpty) ∨ (∃ xs, SqT K H p xs ∧ k = !xs.isEmpty) ∨ ∃ kvs, H p = some (.dK kvs) ∧ k = !kvs.isEmpty
  | _ => False
theorem isEmpty_kv {κ : Type} {kvs : List (κ × V)} {vs : List (κ × Value)} (r : KV kvs vs) : (!vs.isEmpty) = !kvs.isEmpty := by
  cases r <;> rfl
theorem isEmpty_of {xs : List V} {its : List Value} (r : Vals xs its) : (!its.toArray.isEmpty) = !xs.isEmpty := by
  cases r <;> simp
theorem line63 : (sizeLine : Nat) < 2 ^ 63 := by rw [sizeLine_eq]; decide
theorem tru_ok : TruR X (fun x H Q => ∃ k, TruV X.K x H k ∧ Q k H) := by
  intro pins s σ H x v Q I rx h
  obtain ⟨k, e, q⟩ := h
  have hl := line63
  have hs : sizeLine = 16777216 := sizeLine_eq
  cases x with
  | non =>
    cases rx
    have e' : k = false := e
    subst e'
    exact truthy_none ⟨H, I, q⟩
  | bl b =>
    cases rx
    have e' : k = b := e
    subst e'
    exact wpAny_truthy_bool ⟨H, I, q⟩
  | int i =>
    obtain ⟨t, rfl⟩ := rx
    have e' : k = (i != 0) := e
    subst e'
    exact PySem.P.truthy_int ⟨H, I, q⟩
  | str y =>
    obtain ⟨t, rfl⟩ := rx
    obtain ⟨hy, e'⟩ : y.length ≤ sizeLine ∧ k = ((y.length : Int) != 0) := e
    subst e'
    exact PySem.P.truthy_str (by omega) ⟨H, I.tok _, q⟩
  | byt y =>
    obtain ⟨t, rfl⟩ := rx
    obtain ⟨hy, e'⟩ : y.size ≤ sizeLine ∧ k = ((y.size : Int) != 0) := e
    subst e'
    exact PySem.W.truthy_bytes (by omega) ⟨H, I.tok _, q⟩
  | ref p =>
    cases rx
    have e' : (∃ xs, SqL X.K H p xs ∧ k = !xs.isEmpty) ∨ (∃ xs, SqT X.K H p xs ∧ k = !xs.isEmpty) ∨ ∃ kvs, H p = some (.dK kvs) ∧ k = !kvs.isEmpty := e
    rcases e' with ⟨xs, hx, e'⟩ | ⟨xs, hx, e'⟩ | ⟨kvs, hx, e'⟩
    · subst e'
      obtain ⟨its, r, pl, hz⟩ := I.list hx
      have hlen := r.length
      exact wpAny_truthy_list pl.isList (by simp only [List.size_toArray]; omega) ⟨H, I.tok _, by rw [isEmpty_of r]; exact q⟩
    · subst e'
      obtain ⟨its, r, pl, hz⟩ := I.tuple hx
      have hlen := r.length
      exact truthy_tuple pl (by simp only [List.size_toArray]; omega) ⟨H, I.tok _, by rw [isEmpty_of r]; exact q⟩
    · subst e'
      obtain ⟨hz, hS, vs, r, m⟩ : kvs.length ≤ sizeLine ∧ (p == sysModules) = false ∧ ∃ vs, KV kvs vs ∧ s.heap.DictOf (mixKind X.prog X.w) p vs := I.hok p _ hx
      have hlen : kvs.length = vs.length := Paired.length r
      exact wpAny_truthy_dict hS m (by omega) ⟨H, I.tok _, by rw [isEmpty_kv r]; exact q⟩
  | _ => exact (show False from e).elim

/-! ### strs and bytes -/


/-! ### scalar builtins, by CallR -/
theorem vals1 {x : V} {us : List Value} (r : Vals [x] us) : ∃ u, us = [u] ∧ RelV x u := by
  cases r with
  | cons r1 r2 => cases r2; exact ⟨_, rfl, r1⟩
theorem vals2 {x y : V} {us : List Value} (r : Vals [x, y] us) : ∃ u w', us = [u, w'] ∧ RelV x u ∧ RelV y w' := by
  cases r with
  | cons r1 r2 =>
    cases r2 with
    | cons r3 r4 => cases r4; exact ⟨_, _, rfl, r1, r3⟩
/-- len of a str, a bytes, a list, a tuple -/
def LenV (K : PySem.W.Frag) (x : V) (H : Hp) (n : Nat) : Prop :=
  match x with
  | .str y => y.length ≤ sizeLine ∧ n = y.length
  | .byt y => y.size ≤ sizeLine ∧ n = y.size
  | .ref p => (∃ xs, SqL K H p xs ∧ n = xs.length) ∨ ∃ xs, SqT K H p xs ∧ n = xs.length
  | _ => False
theorem call_len : CallR X (.builtin "len") (fun xs H Q => ∃ x n, xs = [x] ∧ LenV X.K x H n ∧ Q (.int n) H) := by
  intro pins s σ H xs us Q I r h
  obtain ⟨x, n, rfl, e, q⟩ := h
  obtain ⟨u, rfl, rx⟩ := vals1 r
  have hl := line63
  have hs : sizeLine = 16777216 := sizeLine_eq
  cases x with
  | str y =>
    obtain ⟨t, rfl⟩ := rx
    obtain ⟨hy, e'⟩ : y.length ≤ sizeLine ∧ n = y.length := e
    subst e'
    exact len_str (by omega) ⟨.int _, H, I.tok _, ⟨_, rfl⟩, q⟩
  | byt y =>
    obtain ⟨t, rfl⟩ := rx
    obtain ⟨hy, e'⟩ : y.size ≤ sizeLine ∧ n = y.size := e
    subst e'
    exact PySem.W.len_bytes (by omega) ⟨.int _, H, I.tok _, ⟨_, rfl⟩, q⟩
  | ref p =>
    cases rx
    have e' : (∃ xs, SqL X.K H p xs ∧ n = xs.length) ∨ ∃ xs, SqT X.K H p xs ∧ n = xs.length := e
    rcases e' with ⟨xs, hx, e'⟩ | ⟨xs, hx, e'⟩
    · subst e'
      obtain ⟨its, r', pl, hz⟩ := I.list hx
      have hlen := r'.length
      exact Calls.call_len_list pl.isList (by simp only [List.size_toArray]; omega) ⟨.int xs.length, H, I.tok _, ⟨_, by simp only [List.size_toArray]; rw [hlen]⟩, q⟩
    · subst e'
      obtain ⟨its, r', pl, hz⟩ := I.tuple hx
      have hlen := r'.length
      exact len_tuple pl (by simp only [List.size_toArray]; omega) ⟨.int xs.length, H, I.tok _, ⟨_, by simp only [List.size_toArray]; rw [hlen]⟩, q⟩
  | _ => exact (show False from e).elim
end
end L2

namespace L2
open PySem PySem.Spec PyProof.Rows

/-! ### an instance, its attributes a map -/



section
variable {prog : Program} {w : World} {A : Around} {E : Value → Shared → Prop} {s : Shared} {K : PySem.W.Frag} {x dx C f : Addr} {mA : Str → Option Value} {name : Str} {v : Value}





end

/-! ### the attributes as a list of pairs -/


section
variable {P : Program} {w : World} {H H' : Hp} {h h' : Heap} {a C dx : Addr} {fs fs' : List (Str × V)}
end

/-! ### what of the text a class must have -/

section
variable {X : Cx} {pins : List (Addr × Obj)} {σ : St} {H : Hp} {s : Shared} {a C dx : Addr} {fs : List (Str × V)} {f : Str} {v : V} {A : Around} {E : Value → Shared → Prop}






end

/-! ### readings and rules -/

section
variable {X : Cx} {o e value : Expr} {f : Str} {pos pos' tpos : Pos} {ta tv : TE}

end

/-! ### isinstance -/
section
variable {X : Cx} {pins : List (Addr × Obj)} {σ : St} {H : Hp} {s : Shared} {A : Around} {E : Value → Shared → Prop} {Q : Value → Shared → Prop} {c : Value} {b : Bool}
end
end L2

namespace L2
open PySem PySem.Spec PyProof.Rows

/-! ### room -/
structure Room (k : Nat) (A : Around) : Prop where
  hd : A.handled = none
  dp : A.depth + 3 * k + 5 < recursionLimit
  un : A.units + 16 * k + 200 < cLine
theorem Room.mono {j k : Nat} {A : Around} (r : Room k A) (h : j ≤ k) : Room j A := ⟨r.hd, by have := r.dp; omega, by have := r.un; omega⟩
theorem Room.deeper {k : Nat} {A : Around} (r : Room (k + 1) A) (env : Env) : Room k (A.deeper env) :=
  ⟨r.hd, by have := r.dp; show A.depth + 1 + 3 * k + 5 < _; omega, by have := r.un; show A.units + 3 + 16 * k + 200 < _; omega⟩
theorem Room.depth {k : Nat} {A : Around} (r : Room k A) : A.depth < recursionLimit := by have := r.dp; omega
theorem Room.units {k : Nat} {A : Around} (r : Room k A) : A.units + 64 < cLine := by have := r.un; omega

/-! ### argument lists and displays -/
def tNil : TA := fun _ H Q => Q [] H
def tCons (ta : TE) (tr : TA) : TA := fun σ H Q => ta σ H fun x H1 => tr σ H1 fun xs H2 => Q (x :: xs) H2
section
variable {X : Cx} {e : Expr} {es : List Expr} {te : TE} {t : TA} {pos : Pos}
theorem pa_nil : PA X [] tNil := fun _ _ _ _ H Q I h => Calls.spliced_nil ⟨[], H, I, .nil, h⟩
theorem pa_cons (ha : PE X e te) (hr : PA X es t) (hs : starEach (e :: es) X.env = (false, eval e X.env) :: starEach es X.env := by rfl) : PA X (e :: es) (tCons te t) := by
  intro pos pins s σ H Q I h
  rw [hs]
  show wpAny _ _ (spliced ((false, eval e X.env) :: backTo pos (starEach es X.env))) _ _ s
  refine Calls.spliced_cons (thn (ha pins s σ H _ I h) fun u s1 ⟨x, H1, I1, r1, q1⟩ => ?_)
  exact thn (hr pos pins s1 σ H1 _ I1 q1) fun us s2 ⟨xs, H2, I2, r2, q2⟩ => ⟨x :: xs, H2, I2, .cons r1 r2, q2⟩

/-- a tuple, a list of written items -/
def tTup (t : TA) : TE := fun σ H Q => t σ H fun xs H1 => xs.length ≤ sizeLine ∧ ∀ p, H1 p = none → Q (.ref p) (upd H1 p (.tup xs))
def tLst (t : TA) : TE := fun σ H Q => t σ H fun xs H1 => xs.length ≤ sizeLine ∧ ∀ p, H1 p = none → Q (.ref p) (upd H1 p (.lst xs))
theorem pe_tup {x1} (h : PA X es t) : PE X (.Tuple es x1 pos) (tTup t) := by
  intro pins s σ H Q I hq
  refine wpAny_Tuple_spliced (thn (h pos pins s σ H _ I hq) fun us s1 ⟨xs, H1, I1, r, z, q⟩ => ⟨by rw [← r.length]; exact z, ?_⟩)
  have hf : H1 s1.heap.objs.size = none := I1.hok.fresh (Nat.le_refl _)
  refine ⟨.ref s1.heap.objs.size, upd H1 s1.heap.objs.size (.tup xs), I1.laid (t' := s1.toks) (fun b u e => Heap.get?_push_of_some _ e) (Nat.le_refl _) ?_, rfl, q _ hf⟩
  exact ⟨z, us, r, ⟨_, Heap.get?_push_size _ rfl, rfl, _, rfl⟩⟩
theorem pe_lst (h : PA X es t) : PE X (.List es pos) (tLst t) := by
  intro pins s σ H Q I hq
  refine wpAny_List_spliced (thn (h pos pins s σ H _ I hq) fun us s1 ⟨xs, H1, I1, r, z, q⟩ => ⟨by rw [← r.length]; exact z, ?_⟩)
  have hf : H1 s1.heap.objs.size = none := I1.hok.fresh (Nat.le_refl _)
  refine ⟨.ref s1.heap.objs.size, upd H1 s1.heap.objs.size (.lst xs), I1.laid (t' := s1.toks) (fun b u e => Heap.get?_push_of_some _ e) (Nat.le_refl _) ?_, rfl, q _ hf⟩
  exact ⟨z, us, 0, r, Heap.get?_push_size _ rfl⟩
end

/-! ### what a def promises -/
/-- a def's promise: the bound arguments in the parameters' order, the heap, the wanted end, the wanted exception -/
abbrev Sp := List V → Hp → VK → XK → Prop
/-- how an exception lies behind a call (file 08 gives it): the callers' frames, abstract heap and state ahead of the call, the wish, the exception, the state -/
abbrev CXT := List Env → Hp → Shared → XK → Value → Shared → Prop

/-- the state at a call -/
structure Env0 (P : Program) (w : World) (K : PySem.W.Frag) (mg : Str → Option Value) (base : Heap) (A : Around) (outer : List Env) (s : Shared) (H : Hp) : Prop where
  frames : A.frames = some outer
  mod : Mod K mg base
  bs : ∀ b o, base.get? b = some o → s.heap.get? b = some o ∧ H b = none
  bsz : base.objs.size ≤ s.heap.objs.size
  funs : s.heap.FunFrames base outer
  frf : ∀ b ∈ frs outer, H b = none
  hok : HOk P w H s.heap
  bare : AllBare s.gens
/-- a call's end -/
def CE (outer : List Env) (P : Program) (w : World) (H : Hp) (s : Shared) (Q : VK) (u : Value) (s' : Shared) : Prop :=
  ∃ v H', s'.os = s.os ∧ AllBare s'.gens ∧ Un (frs outer) [] H H' s.heap s'.heap ∧ HOk P w H' s'.heap ∧ RelV v u ∧ Q v H'
def CR (CX : CXT) (outer : List Env) (P : Program) (w : World) (H : Hp) (s : Shared) (Q : VK) (E : XK) (r : Result) (s' : Shared) : Prop :=
  match r with
  | .ok (.ret u) => CE outer P w H s Q u s'
  | .ok _ => False
  | .error e => CX outer H s E e s'
structure FnOk (P : Program) (w : World) (K : PySem.W.Frag) (mg : Str → Option Value) (base : Heap) (CX : CXT) (k : Nat) (f : Addr) (fd : FuncData) (ps : List Str) (sp : Sp) : Prop where
  len : ∀ vs H Q E, sp vs H Q E → vs.length = ps.length
  run : ∀ (A : Around) (outer : List Env) (s : Shared) (H : Hp) (args : Args) (us : List Value) (vs : List V) (Q : VK) (E : XK), Room k A → Env0 P w K mg base A outer s H → BindsTo s fd args (ps.zip us) → Vals vs us → sp vs H Q E →
    codeAny (model P w) A (.call (.ref f) args) (CR CX outer P w H s Q E) s


section
variable {X : Cx} {pins : List (Addr × Obj)} {σ : St} {H : Hp} {s s' : Shared}
/-- from a body: what a callee wants -/
theorem Inv.env0 (I : Inv X pins σ H s) : Env0 X.prog X.w X.K X.mg X.base X.A X.stack s H :=
  ⟨I.ok.frames, I.ok.mod, I.bs, Nat.le_trans I.ok.bsz I.sz, I.stack, I.stkFree, I.hok, I.bare⟩
/-- behind a call -/
theorem Inv.after {Q : VK} {u : Value} (I : Inv X pins σ H s) (h : CE X.stack X.prog X.w H s Q u s') : EP X pins σ Q u s' := by
  obtain ⟨v, H', os, bare, un, hok, r, q⟩ := h
  obtain ⟨hh, g, d, t, os'⟩ := s'
  obtain rfl : os' = s.os := os
  exact ⟨v, H', I.call (h' := hh) (g' := g) (d' := d) (t' := t) (ch := []) un hok bare (fun b z => absurd z (by simp)), r, q⟩
end

/-! ### calls -/
/-- f(..): the written arguments, then the defaults dvs; E: what is wanted of an exception -/
def tCall (sp : Sp) (dvs : List V) (E : XK) (t : TA) : TE := fun σ H Q => t σ H fun vs H1 => sp (vs ++ dvs) H1 Q E

/-- how the parameters are bound: us the positional arguments, kw the keywords' values by name, ds the defaults that fill up -/
def Binds (K : PySem.W.Frag) (fd : FuncData) (ps : List Str) (ds : List Value) : Prop :=
  ∀ (s : Shared) (us : List Value), K.In s.heap → (us ++ ds).length = ps.length → BindsTo s fd ⟨us, []⟩ (ps.zip (us ++ ds))
/-- every parameter is given -/
theorem Binds.all {K : PySem.W.Frag} {fd : FuncData} {ps : List Str} (h : ∀ us : List Value, us.length = ps.length → bindArgs fd ⟨us, []⟩ = pure (ps.zip us)) : Binds K fd ps [] := fun s us _ hl => by
  rw [List.append_nil] at hl ⊢
  exact .of_eq (h us hl)

/-- an exception of a callee reaches what this body wants of exceptions -/
def Passes (CX : CXT) (X : Cx) (E : XK) : Prop := ∀ (pins : List (Addr × Obj)) (σ : St) (H : Hp) (s : Shared) (e : Value) (s' : Shared), Inv X pins σ H s → CX X.stack H s E e s' → X.xe e s'

section
variable {X : Cx} {CX : CXT} {k : Nat} {f C : Addr} {fd : FuncData} {ps : List Str} {sp : Sp} {dvs : List V} {ds : List Value} {E : XK} {x m : Str} {p pos apos : Pos} {e o : Expr} {es : List Expr} {ta : TE} {t : TA}

/-- the callee runs -/
theorem run_fn {pins : List (Addr × Obj)} {σ : St} {H : Hp} {s : Shared} {Q : VK} {us : List Value} {vs : List V} (F : FnOk X.prog X.w X.K X.mg X.base CX k f fd ps sp) (hr : Room k X.A) (hb : Binds X.K fd ps ds) (hd : Vals dvs ds) (hx : Passes CX X E)
    (I : Inv X pins σ H s) (r : Vals vs us) (h : sp (vs ++ dvs) H Q E) : wpAny (model X.prog X.w) X.A (call (.ref f) us) (EP X pins σ Q) X.xe s := by
  have r2 : Vals (vs ++ dvs) (us ++ ds) := r.append hd
  have hl : (us ++ ds).length = ps.length := by rw [← r2.length]; exact F.len _ _ _ _ h
  refine wpAny_call (codeAny_mono (F.run X.A X.stack s H ⟨us, []⟩ (us ++ ds) (vs ++ dvs) Q E hr I.env0 (hb s us I.kIn hl) r2 h) fun r s' hq => ?_)
  cases r with
  | error e => exact hx pins σ H s e s' I hq
  | ok fl =>
    cases fl with
    | ret u => exact I.after hq
    | next => exact False.elim hq
    | brk => exact False.elim hq
    | cont => exact False.elim hq

theorem pe_call (F : FnOk X.prog X.w X.K X.mg X.base CX k f fd ps sp) (hr : Room k X.A) (hg : Gl X x) (hm : X.mg x = some (.ref f)) (hk : PySem.W.keepIn X.K (.ref f) = true) (hb : Binds X.K fd ps ds) (hd : Vals dvs ds) (hx : Passes CX X E)
    (ha : PA X (e :: es) t) (hdb : (x == ("__debug__" : Str)) = false := by decide) (he : starEach (e :: es) X.env = (false, eval e X.env) :: starEach es X.env := by rfl) (hpl : (backTo pos (starEach es X.env)).any (·.1) = false := by rfl) :
    PE X (.Call (.Name x p) (e :: es) [] pos) (tCall sp dvs E t) := by
  intro pins s σ H Q I h
  refine wpAny_Call_Name_kw (ld_glob I hg hm ?_ hdb)
  refine PySem.W.callWith_K (h₀ := X.base) I.ok.mod.kin hk (thn (ha pos pins s σ H _ I h) fun us s1 ⟨vs, H1, I1, r, q⟩ => ⟨I1.kIn, ?_⟩) he hpl
  exact run_fn F hr hb hd hx I1 r q



end

/-! ### keywords -/
section
variable {X : Cx} {CX : CXT} {k : Nat} {f C : Addr} {fd : FuncData} {ps ks : List Str} {sp : Sp} {E : XK} {x m : Str} {p pos apos kpos : Pos} {e o : Expr} {es : List Expr} {kws : List Keyword} {te ta : TE} {t tk : TA} {nm : Option Str}

variable {g : List Value → List Value → List Value} {gV : List V → List V → List V}
end

/-! ### a def's body keeps its promise -/
/-- names: the parameters first -/
structure FnScope (N P : List Str) (sc : Scope) : Prop where
  kind : sc.kind = .function
  co : sc.isCoroutine = false
  gen : sc.isGenerator = false
  nd : N.Nodup
  pre : N.take P.length = P
  par : ∀ x ∈ P, sc.names.lookup x = some .local ∨ sc.names.lookup x = some .cell
  nofree : ∀ y ∈ sc.names, y.2 ≠ .free

theorem bindL_out {kindOf : Str → Option NameKind} {x : Str} : ∀ {binds : List (Str × Value)} {m : Str → Option Value}, (∀ v, (x, v) ∉ binds) → bindL kindOf binds m x = m x
  | [], _, _ => rfl
  | (n, v) :: r, m, h => by
    unfold bindL
    rw [bindL_out fun w hw => h w (List.mem_cons_of_mem _ hw)]
    split
    · have : x ≠ n := by rintro rfl; exact h v List.mem_cons_self
      simp [this]
    · rfl
theorem bindC_out {kindOf : Str → Option NameKind} {x : Str} : ∀ {binds : List (Str × Value)} {m : Str → Option Value}, (∀ v, (x, v) ∉ binds) → bindC kindOf binds m x = m x
  | [], _, _ => rfl
  | (n, v) :: r, m, h => by
    unfold bindC
    rw [bindC_out fun w hw => h w (List.mem_cons_of_mem _ hw)]
    split
    · rfl
    · have : x ≠ n := by rintro rfl; exact h v List.mem_cons_self
      simp [this]
theorem bindL_get {kindOf : Str → Option NameKind} {x : Str} {v : Value} : ∀ {P : List Str} {vs : List Value} {i : Nat} {m : Str → Option Value}, P.Nodup → P[i]? = some x → vs[i]? = some v → kindOf x = some .local →
    bindL kindOf (P.zip vs) m x = some v
  | [], _, _, _, _, h, _, _ => by simp at h
  | _ :: _, [], _, _, _, _, h, _ => by simp at h
  | p :: P, w :: vs, 0, m, nd, h1, h2, hk => by
    simp at h1 h2; subst h1; subst h2
    show bindL kindOf ((p, w) :: P.zip vs) m p = _
    unfold bindL
    rw [bindL_out fun v hv => (List.nodup_cons.mp nd).1 (List.of_mem_zip hv).1, if_pos hk]
    simp
  | p :: P, w :: vs, i + 1, m, nd, h1, h2, hk => by
    show bindL kindOf ((p, w) :: P.zip vs) m x = _
    unfold bindL
    exact bindL_get (i := i) (List.nodup_cons.mp nd).2 (by simpa using h1) (by simpa using h2) hk
theorem bindC_get {kindOf : Str → Option NameKind} {x : Str} {v : Value} : ∀ {P : List Str} {vs : List Value} {i : Nat} {m : Str → Option Value}, P.Nodup → P[i]? = some x → vs[i]? = some v → kindOf x ≠ some .local →
    bindC kindOf (P.zip vs) m x = some v
  | [], _, _, _, _, h, _, _ => by simp at h
  | _ :: _, [], _, _, _, _, h, _ => by simp at h
  | p :: P, w :: vs, 0, m, nd, h1, h2, hk => by
    simp at h1 h2; subst h1; subst h2
    show bindC kindOf ((p, w) :: P.zip vs) m p = _
    unfold bindC
    rw [bindC_out fun v hv => (List.nodup_cons.mp nd).1 (List.of_mem_zip hv).1, if_neg hk]
    simp
  | p :: P, w :: vs, i + 1, m, nd, h1, h2, hk => by
    show bindC kindOf ((p, w) :: P.zip vs) m x = _
    unfold bindC
    exact bindC_get (i := i) (List.nodup_cons.mp nd).2 (by simpa using h1) (by simpa using h2) hk

/-- the names' values at the entry -/
def start (N : List Str) (vs : List V) : St := vs.map some ++ List.replicate (N.length - vs.length) none

/-- the context of a def's body, at its entry; an exception leaves the frame, then lies as CX says -/
def cxOf (CX : CXT) (P : Program) (w : World) (K : PySem.W.Frag) (mg : Str → Option Value) (base : Heap) (N : List Str) (qual : Str) (scope : Scope) (f : Addr) (cd : Value) (A : Around) (outer : List Env) (s : Shared) (H : Hp) (E : XK) : Cx where
  prog := P
  w := w
  K := K
  mg := mg
  base := base
  A := A.deeper (envOfC qual scope s.heap.objs.size f cd)
  N := N
  s₀ := s
  H₀ := H
  env := envOfC qual scope s.heap.objs.size f cd
  outer := outer
  stack := envOfC qual scope s.heap.objs.size f cd :: outer
  ex := []
  calm := true
  fn := fun _ => true
  pn := []
  xe := fun e s' => wpAny (model P w) (A.deeper (envOfC qual scope s.heap.objs.size f cd)) (leaving (envOfC qual scope s.heap.objs.size f cd) e) (fun _ s'' => CX outer H s E e s'') (fun e' s'' => CX outer H s E e' s'') s'

theorem cell_has {sc : Scope} {n : Nat} {x : Str} (h : sc.names.lookup x = some .cell) : ∃ c, (cellsFrom n sc.names []).lookup x = some c := by
  have q := PySem.W.cellsFrom_some sc.names n [] (.inl h)
  exact Option.isSome_iff_exists.mp q

theorem inv_start {CX : CXT} {P : Program} {w : World} {K : PySem.W.Frag} {mg : Str → Option Value} {base : Heap} {N ps : List Str} {qual : Str} {scope : Scope} {f : Addr} {cd : Value} {A : Around} {outer : List Env} {s s1 : Shared} {H : Hp} {E : XK} {us : List Value} {vs : List V}
    (S : FnScope N ps scope) (hd : A.handled = none) (e0 : Env0 P w K mg base A outer s H) (hl : vs.length = ps.length) (r : Vals vs us)
    (x : InCallC s s.heap.objs.size (bindL (envOfC qual scope s.heap.objs.size f cd).kindOf (ps.zip us) fun _ => none) (cellsFrom (s.heap.objs.size + 1) scope.names []) (bindC (envOfC qual scope s.heap.objs.size f cd).kindOf (ps.zip us) fun _ => none) s1) :
    Inv (cxOf CX P w K mg base N qual scope f cd A outer s H E) [] (start N vs) H s1 := by
  have hpl : ps.length ≤ N.length := by have := congrArg List.length S.pre; rw [List.length_take] at this; omega
  obtain ⟨h1, tk, rfl, hk⟩ := x.done
  have noA : ∀ b : Addr, b ∉ (cxOf CX P w K mg base N qual scope f cd A outer s H E).ex := fun b z => absurd (show b ∈ ([] : List Addr) from z) (by simp)
  refine ⟨⟨e0.mod, S.kind, rfl, rfl, Nat.le_refl _, fun y z c h1 h2 => ?_, fun y hy => ?_, fun y c _ h => ?_, fun _ => hd, Around.frames_deeper e0.frames, .inr ⟨rfl, rfl⟩, fun b z => absurd z (noA b), e0.bs, e0.bsz, fun b _ _ => noA b, fun b z => absurd z (noA b), e0.funs, e0.frf⟩,
    rfl, e0.bare, Un.kept hk, ⟨_, x.toInCall.ns, fun i y v h1 h2 h3 => ?_⟩, fun y c h => ⟨_, x.cell y c h⟩, e0.hok.fresh (Nat.le_refl _), fun y c h => ?_, fun p hp => absurd (show p ∈ ([] : List (Addr × Obj)) from hp) (by simp), e0.hok.kept hk, ?_⟩
  · exact name_of_addr x.apart (PySem.mem_of_lookup h1) (PySem.mem_of_lookup h2)
  · have hy : scope.names.lookup y = some .cell ∨ scope.names.lookup y = some .free := hy
    rcases hy with hy | hy
    · exact cell_has hy
    · exact absurd rfl (S.nofree _ (PySem.mem_of_lookup hy))
  · exact Nat.le_of_lt (x.above y c (PySem.mem_of_lookup h))
  · have hi : i < vs.length := by
      unfold start at h2
      by_cases hi : i < vs.length
      · exact hi
      · rw [List.getElem?_append_right (by simpa using hi)] at h2
        rw [List.getElem?_replicate] at h2
        split at h2 <;> cases h2
    have ha : vs[i]? = some v := by
      unfold start at h2
      rw [List.getElem?_append_left (by simpa using hi), List.getElem?_map] at h2
      cases e : vs[i]? with
      | none => rw [e] at h2; cases h2
      | some a => rw [e] at h2; cases h2; rfl
    obtain ⟨u, hu, rv⟩ := r.get ha
    have hp : ps[i]? = some y := by
      rw [← S.pre, List.getElem?_take_of_lt (by omega)]; exact h1
    have ndP : ps.Nodup := by rw [← S.pre]; exact S.nd.sublist (List.take_sublist _ _)
    refine ⟨u, rv, ?_⟩
    rcases S.par y (List.mem_of_getElem? hp) with k | k
    · exact .inl ⟨k, bindL_get ndP hp hu k⟩
    · obtain ⟨c, e⟩ := cell_has (n := s.heap.objs.size + 1) k
      refine .inr ⟨.inl k, c, e, ?_⟩
      have q := x.cell y c e
      rw [bindC_get ndP hp hu (by show scope.names.lookup y ≠ _; rw [k]; decide)] at q
      exact q
  · exact e0.hok.fresh (Nat.le_of_lt (x.above y c (PySem.mem_of_lookup h)))
  · unfold start
    show _ = N.length
    rw [List.length_append, List.length_map, List.length_replicate]
    omega

/-- THE RULE: a def (or a method) of the text, by its body. The body's reading t is chosen for each entry; it is run at the parameters' values -/
theorem fn_of {CX : CXT} {P : Program} {w : World} {K : PySem.W.Frag} {mg : Str → Option Value} {base : Heap} {k : Nat} {f : Addr} {name qual : Str} {params : Arguments} {body : List Stmt} {scope : Scope} {dV kV doc pm cdv ct oc : Value} {an od : Option Addr}
    {osl : Array (Option Value)} {N ps : List Str} {sp : Sp} (lk : K.lookup f = some ⟨oc, od, .func (PySem.W.fnOf name qual params body scope dV kV doc pm an cdv ct), osl⟩) (hcd : PySem.W.codeIn K cdv qual = true) (S : FnScope N ps scope)
    (len : ∀ vs H Q E, sp vs H Q E → vs.length = ps.length)
    (hbody : ∀ (A : Around) (outer : List Env) (s : Shared) (H : Hp) (vs : List V) (Q : VK) (E : XK), Room k (A.deeper (envOfC qual scope s.heap.objs.size f cdv)) → sp vs H Q E →
      ∃ t, PSs (cxOf CX P w K mg base N qual scope f cdv A outer s H E) body t ∧ t { nx := fun _ H' => Q .non H', rt := Q } (start N vs) H) :
    FnOk P w K mg base CX (k + 1) f (PySem.W.fnOf name qual params body scope dV kV doc pm an cdv ct) ps sp := by
  refine ⟨len, fun A outer s H args us vs Q E hr e0 hb r hsp => ?_⟩
  have hl := len _ _ _ _ hsp
  have KX : K.In s.heap := e0.mod.kin.keeps fun b o e => (e0.bs b o e).1
  have lim : s.heap.NoLimit := e0.mod.nolimit.keeps fun b o e => (e0.bs b o e).1
  have hkind : ∀ y ∈ ps.zip us, scope.names.lookup y.1 = some .local ∨ (scope.names.lookup y.1 = some .cell ∧ ((cellsFrom (s.heap.objs.size + 1) scope.names []).lookup y.1).isSome = true) := fun ⟨n, v⟩ hy => by
    rcases S.par n (List.of_mem_zip hy).1 with q | q
    · exact .inl q
    · exact .inr ⟨q, PySem.W.cellsFrom_some _ _ _ (.inl q)⟩
  refine codeAny_call_function hr.depth (KX _ _ lk) rfl S.co S.gen rfl (PySem.W.codeRec_of KX hcd) (hb _ _ _ _ ?_)
  refine wpAny_newFunctionEnv_cells S.kind hkind fun env he s1 x => ?_
  subst he
  refine ⟨lim.keeps x.toInCall.keep, codeAny_func ?_⟩
  obtain ⟨t, ht, hq⟩ := hbody A outer s H vs Q E (hr.deeper _) hsp
  have I : Inv (cxOf CX P w K mg base N qual scope f cdv A outer s H E) [] (start N vs) H s1 := inv_start S hr.hd e0 hl r x
  refine wpAny_mono (ht [] s1 (start N vs) H _ I hq) (fun fl s' hs => ?_) fun e s' hs => hs
  have fin : ∀ {σ' : St} {H' : Hp} {v : V} {u : Value}, Inv (cxOf CX P w K mg base N qual scope f cdv A outer s H E) [] σ' H' s' → RelV v u → Q v H' → CE outer P w H s Q u s' :=
    fun {σ' H' v u} J rv q => ⟨v, H', J.os, J.bare, J.base, J.hok, rv, q⟩
  cases fl with
  | ret u =>
    obtain ⟨v, σ', H', J, rv, q⟩ := hs
    exact fin J rv q
  | next =>
    obtain ⟨σ', H', J, q⟩ := hs
    exact fin (v := V.non) (u := Value.none) J rfl q
  | brk =>
    obtain ⟨_, _, _, q⟩ := hs
    exact False.elim q
  | cont =>
    obtain ⟨_, _, _, q⟩ := hs
    exact False.elim q
end L2

namespace L2
open PySem PySem.Spec PyProof.Rows
section
variable {X : Cx} {x : Str} {p pos : Pos} {e : Expr} {es : List Expr} {t : TA} {id T : String} {r : List V → Hp → VK → Prop}

def tCB (r : List V → Hp → VK → Prop) (t : TA) : TE := fun σ H Q => t σ H fun vs H1 => r vs H1 Q
/-- f(e, ..), f a built-in function -/
theorem pe_callB (hc : CallR X (.builtin id) r) (hm : X.mg x = none) (ha : PA X (e :: es) t) (hg : Gl X x := by rfl) (hv : bootBuiltins x = some (.builtin id) := by decide +kernel) (hn : x ≠ "__name__" := by decide) (hdb : (x == ("__debug__" : Str)) = false := by decide)
    (he : starEach (e :: es) X.env = (false, eval e X.env) :: starEach es X.env := by rfl) (hpl : (backTo pos (starEach es X.env)).any (·.1) = false := by rfl) : PE X (.Call (.Name x p) (e :: es) [] pos) (tCB r t) := by
  intro pins s σ H Q I h
  refine wpAny_Call_Name_kw (ld_blt I hg hm hv ?_ hn hdb)
  exact PyProof.Rows.callWith_builtin1 (thn (ha pos pins s σ H _ I h) fun us s1 ⟨vs, H1, I1, r1, q1⟩ => hc pins s1 σ H1 vs us Q I1 r1 q1) he hpl
/-- T(e, ..), T a built-in type -/
theorem pe_callTy (hc : CallR X (.type T) r) (hm : X.mg x = none) (ha : PA X (e :: es) t) (hg : Gl X x := by rfl) (hv : bootBuiltins x = some (.type T) := by decide +kernel) (hn : x ≠ "__name__" := by decide) (hdb : (x == ("__debug__" : Str)) = false := by decide)
    (he : starEach (e :: es) X.env = (false, eval e X.env) :: starEach es X.env := by rfl) (hpl : (backTo pos (starEach es X.env)).any (·.1) = false := by rfl) : PE X (.Call (.Name x p) (e :: es) [] pos) (tCB r t) := by
  intro pins s σ H Q I h
  refine wpAny_Call_Name_kw (ld_blt I hg hm hv ?_ hn hdb)
  exact PyProof.Rows.callWith_type1 (thn (ha pos pins s σ H _ I h) fun us s1 ⟨vs, H1, I1, r1, q1⟩ => hc pins s1 σ H1 vs us Q I1 r1 q1) he hpl
end
end L2

namespace HT
open PySem PyProof.Rows



section
open PySem.SeqAt
open PySem.AutoSeq1 (wpAny_loadPart')
open PySem.MeetsSeq PySem.MeetsSeq2 PySem.MeetsSeq3

end

section
variable {prog : Program} {w : World} {A : Around} {E : Value → Shared → Prop} {s : Shared}



/-! ### t[a:b], not the whole -/
/-- a slice's bound as a place among n (d where it is left out) -/
def sIx (n d : Nat) : Option Int → Nat
  | none => d
  | some v => if v < 0 then (v + (n : Int)).toNat else min v.toNat n
theorem sIx_none (n d : Nat) : sIx n d none = d := rfl
theorem sIx_nat (n d k : Nat) : sIx n d (some (k : Int)) = min k n := by
  show (if (k : Int) < 0 then ((k : Int) + (n : Int)).toNat else min (k : Int).toNat n) = min k n
  rw [if_neg (by omega), Int.toNat_natCast]

end
end HT

namespace L2
open PySem PySem.Spec PyProof.Rows

/-! ### the parts of a slice -/
abbrev TO := St → Hp → (Option Int → Hp → Prop) → Prop
/-- a slice's part (left out, or an int) -/
def PO (X : Cx) (e : Option Expr) (t : TO) : Prop :=
  ∀ (pins : List (Addr × Obj)) (s : Shared) (σ : St) (H : Hp) (Q : Option Int → Hp → Prop), Inv X pins σ H s → t σ H Q →
    wpAny (model X.prog X.w) X.A (evalPart e X.env) (fun u s' => ∃ o H', Inv X pins σ H' s' ∧ IsPart u o ∧ Q o H') X.xe s
def tNoPart : TO := fun _ H Q => Q none H
def tPart (t : TE) : TO := fun σ H Q => t σ H fun x H1 => ∃ i, x = .int i ∧ Q (some i) H1


section
variable {X : Cx} {e : Expr} {te : TE} {lo hi : Option Expr} {tl th : TO} {pos p2 : Pos}

theorem po_none : PO X none tNoPart := by
  intro pins s σ H Q I h
  rw [evalPart_none]
  exact wpAny_pure ⟨none, H, I, .none, h⟩
theorem po_some (h : PE X e te) : PO X (some e) (tPart te) := by
  intro pins s σ H Q I hw
  rw [evalPart_some]
  refine thn (h pins s σ H _ I hw) fun u s1 ⟨x, H1, I1, r1, q1⟩ => ?_
  obtain ⟨i, rfl, q⟩ := q1
  obtain ⟨t, rfl⟩ := r1
  exact ⟨some i, H1, I1, .int i t, q⟩

/-- what a slice of a value is, by values: the slice object stands at sl -/
def SlR (X : Cx) (r : V → Option Int → Option Int → Hp → VK → Prop) : Prop :=
  ∀ (pins : List (Addr × Obj)) (s : Shared) (σ : St) (H : Hp) (x : V) (v vl vu : Value) (lo hi : Option Int) (sl : Addr) (Q : VK), Inv X pins σ H s → RelV x v → s.heap.IsSliceOf sl vl vu .none → IsPart vl lo → IsPart vu hi → r x lo hi H Q →
    ∃ T id, typeLookup (.type T) "__getitem__" = pure (some (.builtin id)) ∧ s.TypeIs v T ∧ wpAny (model X.prog X.w) X.A (getItem v (.ref sl)) (EP X pins σ Q) X.xe s
def tSl (r : V → Option Int → Option Int → Hp → VK → Prop) (te : TE) (tl th : TO) : TE := fun σ H Q => te σ H fun x H1 => tl σ H1 fun l H2 => th σ H2 fun u H3 => r x l u H3 Q
/-- a[lo:hi], any a -/
theorem pe_slice {r : V → Option Int → Option Int → Hp → VK → Prop} (hr : SlR X r) (he : PE X e te) (hl : PO X lo tl) (hu : PO X hi th) : PE X (.Subscript e (.Slice lo hi none p2) pos) (tSl r te tl th) := by
  intro pins s σ H Q I h
  refine Subscript_ (thn (he pins s σ H _ I h) fun v s1 ⟨x, H1, I1, r1, q1⟩ => ?_)
  refine wpAny_Slice (thn (hl pins s1 σ H1 _ I1 q1) fun vl s2 ⟨l, H2, I2, pl, q2⟩ => thn (hu pins s2 σ H2 _ I2 q2) fun vu s3 ⟨u, H3, I3, pu, q3⟩ => ?_)
  rw [evalPart_none]
  refine wpAny_pure ?_
  have I4 : Inv X pins σ H3 { s3 with heap := s3.heap.push { cls := .type "slice", data := .fields #[vl, vu, .none] } } := I3.kept (t' := s3.toks) fun b ob q => Heap.get?_push_of_some _ q
  obtain ⟨T, id, hT, ht, hg⟩ := hr pins { s3 with heap := s3.heap.push { cls := .type "slice", data := .fields #[vl, vu, .none] } } σ H3 x v vl vu l u s3.heap.objs.size Q I4 r1 (Heap.IsSliceOf.new ..) pl pu q3
  show wpAny (model X.prog X.w) X.A (subscriptTail e (.Slice lo hi none p2) v (.ref s3.heap.objs.size)) (EP X pins σ Q) X.xe { s3 with heap := s3.heap.push { cls := .type "slice", data := .fields #[vl, vu, .none] } }
  exact tail_any (ops := [.ref s3.heap.objs.size, v]) ht hT hg (by with_unfolding_all rfl)

/-- the items of xs[lo:hi] -/
def cutV (xs : List V) (lo hi : Option Int) : List V := (xs.drop (HT.sIx xs.length 0 lo)).take (HT.sIx xs.length xs.length hi - HT.sIx xs.length 0 lo)
theorem cutV_length (xs : List V) (lo hi : Option Int) : (cutV xs lo hi).length ≤ xs.length := by
  unfold cutV
  rw [List.length_take, List.length_drop]
  omega

/-! ### t < u, t + u -/
end
end L2

namespace L2
open PySem PySem.Spec PyProof.Rows

/-! ### places -/
/-- the place that an index of any sign means -/
def ixN (n : Nat) (i : Int) : Option Nat := if 0 ≤ i then (if i < n then some i.toNat else none) else if -(n : Int) ≤ i then some (i + n).toNat else none
def atI {α : Type} (xs : List α) (i : Int) : Option α := (ixN xs.length i).bind fun j => xs[j]?
theorem ixN_seq {n : Nat} {i : Int} {j : Nat} (h : ixN n i = some j) : seqIndex? i n = some j ∧ j < n ∧ -(n : Int) ≤ i ∧ i < n := by
  unfold ixN at h
  by_cases h0 : 0 ≤ i
  · rw [if_pos h0] at h
    by_cases h1 : i < n
    · rw [if_pos h1] at h
      have e : i.toNat = j := Option.some.inj h
      exact ⟨by rw [seqIndex_of h0 h1, e], by omega, by omega, h1⟩
    · rw [if_neg h1] at h; cases h
  · rw [if_neg h0] at h
    by_cases h1 : -(n : Int) ≤ i
    · rw [if_pos h1] at h
      have e : (i + n).toNat = j := Option.some.inj h
      exact ⟨by rw [seqIndex_neg (by omega) h1, e], by omega, h1, by omega⟩
    · rw [if_neg h1] at h; cases h
theorem atI_get {α : Type} {xs : List α} {i : Int} {v : α} (h : atI xs i = some v) : ∃ j, seqIndex? i xs.length = some j ∧ xs[j]? = some v ∧ j < xs.length ∧ -(xs.length : Int) ≤ i ∧ i < xs.length := by
  unfold atI at h
  cases e : ixN xs.length i with
  | none => rw [e] at h; cases h
  | some j =>
    rw [e] at h
    obtain ⟨h1, h2, h3, h4⟩ := ixN_seq e
    exact ⟨j, h1, h, h2, h3, h4⟩
theorem atI_nat {α : Type} {xs : List α} {j : Nat} {v : α} (h : xs[j]? = some v) : atI xs (j : Int) = some v := by
  have hj : j < xs.length := (List.getElem?_eq_some_iff.mp h).1
  have e : ixN xs.length (j : Int) = some j := by
    unfold ixN
    rw [if_pos (by omega), if_pos (by omega)]; simp
  unfold atI; rw [e]; exact h

/-! ### what may be subscripted -/
/-- what stands as an index of a plain subscript -/
def PlainIx (b : Expr) : Prop := ∀ o i, subscripted b false o i = operate [o, i] (getItem o i)
/-- a subscript by values -/
def IxR (X : Cx) (r : R2) : Prop :=
  ∀ (value slice : Expr) (pins : List (Addr × Obj)) (s : Shared) (σ : St) (H : Hp) (x y : V) (v u : Value) (Q : VK), Inv X pins σ H s → RelV x v → RelV y u → r x y H Q →
    subscripted slice false v u = operate [v, u] (getItem v u) → wpAny (model X.prog X.w) X.A (subscriptTail value slice v u) (EP X pins σ Q) X.xe s
/-- a call of a builtin's method by values: the receiver, the arguments -/
def MtR (X : Cx) (id : String) (r : V → List V → Hp → VK → Prop) : Prop :=
  ∀ (pins : List (Addr × Obj)) (s : Shared) (σ : St) (H : Hp) (x : V) (xs : List V) (v : Value) (us : List Value) (Q : VK), Inv X pins σ H s → RelV x v → Vals xs us → r x xs H Q →
    wpAny (model X.prog X.w) X.A (call (.builtin id) (v :: us)) (EP X pins σ Q) X.xe s
section
variable {X : Cx} {a b : Expr} {ta tb : TE} {pos : Pos}
theorem IxR.or {r r' : R2} (h : IxR X r) (h' : IxR X r') : IxR X (fun x y H Q => r x y H Q ∨ r' x y H Q) := by
  intro value slice pins s σ H x y v u Q I rx ry q hs
  rcases q with q | q
  · exact h value slice pins s σ H x y v u Q I rx ry q hs
  · exact h' value slice pins s σ H x y v u Q I rx ry q hs
/-- a[b] -/
theorem pe_ix {r : R2} (hr : IxR X r) (ha : PE X a ta) (hb : PE X b tb) (hs : PlainIx b := by exact fun _ _ => rfl) : PE X (.Subscript a b pos) (tOp r ta tb) := by
  intro pins s σ H Q I h
  exact Subscript_ (binT ha hb I h fun v u s2 x y H2 I2 rx ry q => hr a b pins s2 σ H2 x y v u Q I2 rx ry q (hs _ _))

def rIxL (K : PySem.W.Frag) : R2 := fun x y H Q => ∃ p xs i v, x = .ref p ∧ y = .int i ∧ SqL K H p xs ∧ atI xs i = some v ∧ Q v H
def rIxT (K : PySem.W.Frag) : R2 := fun x y H Q => ∃ p xs i v, x = .ref p ∧ y = .int i ∧ SqT K H p xs ∧ atI xs i = some v ∧ Q v H
def rIxS : R2 := fun x y H Q => ∃ z i c, x = .str z ∧ y = .int i ∧ z.length ≤ sizeLine ∧ atI z.cps.toList i = some c ∧ Q (.str ⟨#[c]⟩) H
theorem ix_list : IxR X (rIxL X.K) := by
  intro value slice pins s σ H x y v u Q I rx ry h hs
  obtain ⟨p, xs, i, z, rfl, rfl, hq, he, q⟩ := h
  cases rx
  obtain ⟨t, rfl⟩ := ry
  obtain ⟨its, r, pl, hz⟩ := I.list hq
  obtain ⟨j, h1, h2, h3, h4, h5⟩ := atI_get he
  obtain ⟨w, ew, rw'⟩ := r.get h2
  have hl := r.length
  have hn := line63
  have fin : EP X pins σ Q w s := ⟨z, H, I, rw', q⟩
  by_cases h0 : 0 ≤ i
  · have hj : i.toNat = j := by
      rw [seqIndex_of h0 h5] at h1
      exact Option.some.inj h1
    exact item_listR pl.isList h0 (by omega) (by rw [hj]; simpa using ew) fin hs
  · have hj : (i + (its.toArray.size : Int)).toNat = j := by
      rw [seqIndex_neg (by omega) h4] at h1
      rw [List.size_toArray, ← hl]
      exact Option.some.inj h1
    exact subscriptTail_builtinR (x := w) pl.isList.typeIs slot_list_getitem.lookup
      (wpAny_getItem_list_neg (Q := fun r s' => r = w ∧ EP X pins σ Q r s') pl.isList (by omega) (by rw [List.size_toArray] <;> omega) (by omega) (by rw [hj]; simpa using ew) ⟨rfl, fin⟩) hs
theorem ix_tup : IxR X (rIxT X.K) := by
  intro value slice pins s σ H x y v u Q I rx ry h hs
  obtain ⟨p, xs, i, z, rfl, rfl, hq, he, q⟩ := h
  cases rx
  obtain ⟨t, rfl⟩ := ry
  obtain ⟨its, r, pl, hz⟩ := I.tuple hq
  obtain ⟨j, h1, h2, h3, h4, h5⟩ := atI_get he
  obtain ⟨w, ew, rw'⟩ := r.get h2
  have hl := r.length
  have hn := line63
  have fin : EP X pins σ Q w s := ⟨z, H, I, rw', q⟩
  exact subscriptTail_builtinR (x := w) pl.typeIs slot_tuple_getitem.lookup
    (getItem_tuple (j := j) (Q := fun r s' => r = w ∧ EP X pins σ Q r s') pl (by omega) (by omega) (by rw [List.size_toArray, ← hl]; exact h1) (by simpa using ew) ⟨rfl, fin⟩) hs
theorem ix_str : IxR X rIxS := by
  intro value slice pins s σ H x y v u Q I rx ry h hs
  obtain ⟨z, i, c, rfl, rfl, hz, he, q⟩ := h
  obtain ⟨t, rfl⟩ := rx
  obtain ⟨t', rfl⟩ := ry
  obtain ⟨j, h1, h2, h3, h4, h5⟩ := atI_get he
  have hl : z.cps.toList.length = z.length := by simp [Str.length]
  rw [hl] at h1 h4 h5
  have hn := line63
  exact tail_any (typeIs_str s z t) slot_str_getitem.lookup (getItem_str (c := c) (by
    have e1 : decide (i < -(2 ^ 63 : Int)) = false := decide_eq_false (by omega)
    have e2 : decide (i ≥ 2 ^ 63) = false := decide_eq_false (by omega)
    rw [e1, e2, Bool.or_false]) (by rw [h1]; simpa using h2) ⟨.str ⟨#[c]⟩, H, I.tok _, ⟨_, rfl⟩, q⟩) hs
/-- list, tuple or str -/
def rIx (K : PySem.W.Frag) : R2 := fun x y H Q => rIxL K x y H Q ∨ rIxT K x y H Q ∨ rIxS x y H Q
theorem ix_seq : IxR X (rIx X.K) := ix_list.or (ix_tup.or ix_str)

/-! ### xs[i] = v, any sign -/
/-- the list's object behind a store -/
theorem mapSeq_set (its : List Value) (n j : Nat) (u : Value) : Obj.mapSeq (·.setIfInBounds j u) { cls := .type "list", data := .seq its.toArray n } = { cls := .type "list", data := .seq (its.set j u).toArray n } := by
  simp [Obj.mapSeq]
theorem Inv.lst {pins : List (Addr × Obj)} {σ : St} {H : Hp} {s : Shared} {p : Addr} {xs : List V} (I : Inv X pins σ H s) (h : H p = some (.lst xs)) :
    ∃ (its : List Value) (n : Nat), Vals xs its ∧ s.heap.get? p = some { cls := .type "list", data := .seq its.toArray n } ∧ xs.length ≤ sizeLine := by
  obtain ⟨z, its, n, r, e⟩ := I.hok p _ h
  exact ⟨its, n, r, e, z⟩
/-- the list at p is written by an update of its object -/
theorem Inv.lstUpd {pins : List (Addr × Obj)} {σ : St} {H : Hp} {s : Shared} {p : Addr} {xs ys : List V} {its its' : List Value} {n n' : Nat} {f : Obj → Obj} (I : Inv X pins σ H s) (h : H p = some (.lst xs))
    (ho : s.heap.get? p = some { cls := .type "list", data := .seq its.toArray n }) (hf : f { cls := .type "list", data := .seq its.toArray n } = { cls := .type "list", data := .seq its'.toArray n' }) (r : Vals ys its') (hz : ys.length ≤ sizeLine) (t : Nat) :
    Inv X pins σ (upd H p (.lst ys)) { s with heap := s.heap.update p f, toks := t } := by
  have e : (s.heap.update p f).get? p = some { cls := .type "list", data := .seq its'.toArray n' } := by
    rw [Heap.get?_update_self f ho (by rw [hf] <;> rfl), hf]
  refine I.write (x := p) (e := p) (by rw [h]; trivial) (.inl rfl) (fun b u hb q => (Heap.get?_update_other _ _ (Ne.symm hb)).trans q) ⟨_, e⟩ ?_
  exact ⟨hz, its', n', r, e⟩
def rSetL : V → V → V → Hp → (Hp → Prop) → Prop := fun o i v H Q => ∃ p xs k j, o = .ref p ∧ i = .int k ∧ H p = some (.lst xs) ∧ ixN xs.length k = some j ∧ Q (upd H p (.lst (xs.set j v)))
theorem set_list : PSet X rSetL := by
  intro pins s σ H o i v ov iv u Q I ro ri rv h
  obtain ⟨p, xs, k, j, rfl, rfl, hp, hj, q⟩ := h
  cases ro
  obtain ⟨t, rfl⟩ := ri
  obtain ⟨its, n, r, ho, hz⟩ := I.lst hp
  obtain ⟨h1, h2, h3, h4⟩ := ixN_seq hj
  have hl := r.length
  have hn := line63
  have I' : Inv X pins σ (upd H p (.lst (xs.set j v))) { s with heap := s.heap.update p (Obj.mapSeq (·.setIfInBounds j u)) } :=
    I.lstUpd hp ho (mapSeq_set its n j u) (r.set rv j) (by rw [List.length_set]; exact hz) s.toks
  by_cases h0 : 0 ≤ k
  · have hk : k.toNat = j := by
      rw [seqIndex_of h0 h4] at h1
      exact Option.some.inj h1
    exact PySem.W.ki_setAt ho h0 (by omega) (by rw [List.size_toArray, ← hl]; exact h4) (by rw [hk]; exact ⟨_, I', q⟩)
  · have hk : (k + (its.toArray.size : Int)).toNat = j := by
      rw [seqIndex_neg (by omega) h3] at h1
      rw [List.size_toArray, ← hl]
      exact Option.some.inj h1
    exact PySem.W.ki_setBack ho (by omega) (by rw [List.size_toArray, ← hl]; exact h3) (by omega) (by rw [hk]; exact ⟨_, I', q⟩)

/-! ### slices -/
theorem slice_bounds (lo hi : Option Int) (n : Nat) : (sliceBounds lo hi none n).1 = ((HT.sIx n 0 lo : Nat) : Int) ∧ (sliceBounds lo hi none n).2.1 = ((HT.sIx n n hi : Nat) : Int) ∧ (sliceBounds lo hi none n).2.2 = 1 := by
  refine ⟨?_, ?_, rfl⟩
  · cases lo with
    | none => simp [sliceBounds, HT.sIx]
    | some i =>
      simp only [sliceBounds, HT.sIx, Option.getD_none, show (1 : Int) > 0 by decide, if_true]
      by_cases h : i < 0
      · simp only [h, if_true] <;> omega
      · simp only [h, if_false] <;> omega
  · cases hi with
    | none => simp [sliceBounds, HT.sIx]
    | some i =>
      simp only [sliceBounds, HT.sIx, Option.getD_none, show (1 : Int) > 0 by decide, if_true]
      by_cases h : i < 0
      · simp only [h, if_true] <;> omega
      · simp only [h, if_false] <;> omega
theorem slicePick_cut (its : List Value) (lo hi : Option Int) : slicePick its.toArray lo hi none = ((its.drop (HT.sIx its.length 0 lo)).take (HT.sIx its.length its.length hi - HT.sIx its.length 0 lo)).toArray := by
  obtain ⟨h1, h2, h3⟩ := slice_bounds lo hi its.toArray.size
  unfold slicePick
  rw [h1, h2, h3]
  simp only [sliceRange_one, pick_run, List.size_toArray] <;> rfl
/-- xs[lo:hi] of a list: a new list -/
def rSlL (K : PySem.W.Frag) : V → Option Int → Option Int → Hp → VK → Prop := fun x lo hi H Q => ∃ a xs, x = .ref a ∧ SqL K H a xs ∧ ∀ p, H p = none → Q (.ref p) (upd H p (.lst (cutV xs lo hi)))
theorem sl_list : SlR X (rSlL X.K) := by
  intro pins s σ H x v vl vu lo hi sl Q I rx hs pl pu h
  obtain ⟨a, xs, rfl, hx, q⟩ := h
  cases rx
  obtain ⟨its, r, ht, hz⟩ := I.list hx
  have hlen := r.length
  refine ⟨"list", _, slot_list_getitem.lookup, ht.isList.typeIs, ?_⟩
  refine wpAny_getItem_list_slice ht.isList hs pl pu .none (by simp) ?_ (by rw [List.size_toArray] <;> omega)
  rw [slicePick_cut, ← hlen]
  refine ⟨.ref s.heap.objs.size, _, I.laid (t' := s.toks) (o := .lst (cutV xs lo hi)) (fun b ob q => Heap.get?_push_of_some _ q) (Nat.le_refl _) ?_, rfl, q _ (I.hok.fresh (Nat.le_refl _))⟩
  exact ⟨Nat.le_trans (cutV_length xs lo hi) hz, _, 0, (r.drop (HT.sIx xs.length 0 lo)).take (HT.sIx xs.length xs.length hi - HT.sIx xs.length 0 lo), Heap.get?_push_size _ rfl⟩

/-! ### in, not in: flat items -/

/-! ### len, list(x), tuple(x) of any list or tuple that is read -/
theorem call_list_of : CallR X (.type "list") (fun xs H Q => ∃ p ys, xs = [.ref p] ∧ (SqL X.K H p ys ∨ SqT X.K H p ys) ∧ ∀ l, H l = none → Q (.ref l) (upd H l (.lst ys))) := by
  intro pins s σ H xs us Q I r h
  obtain ⟨p, ys, rfl, hq, q⟩ := h
  obtain ⟨u, rfl, rx⟩ := vals1 r
  cases rx
  have fin : ∀ (its : List Value), Vals ys its → ys.length ≤ sizeLine → ∀ (h' : Heap) (c' : Nat), (∀ b o', s.heap.get? b = some o' → h'.get? b = some o') →
      h'.get? s.heap.objs.size = some { cls := .type "list", dict := none, data := .seq its.toArray c', slots := #[] } → EP X pins σ Q (.ref s.heap.objs.size) { s with heap := h' } := fun its r' hz h' c' kp e =>
    ⟨.ref s.heap.objs.size, _, I.laid (t' := s.toks) kp (Nat.le_refl _) (show ObjOk X.prog X.w _ h' _ (.lst ys) from ⟨hz, its, c', r', e⟩), rfl, q _ (I.hok.fresh (Nat.le_refl _))⟩
  rcases hq with hq | hq
  · obtain ⟨its, r', pl, hz⟩ := I.list hq
    have hlen := r'.length
    obtain ⟨o, ho, hc, n, hd⟩ := pl.isList
    exact call_list_seq p (.inl rfl) ho hc hd (fun h' c' kp e => fin its r' hz h' c' kp e) (by simp only [List.size_toArray] <;> omega)
  · obtain ⟨its, r', pl, hz⟩ := I.tuple hq
    have hlen := r'.length
    obtain ⟨o, ho, hc, n, hd⟩ := pl
    exact call_list_seq p (.inr rfl) ho hc hd (fun h' c' kp e => fin its r' hz h' c' kp e) (by simp only [List.size_toArray] <;> omega)

/-! ### the call of a builtin's method: o.m(..) -/
/-- the value is of that builtin type -/
def tyV (K : PySem.W.Frag) (T : String) (x : V) (H : Hp) : Prop := match x with
  | .str _ => T = "str"
  | .int _ => T = "int"
  | .ref p => (T = "list" ∧ ∃ xs, SqL K H p xs) ∨ (T = "tuple" ∧ ∃ o, K.lookup p = some o ∧ o.cls = .type "tuple" ∧ o.dict = none) ∨
      (T = "dict" ∧ ((∃ kvs, H p = some (.dK kvs)) ∨ ∃ kvs, H p = some (.dT kvs))) ∨ (T = "set" ∧ ∃ S n, H p = some (.set S n))
  | _ => False
theorem tyV_is {pins : List (Addr × Obj)} {σ : St} {H : Hp} {s : Shared} {T : String} {x : V} {v : Value} (I : Inv X pins σ H s) (r : RelV x v) (ty : tyV X.K T x H) :
    s.TypeIs v T ∧ ∀ a, v = .ref a → ∃ ob, s.heap.get? a = some ob ∧ ob.dict = none := by
  cases x with
  | str z =>
    obtain ⟨t, rfl⟩ := r
    cases (show T = "str" from ty)
    exact ⟨typeIs_str s z t, fun _ e => nomatch e⟩
  | int i =>
    obtain ⟨t, rfl⟩ := r
    cases (show T = "int" from ty)
    exact ⟨typeIs_int s i t, fun _ e => nomatch e⟩
  | ref p =>
    cases r
    rcases ty with ⟨rfl, xs, hq⟩ | ⟨rfl, o, hk, hc, hd⟩ | ⟨rfl, hk⟩ | ⟨rfl, S, n, hk⟩
    · obtain ⟨its, _, pl, _⟩ := I.list hq
      refine ⟨pl.isList.typeIs, fun a e => ?_⟩
      cases e
      obtain ⟨o, n, e, c, hd, _⟩ := pl
      exact ⟨o, e, hd⟩
    · refine ⟨⟨o, I.kIn p o hk, hc⟩, fun a e => ?_⟩
      cases e
      exact ⟨o, I.kIn _ o hk, hd⟩
    · have z : ∃ o, s.heap.get? p = some o ∧ o.ExactDict := by
        rcases hk with ⟨kvs, hk⟩ | ⟨kvs, hk⟩
        · obtain ⟨_, _, _, _, o, _, _, e, ex, _⟩ := I.hok p _ hk
          exact ⟨o, e, ex⟩
        · obtain ⟨_, _, _, _, o, _, _, e, ex, _⟩ := I.hok p _ hk
          exact ⟨o, e, ex⟩
      obtain ⟨o, e, ex⟩ := z
      refine ⟨⟨o, e, ex.1⟩, fun a e2 => ?_⟩
      cases e2
      exact ⟨o, e, ex.2.1⟩
    · obtain ⟨o, _, _, _, e, ex, _⟩ := I.hok p _ hk
      refine ⟨⟨o, e, ex.1⟩, fun a e2 => ?_⟩
      cases e2
      exact ⟨o, e, ex.2.1⟩
  | _ => exact False.elim ty
def tBM0 (K : PySem.W.Frag) (T : String) (r : V → List V → Hp → VK → Prop) (to : TE) : TE := fun σ H Q => to σ H fun x H1 => tyV K T x H1 ∧ r x [] H1 Q
def tBM (K : PySem.W.Frag) (T : String) (r : V → List V → Hp → VK → Prop) (to : TE) (t : TA) : TE := fun σ H Q => to σ H fun x H1 => tyV K T x H1 ∧ t σ H1 fun xs H2 => r x xs H2 Q
variable {o e : Expr} {es : List Expr} {to : TE} {t : TA} {name : Str} {apos cpos : Pos} {T id : String} {r : V → List V → Hp → VK → Prop}
theorem pe_bm0 (pa : PlainAttrs T) (slot : Slot T name id) (hty : typeOf (.builtin id) = pure (.type "method_descriptor")) (hm : MtR X id r) (ho : PE X o to)
    (hbase : attributeBase o name X.env (eval o X.env) = eval o X.env := by rfl) (hline : (apos.endLine == cpos.line) = true := by rfl) : PE X (.Call (.Attribute o name apos) [] [] cpos) (tBM0 X.K T r to) := by
  intro pins s σ H Q I h
  refine wpAny_Call_method0_late hbase hline (thn (ho pins s σ H _ I h) fun v s1 ⟨x, H1, I1, r1, ty, q1⟩ => ?_)
  obtain ⟨h1, h2⟩ := tyV_is I1 r1 ty
  exact ⟨T, id, pa, slot, hty, h1, h2, Calls.callWith_builtin rfl (PySem.evalArgs_none (hm pins s1 σ H1 x [] v [] Q I1 r1 .nil q1))⟩
theorem pe_bm (pa : PlainAttrs T) (slot : Slot T name id) (hty : typeOf (.builtin id) = pure (.type "method_descriptor")) (hm : MtR X id r) (ho : PE X o to) (ha : PA X (e :: es) t)
    (hbase : attributeBase o name X.env (eval o X.env) = eval o X.env := by rfl)
    (hfew : ((backTo cpos (starEach (e :: es) X.env)).all (fun x => !x.1) && (backToKw cpos (keywordEach [] X.env)).all (fun x => x.1.isSome)
      && decide ((e :: es).length + ([] : List Keyword).length + (if ([] : List Keyword).isEmpty then 0 else 1) < 30)) = true := by rfl)
    (hline : (apos.endLine == cpos.line) = true := by rfl) (hs : starEach (e :: es) X.env = (false, eval e X.env) :: starEach es X.env := by rfl) (hplain : (backTo cpos (starEach es X.env)).any (·.1) = false := by rfl) :
    PE X (.Call (.Attribute o name apos) (e :: es) [] cpos) (tBM X.K T r to t) := by
  intro pins s σ H Q I h
  refine wpAny_Call_method_late hbase hfew hline rfl (thn (ho pins s σ H _ I h) fun v s1 ⟨x, H1, I1, r1, ty, q1⟩ => ?_)
  obtain ⟨h1, h2⟩ := tyV_is I1 r1 ty
  refine ⟨T, id, pa, slot, hty, h1, h2, ?_⟩
  have hA := ha cpos pins s1 σ H1 _ I1 q1
  rw [hs] at hA ⊢
  refine Calls.callWith_builtin (by show (false || (backTo cpos (starEach es X.env)).any (·.1)) = false; rw [hplain] <;> rfl) (Calls.evalArgs_plain ?_)
  exact thn hA fun us s2 ⟨vs, H2, I2, r2, q2⟩ => hm pins s2 σ H2 x vs v us Q I2 r1 r2 q2
/- xs.append(e), list.index on a module's tuple .. are MtR facts of 06m -/
end
end L2

namespace L2
open PySem PySem.Spec PyProof.Rows

def MtM (X : Cx) (id : String) (r : V → List V → Hp → VK → Prop) : Prop :=
  ∀ (pins : List (Addr × Obj)) (s : Shared) (σ : St) (H : Hp) (x : V) (xs : List V) (v : Value) (us : List Value) (Q : VK), Inv X pins σ H s → RelV x v → Vals xs us → r x xs H Q →
    wpAny (model X.prog X.w) X.A (call (.builtin id) (v :: us)) (EP X pins σ Q) X.xe s

/-! ### lists of values -/
theorem Vals.one : ∀ {x : V} {us : List Value}, Vals [x] us → ∃ u, us = [u] ∧ RelV x u
  | _, _, .cons r .nil => ⟨_, rfl, r⟩
theorem Vals.zero : ∀ {us : List Value}, Vals [] us → us = []
  | _, .nil => rfl

section
variable {X : Cx} {pins : List (Addr × Obj)} {σ : St} {H : Hp} {s : Shared} {l b : Addr} {xs ys zs : List V}

/-! ### the two steps: a tracked list is rewritten, a new list is laid -/
theorem Inv.lset {its its' : List Value} {n : Nat} {f : Array Value → Array Value} {t' : Nat} (I : Inv X pins σ H s) (hH : H l = some (.lst xs))
    (e : s.heap.get? l = some { cls := .type "list", data := .seq its.toArray n }) (hf : f its.toArray = its'.toArray) (hv : Vals ys its') (hz : ys.length ≤ sizeLine) :
    Inv X pins σ (upd H l (.lst ys)) { s with heap := s.heap.update l (Obj.mapSeq f), toks := t' } := by
  have q := PySem.IsL.update e f
  rw [hf] at q
  refine I.write (x := l) (e := l) (by rw [hH]; exact trivial) (.inl rfl) (fun b' u hb hu => (Heap.get?_update_other s.heap (Obj.mapSeq f) (Ne.symm hb)).trans hu) ⟨_, q⟩ ?_
  exact ⟨hz, its', _, hv, q⟩
theorem Inv.lstM (I : Inv X pins σ H s) (hH : H l = some (.lst xs)) : xs.length ≤ sizeLine ∧ ∃ (its : List Value) (n : Nat), Vals xs its ∧ xs.length = its.length ∧ s.heap.get? l = some { cls := .type "list", data := .seq its.toArray n } := by
  obtain ⟨z, its, n, r, e⟩ := I.hok l _ hH
  exact ⟨z, its, n, r, r.length, e⟩

end

section
variable {X : Cx}

/-! ### methods -/
def rAppend : V → List V → Hp → VK → Prop := fun x vs H Q => ∃ l xs y, x = .ref l ∧ vs = [y] ∧ H l = some (.lst xs) ∧ xs.length < sizeLine ∧ Q .non (upd H l (.lst (xs ++ [y])))
theorem mt_append : MtM X "list.append" rAppend := by
  intro pins s σ H x vs v us Q I rx rv h
  obtain ⟨l, xs, y, rfl, rfl, hH, hz, q⟩ := h
  cases rx
  obtain ⟨u, rfl, ru⟩ := rv.one
  obtain ⟨z, its, n, r, hl, e⟩ := I.lstM hH
  refine call_meets F.slot_list_append ⟨_, e, rfl⟩ F.entry_list_append (F.args_list_append_2 _ _) (PySem.list_append l its.toArray n u (by rw [List.size_toArray]; omega)) ⟨e, ?_⟩
  refine ⟨.non, _, I.lset (its' := its ++ [u]) hH e (by simp) (r.append (.cons ru .nil)) ?_, rfl, q⟩
  rw [List.length_append, List.length_singleton]
  omega





def rClear : V → List V → Hp → VK → Prop := fun x vs H Q => ∃ l xs, x = .ref l ∧ vs = [] ∧ H l = some (.lst xs) ∧ Q .non (upd H l (.lst []))
theorem mt_clear : MtM X "list.clear" rClear := by
  intro pins s σ H x vs v us Q I rx rv h
  obtain ⟨l, xs, rfl, rfl, hH, q⟩ := h
  cases rx
  have hus := rv.zero
  subst hus
  obtain ⟨z, its, n, r, hl, e⟩ := I.lstM hH
  refine call_meets F.slot_list_clear ⟨_, e, rfl⟩ F.entry_list_clear (F.args_list_clear_1 _) (AutoSeq1.list_clear_list_0 l its.toArray n (by rw [List.size_toArray]; omega)) ⟨e, ?_⟩
  exact ⟨.non, _, I.lset (its' := []) (ys := []) hH e rfl .nil (Nat.zero_le _), rfl, q⟩

/-! ### list + list, list += list, list * int -/

/-! ### del xs[i] -/
end

/-! ### xs[a:b] = ys -/
section
variable {prog : Program} {w : World} {A : Around} {E : Value → Shared → Prop} {s : Shared}
end

section
variable {X : Cx}
end
end L2

namespace L2
open PySem PySem.Spec PyProof.Rows

/-! ### lists of pairs as tables -/
section
variable {κ : Type} [DecidableEq κ]
def valV (kvs : List (κ × V)) (k : κ) : Option V := (kvs.find? fun kv => decide (kv.1 = k)).map (·.2)
/-- in its place, or at the end -/
def putK (kvs : List (κ × V)) (k : κ) (v : V) : List (κ × V) :=
  if (kvs.any fun kv => decide (kv.1 = k)) = true then kvs.map (fun kv => if kv.1 = k then (kv.1, v) else kv) else kvs ++ [(k, v)]

theorem valV_pos {p : κ × V} {r : List (κ × V)} {k : κ} (e : p.1 = k) : valV (p :: r) k = some p.2 := by simp [valV, List.find?_cons, e]
theorem valV_neg {p : κ × V} {r : List (κ × V)} {k : κ} (e : ¬ p.1 = k) : valV (p :: r) k = valV r k := by simp [valV, List.find?_cons, e]
theorem valV_any (k : κ) : ∀ kvs : List (κ × V), (kvs.any fun kv => decide (kv.1 = k)) = (valV kvs k).isSome
  | [] => rfl
  | p :: r => by
    rw [List.any_cons]
    by_cases e : p.1 = k
    · simp only [valV_pos e, decide_eq_true e, Bool.true_or, Option.isSome_some]
    · rw [valV_neg e, decide_eq_false e, Bool.false_or]; exact valV_any k r
theorem valV_map (k j : κ) (y : V) : ∀ kvs : List (κ × V), valV (kvs.map fun kv => if kv.1 = k then (kv.1, y) else kv) j = (valV kvs j).map fun x => if j = k then y else x
  | [] => rfl
  | p :: r => by
    have ih := valV_map k j y r
    rw [List.map_cons]
    by_cases h : p.1 = k
    · rw [if_pos h]
      by_cases e : p.1 = j
      · rw [valV_pos (p := (p.1, y)) e, valV_pos e, Option.map_some, if_pos (e.symm.trans h)]
      · rw [valV_neg (p := (p.1, y)) e, valV_neg e, ih]
    · rw [if_neg h]
      by_cases e : p.1 = j
      · rw [valV_pos (p := p) e, valV_pos e, Option.map_some, if_neg (fun z => h (e.trans z))]
      · rw [valV_neg (p := p) e, valV_neg e, ih]
theorem valV_snoc (k j : κ) (y : V) : ∀ kvs : List (κ × V), valV kvs k = none → valV (kvs ++ [(k, y)]) j = if j = k then some y else valV kvs j
  | [], _ => by
    by_cases e : k = j
    · rw [if_pos e.symm]; exact valV_pos (p := (k, y)) e
    · rw [if_neg (fun z => e z.symm)]; exact valV_neg (p := (k, y)) e
  | p :: r, hn => by
    rw [List.cons_append]
    have hk : ¬ p.1 = k := fun z => by rw [valV_pos z] at hn; cases hn
    rw [valV_neg hk] at hn
    have ih := valV_snoc k j y r hn
    by_cases e : p.1 = j
    · rw [valV_pos e, valV_pos e, if_neg (fun z => hk (e.trans z))]
    · rw [valV_neg e, valV_neg e, ih]
theorem valV_put (kvs : List (κ × V)) (k j : κ) (y : V) : valV (putK kvs k y) j = if j = k then some y else valV kvs j := by
  unfold putK
  by_cases a : (kvs.any fun kv => decide (kv.1 = k)) = true
  · rw [if_pos a, valV_map]
    rw [valV_any] at a
    by_cases e : j = k
    · obtain ⟨x, hx⟩ := Option.isSome_iff_exists.mp a
      rw [if_pos e, e, hx, Option.map_some, if_pos rfl]
    · rw [if_neg e]
      cases valV kvs j with
      | none => rfl
      | some x => rw [Option.map_some, if_neg e]
  · rw [if_neg a]
    refine valV_snoc k j y kvs ?_
    rw [valV_any] at a
    cases q : valV kvs k with
    | none => rfl
    | some x => rw [q] at a; exact (a rfl).elim
theorem length_putK (kvs : List (κ × V)) (k : κ) (v : V) : (putK kvs k v).length ≤ kvs.length + 1 := by
  unfold putK
  split
  · rw [List.length_map]; omega
  · rw [List.length_append, List.length_cons, List.length_nil]; omega
theorem putK_new {kvs : List (κ × V)} {k : κ} (v : V) (h : valV kvs k = none) : putK kvs k v = kvs ++ [(k, v)] := by
  unfold putK
  rw [valV_any, h]
  exact if_neg (by decide)

theorem RelO.isSome_eq {o : Option V} {u : Option Value} (r : RelO o u) : o.isSome = u.isSome := by
  cases o with
  | none => cases u with
    | none => rfl
    | some _ => exact (show False from r).elim
  | some _ => cases u with
    | none => exact (show False from r).elim
    | some _ => rfl
theorem RelO.getD {o : Option V} {u : Option Value} {d : V} {d' : Value} (r : RelO o u) (rd : RelV d d') : RelV (o.getD d) (u.getD d') := by
  cases o with
  | none => cases u with
    | none => exact rd
    | some _ => exact (show False from r).elim
  | some _ => cases u with
    | none => exact (show False from r).elim
    | some _ => exact r

/-- raw tables of the same keys -/
theorem KV.val {kvs : List (κ × V)} {vs : List (κ × Value)} (r : KV kvs vs) (k : κ) : RelO (valV kvs k) (valueAt vs k) := by
  unfold KV at r
  induction r with
  | nil => exact True.intro
  | @cons p q ps qs h t ih =>
    obtain ⟨h1, h2⟩ := h
    by_cases e : p.1 = k
    · have e' : q.1 = k := h1.symm.trans e
      have b : valueAt (q :: qs) k = some q.2 := by simp [valueAt, List.find?_cons, e']
      rw [valV_pos e, b]; exact h2
    · have e' : ¬ q.1 = k := fun z => e (h1.trans z)
      have b : valueAt (q :: qs) k = valueAt qs k := by simp [valueAt, List.find?_cons, e']
      rw [valV_neg e, b]; exact ih
theorem KV.any {kvs : List (κ × V)} {vs : List (κ × Value)} (r : KV kvs vs) (k : κ) : (kvs.any fun kv => decide (kv.1 = k)) = vs.any fun kv => decide (kv.1 = k) := by
  unfold KV at r
  induction r with
  | nil => rfl
  | cons h t ih => rw [List.any_cons, List.any_cons, ih, h.1]
theorem KV.repl {kvs : List (κ × V)} {vs : List (κ × Value)} (r : KV kvs vs) (k : κ) {y : V} {u : Value} (ry : RelV y u) :
    KV (kvs.map fun kv => if kv.1 = k then (kv.1, y) else kv) (vs.map fun kv => if kv.1 = k then (kv.1, u) else kv) := by
  unfold KV at r ⊢
  induction r with
  | nil => exact .nil
  | @cons p q ps qs h t ih =>
    rw [List.map_cons, List.map_cons]
    refine .cons ?_ ih
    obtain ⟨h1, h2⟩ := h
    by_cases e : p.1 = k
    · rw [if_pos e, if_pos (h1.symm.trans e)]; exact ⟨h1, ry⟩
    · rw [if_neg e, if_neg (fun z => e (h1.trans z))]; exact ⟨h1, h2⟩
theorem KV.put {kvs : List (κ × V)} {vs : List (κ × Value)} (r : KV kvs vs) (k : κ) {y : V} {u : Value} (ry : RelV y u) : KV (putK kvs k y) (stored vs k u) := by
  unfold putK stored
  rw [r.any k]
  by_cases e : (vs.any fun kv => decide (kv.1 = k)) = true
  · rw [if_pos e, if_pos e]; exact r.repl k ry
  · rw [if_neg e, if_neg e]; exact Paired.snoc r ⟨rfl, ry⟩
theorem KV.keys {kvs : List (κ × V)} {vs : List (κ × Value)} (r : KV kvs vs) : kvs.map (·.1) = vs.map (·.1) := by
  unfold KV at r
  induction r with
  | nil => rfl
  | cons h t ih => rw [List.map_cons, List.map_cons, ih, h.1]
theorem KV.length {kvs : List (κ × V)} {vs : List (κ × Value)} (r : KV kvs vs) : kvs.length = vs.length := Paired.length r
end


/-! ### a tracked dict, its keys ints and texts or tuples of these -/
theorem kV_is {P : Program} {w : World} {k : Key} {u : Value} (r : RelV (kV k) u) : (mixKind P w).is k u = true := by
  cases k with
  | inl i => obtain ⟨t, e⟩ := (show ∃ t, u = Value.int i t from r); subst e; exact mixKind_int P w i t
  | inr x => obtain ⟨t, e⟩ := (show ∃ t, u = Value.str x t from r); subst e; exact mixKind_str P w x t
theorem items_are {P : Program} {w : World} : ∀ {ks : List Key} {us : List Value}, Vals (ks.map kV) us → ItemsAre (mixKind P w) ks us
  | [], _, r => by rw [List.map_nil] at r; cases r; exact .nil
  | k :: ks, _, r => by
    rw [List.map_cons] at r
    cases r with
    | cons h t => exact .cons (kV_is h) (items_are t)

/-- raw entries of a dict with tuple keys -/
abbrev KT (H : Hp) : List (List Key × V) → List (List Key × Addr × Value) → Prop := Paired fun p q => p.1 = q.1 ∧ H q.2.1 = some (.tup (p.1.map kV)) ∧ RelV p.2 q.2.2
theorem KT.val {H : Hp} {kvs : List (List Key × V)} {xs : List (List Key × Addr × Value)} (r : KT H kvs xs) (k : List Key) : RelO (valV kvs k) ((atKey xs k).map (·.2)) := by
  induction r with
  | nil => exact True.intro
  | @cons p q ps qs h t ih =>
    obtain ⟨h1, _, h2⟩ := h
    by_cases e : p.1 = k
    · have e' : q.1 = k := h1.symm.trans e
      have b : atKey (q :: qs) k = some q.2 := by simp [atKey, List.find?_cons, e']
      rw [valV_pos e, b]; exact h2
    · have e' : ¬ q.1 = k := fun z => e (h1.trans z)
      have b : atKey (q :: qs) k = atKey qs k := by simp [atKey, List.find?_cons, e']
      rw [valV_neg e, b]; exact ih
theorem KT.repl {H : Hp} {kvs : List (List Key × V)} {xs : List (List Key × Addr × Value)} (r : KT H kvs xs) (k : List Key) {y : V} {u : Value} (ry : RelV y u) :
    KT H (kvs.map fun kv => if kv.1 = k then (kv.1, y) else kv) (xs.map (putAt k u)) := by
  induction r with
  | nil => exact .nil
  | @cons p q ps qs h t ih =>
    rw [List.map_cons, List.map_cons]
    refine .cons ?_ ih
    obtain ⟨h1, h2, h3⟩ := h
    unfold putAt
    by_cases e : p.1 = k
    · rw [if_pos e, if_pos (h1.symm.trans e)]; exact ⟨h1, h2, ry⟩
    · rw [if_neg e, if_neg (fun z => e (h1.trans z))]; exact ⟨h1, h2, h3⟩
theorem KT.put {H : Hp} {kvs : List (List Key × V)} {xs : List (List Key × Addr × Value)} (r : KT H kvs xs) (k : List Key) {b : Addr} {y : V} {u : Value} (hb : H b = some (.tup (k.map kV))) (ry : RelV y u) :
    KT H (putK kvs k y) (storedH xs k b u) := by
  have e : (kvs.any fun kv => decide (kv.1 = k)) = (atKey xs k).isSome := by
    rw [valV_any, (r.val k).isSome_eq, Option.isSome_map]
  unfold putK storedH
  rw [e]
  by_cases q : (atKey xs k).isSome = true
  · rw [if_pos q, if_pos q]; exact r.repl k ry
  · rw [if_neg q, if_neg q]; exact Paired.snoc r ⟨rfl, hb, ry⟩
theorem KT.keeps {H H' : Hp} {kvs : List (List Key × V)} {xs : List (List Key × Addr × Value)} (r : KT H kvs xs) (ht : ∀ b ys, H b = some (.tup ys) → H' b = some (.tup ys)) : KT H' kvs xs :=
  Paired.mapP r fun _ _ z => ⟨z.1, ht _ _ z.2.1, z.2.2⟩

section
variable {P : Program} {w : World} {H : Hp} {h : Heap} {a : Addr}
theorem rd_of {u : HO} (ok : HOk P w H h) (e : Rd H a u) : ObjOk P w H h a u := e.ok ok
theorem dk_rd {kvs : List (Key × V)} (ok : HOk P w H h) (e : Rd H a (.dK kvs)) : kvs.length ≤ sizeLine ∧ (a == sysModules) = false ∧ ∃ vs, KV kvs vs ∧ h.DictOf (mixKind P w) a vs :=
  show ObjOk P w H h a (.dK kvs) from rd_of ok e
theorem dk_of {kvs : List (Key × V)} (ok : HOk P w H h) (e : H a = some (.dK kvs)) : kvs.length ≤ sizeLine ∧ (a == sysModules) = false ∧ ∃ vs, KV kvs vs ∧ h.DictOf (mixKind P w) a vs := dk_rd ok (.inl e)
/-- a tracked tuple of ints and texts is a key -/
theorem key_of {ks : List Key} (ok : HOk P w H h) (e : H a = some (.tup (ks.map kV))) : (tupleKind (mixKind P w)).is h ks a := by
  obtain ⟨_, its, r, o, h1, h2, n, h3⟩ := (show ObjOk P w H h a (.tup (ks.map kV)) from ok a _ e)
  exact ⟨o, its.toArray, n, h1, h2, h3, by simpa using items_are r⟩
theorem dt_rd {kvs : List (List Key × V)} (ok : HOk P w H h) (e : Rd H a (.dT kvs)) : kvs.length ≤ sizeLine ∧ (a == sysModules) = false ∧
    ∃ xs, KT H kvs xs ∧ h.DictOfH (tupleKind (mixKind P w)) a xs := by
  obtain ⟨z, y, xs, r, o, es, ep, h1, h2, h3, h4, h5⟩ := (show ObjOk P w H h a (.dT kvs) from rd_of ok e)
  refine ⟨z, y, xs, r, o, es, ep, h1, h2, h3, h4, fun x hx => ?_, h5⟩
  have all : ∀ {l : List (List Key × V)} {m : List (List Key × Addr × Value)}, KT H l m → ∀ x ∈ m, (tupleKind (mixKind P w)).is h x.1 x.2.1 := by
    intro l m q
    induction q with
    | nil => intro x hx; exact nomatch hx
    | @cons p q ps qs hq t ih =>
      intro x hx
      rcases List.mem_cons.mp hx with e | hx
      · subst e
        exact key_of ok (by rw [← hq.1]; exact hq.2.1)
      · exact ih x hx
  exact all r x hx
theorem dt_of {kvs : List (List Key × V)} (ok : HOk P w H h) (e : H a = some (.dT kvs)) : kvs.length ≤ sizeLine ∧ (a == sysModules) = false ∧
    ∃ xs, KT H kvs xs ∧ h.DictOfH (tupleKind (mixKind P w)) a xs := dt_rd ok (.inl e)
end

/-- what the dict at a holds at the key y -/
def DGet (H : Hp) (a : Addr) (y : V) (r : Option V) : Prop :=
  (∃ kvs k, Rd H a (.dK kvs) ∧ y = kV k ∧ r = valV kvs k) ∨ ∃ kvs k b, Rd H a (.dT kvs) ∧ y = .ref b ∧ H b = some (.tup (k.map kV)) ∧ r = valV kvs k
/-- the heap behind a[y] = v -/
def DPut (H : Hp) (a : Addr) (y v : V) (H' : Hp) : Prop :=
  (∃ kvs k, H a = some (.dK kvs) ∧ y = kV k ∧ kvs.length < sizeLine ∧ H' = upd H a (.dK (putK kvs k v))) ∨
  ∃ kvs k b, H a = some (.dT kvs) ∧ y = .ref b ∧ H b = some (.tup (k.map kV)) ∧ kvs.length < sizeLine ∧ H' = upd H a (.dT (putK kvs k v))
theorem DGet.k {H : Hp} {a : Addr} {kvs : List (Key × V)} {k : Key} (e : H a = some (.dK kvs)) : DGet H a (kV k) (valV kvs k) := .inl ⟨kvs, k, .inl e, rfl, rfl⟩
theorem DPut.k {H : Hp} {a : Addr} {kvs : List (Key × V)} {k : Key} {v : V} (e : H a = some (.dK kvs)) (hl : kvs.length < sizeLine) : DPut H a (kV k) v (upd H a (.dK (putK kvs k v))) := .inl ⟨kvs, k, e, rfl, hl, rfl⟩


section
variable {X : Cx} {pins : List (Addr × Obj)} {σ : St} {H : Hp} {s : Shared} {a : Addr} {y v : V} {u r : Value} {o : Option V} {A : Around} {E : Value → Shared → Prop}

theorem Inv.big (I : Inv X pins σ H s) : sysModules < s.heap.objs.size := by
  have h : mainGlobals < s.heap.objs.size := (I.mod.glob.keeps I.bk).lt
  exact Nat.lt_trans (by decide) h

/-- y in d -/
theorem d_in {Q : Value → Shared → Prop} (hu : A.units + 1 < cLine) (I : Inv X pins σ H s) (g : DGet H a y o) (ry : RelV y u) (h : ∀ s', Inv X pins σ H s' → Q (.bool o.isSome) s') :
    wpAny (model X.prog X.w) A (compareOp .In u (.ref a)) Q E s := by
  rcases g with ⟨kvs, k, e, ey, l⟩ | ⟨kvs, k, b, e, ey, eb, l⟩
  · subst ey
    obtain ⟨z, hd, vs, rel, dd⟩ := dk_rd I.hok e
    refine wpAny_in_of (kV_is ry) hd dd.mapOf ?_
    rw [← (rel.val k).isSome_eq, ← l]
    exact h _ (I.tok _)
  · subst ey
    cases (show u = Value.ref b from ry)
    obtain ⟨z, hd, xs, rel, dd⟩ := dt_rd I.hok e
    refine wpAny_in_heap (tupleKind_room_in1 hu) (key_of I.hok eb) hd dd ?_
    have q := (rel.val k).isSome_eq
    rw [Option.isSome_map] at q
    rw [← q, ← l]
    exact h _ (I.tok _)
theorem d_notIn {Q : Value → Shared → Prop} (hu : A.units + 1 < cLine) (I : Inv X pins σ H s) (g : DGet H a y o) (ry : RelV y u) (h : ∀ s', Inv X pins σ H s' → Q (.bool (!o.isSome)) s') :
    wpAny (model X.prog X.w) A (compareOp .NotIn u (.ref a)) Q E s := by
  rcases g with ⟨kvs, k, e, ey, l⟩ | ⟨kvs, k, b, e, ey, eb, l⟩
  · subst ey
    obtain ⟨z, hd, vs, rel, dd⟩ := dk_rd I.hok e
    refine wpAny_notIn_of (kV_is ry) hd dd.mapOf ?_
    rw [← (rel.val k).isSome_eq, ← l]
    exact h _ (I.tok _)
  · subst ey
    cases (show u = Value.ref b from ry)
    obtain ⟨z, hd, xs, rel, dd⟩ := dt_rd I.hok e
    refine wpAny_notIn_heap (tupleKind_room_in1 hu) (key_of I.hok eb) hd dd ?_
    have q := (rel.val k).isSome_eq
    rw [Option.isSome_map] at q
    rw [← q, ← l]
    exact h _ (I.tok _)
/-- a dict's object is replaced -/
theorem d_write {h' : Heap} {t' : Nat} {ob : HO} (I : Inv X pins σ H s) (mu : Mut (H a)) (hs : Heap.SameBut a s.heap h') (he : ∃ q, h'.get? a = some q) (new : ObjOk X.prog X.w (upd H a ob) h' a ob) :
    Inv X pins σ (upd H a ob) { s with heap := h', toks := t' } :=
  I.write (x := a) (e := a) mu (.inl rfl) (fun b q hb z => (hs.2 b hb).trans z) he new
theorem dk_new {P : Program} {w : World} {H' : Hp} {h' : Heap} {kvs : List (Key × V)} {vs : List (Key × Value)} (z : kvs.length ≤ sizeLine) (hd : (a == sysModules) = false) (rel : KV kvs vs) (dd : h'.DictOf (mixKind P w) a vs) :
    ObjOk P w H' h' a (.dK kvs) := ⟨z, hd, vs, rel, dd⟩
/-- d[y] = v -/
theorem d_setItem {H' : Hp} {Q : Unit → Shared → Prop} (hu : A.units + 1 < cLine) (I : Inv X pins σ H s) (g : DPut H a y v H') (ry : RelV y u) (rv : RelV v r) (h : ∀ s', Inv X pins σ H' s' → Q () s') :
    wpAny (model X.prog X.w) A (setItem (.ref a) u r) Q E s := by
  rcases g with ⟨kvs, k, e, ey, l, eH⟩ | ⟨kvs, k, b, e, ey, eb, l, eH⟩
  · subst ey eH
    obtain ⟨z, hd, vs, rel, dd⟩ := dk_of I.hok e
    have hz : vs.length ≤ sizeLine := by rw [← rel.length]; exact z
    have hl : (putK kvs k v).length ≤ sizeLine := by have := length_putK kvs k v; omega
    refine wpAny_setItem_pairs (hsz := hz) (kV_is ry) dd fun h' dd' hs => h _ ?_
    have he : ∃ q, h'.get? a = some q := let ⟨q, _, _, hq, _⟩ := dd'; ⟨q, hq⟩
    exact d_write I (by rw [e]; exact True.intro) hs he (dk_new hl hd (rel.put k rv) dd')
  · subst ey eH
    cases (show u = Value.ref b from ry)
    obtain ⟨z, hd, xs, rel, dd⟩ := dt_of I.hok e
    have hz : xs.length ≤ sizeLine := by rw [← Paired.length rel]; exact z
    have hl : (putK kvs k v).length ≤ sizeLine := by have := length_putK kvs k v; omega
    refine wpAny_setItem_heap (hsz := hz) (tupleKind_room_in1 hu) (key_of I.hok eb) dd fun h' dd' hs => h _ ?_
    obtain ⟨q, es, ep, hq, h2, h3, h4, _, h5⟩ := dd'
    refine d_write I (by rw [e]; exact True.intro) hs ⟨q, hq⟩ ⟨hl, hd, _, (rel.put k eb rv).keeps fun c ys ec => ?_, q, es, ep, hq, h2, h3, h4, h5⟩
    rw [upd_ne (ne_of ec e (fun z => nomatch z))]
    exact ec
end

section
variable {X : Cx} {pins : List (Addr × Obj)} {σ : St} {H : Hp} {s : Shared} {a : Addr} {kvs : List (Key × V)} {k : Key} {u : Value} {A : Around} {E : Value → Shared → Prop}
end


/-! ### readings and rules -/



section
variable {X : Cx} {o i e value : Expr} {pos pos' tpos : Pos} {td ty tv : TE}
end


/-! ### displays -/
theorem dk_empty {P : Program} {w : World} {H : Hp} (h : Heap) (hb : sysModules < h.objs.size) : ObjOk P w H (h.push { cls := .type "dict", data := .dict #[] }) h.objs.size (.dK []) :=
  ⟨Nat.zero_le _, beq_eq_false_iff_ne.mpr (Ne.symm (Nat.ne_of_lt hb)), [], .nil, Heap.DictOf.new h⟩
theorem dt_empty {P : Program} {w : World} {H : Hp} (h : Heap) (hb : sysModules < h.objs.size) : ObjOk P w H (h.push { cls := .type "dict", data := .dict #[] }) h.objs.size (.dT []) :=
  ⟨Nat.zero_le _, beq_eq_false_iff_ne.mpr (Ne.symm (Nat.ne_of_lt hb)), [], .nil, _, #[], 0, Heap.get?_push_size _ rfl, ⟨rfl, rfl, rfl⟩, rfl, rfl, List.nodup_nil⟩
/-- {}, to be a dict of the kind that is wanted -/
def tDNewK : TE := fun _ H Q => ∀ p, H p = none → Q (.ref p) (upd H p (.dK []))
section
variable {X : Cx} {pos : Pos}
theorem pe_dnewK : PE X (.Dict [] [] pos) tDNewK := fun pins s σ H Q I h =>
  wpAny_Dict_empty ⟨.ref s.heap.objs.size, _, I.laid (a := s.heap.objs.size) (o := .dK []) (t' := s.toks) (fun _ _ q => Heap.get?_push_of_some _ q) (Nat.le_refl _) (dk_empty s.heap I.big), rfl, h _ (I.hok.fresh (Nat.le_refl _))⟩
end




/-! ### methods -/


section
variable {X : Cx} {pins : List (Addr × Obj)} {σ : St} {H : Hp} {s : Shared} {a : Addr} {y d : V} {u r : Value} {o : Option V} {A : Around} {E : Value → Shared → Prop}
/-- d.get(y, x) -/
theorem d_get2 {Q : Value → Shared → Prop} (hu : A.units + 1 < cLine) (I : Inv X pins σ H s) (g : DGet H a y o) (ry : RelV y u) (rd : RelV d r) (h : ∀ w' s', Inv X pins σ H s' → RelV (o.getD d) w' → Q w' s') :
    wpAny (model X.prog X.w) A (call (.builtin "dict.get") [.ref a, u, r]) Q E s := by
  rcases g with ⟨kvs, k, e, ey, l⟩ | ⟨kvs, k, b, e, ey, eb, l⟩
  · subst ey
    obtain ⟨z, hd, vs, rel, dd⟩ := dk_rd I.hok e
    refine call_meetsIn PySem.F.slot_dict_get dd.typeIs PySem.F.entry_dict_get (PySem.F.args_dict_get_3 _ _ _) (meets_dict_get_default (mixKind X.prog X.w) a (kV_is ry) hd r) ⟨_, dd.mapOf, h _ _ (I.tok _) ?_⟩
    rw [l]
    exact (rel.val k).getD rd
  · subst ey
    cases (show u = Value.ref b from ry)
    obtain ⟨z, hd, xs, rel, dd⟩ := dt_rd I.hok e
    refine call_meetsIn PySem.F.slot_dict_get dd.typeIs PySem.F.entry_dict_get (PySem.F.args_dict_get_3 _ _ _) (meetsH_dict_get_default (tupleKind (mixKind X.prog X.w)) a b hd r) ⟨tupleKind_room_in1 hu, k, xs, key_of I.hok eb, dd, h _ _ (I.tok _) ?_⟩
    rw [l]
    exact (rel.val k).getD rd
end

section
variable {X : Cx} {o e f : Expr} {apos cpos : Pos} {td ty tx : TE}
end

/-! ### dict(d): a copy -/
section
variable {X : Cx} {pins : List (Addr × Obj)} {σ : St} {H : Hp} {s : Shared} {a : Addr} {kvs : List (Key × V)} {A : Around} {E : Value → Shared → Prop}
end


section
variable {X : Cx} {pins : List (Addr × Obj)} {σ : St} {H : Hp} {s : Shared} {a : Addr} {y : V} {u : Value} {A : Around} {E : Value → Shared → Prop}
end
end L2

namespace Att
open PySem PySem.W PySem.Calls PyProof.Rows

/-! ### the script -/
theorem ints_of_wellAll {P : Params} {h : Heap} : ∀ (ns : List Int) (vs : List Value), WellAll P h vs (ns.map WData.int) → IntsAre vs ns := by
  intro ns
  induction ns with
  | nil =>
    intro vs w
    rw [List.map_nil] at w
    cases w
    exact .nil
  | cons n ns ih =>
    intro vs w
    rw [List.map_cons] at w
    cases w with
    | cons a b =>
      cases a
      exact .cons _ _ (ih _ b)

theorem script_of {l : OpenLaw} {n : Nat} (hn : l.most = some n) {P : Params} {h : Heap} {args : List WData} {vals : List Value}
    (hpre : l.row.toRowW.claim.pre args = true) (hwl : WellAll P h vals args) :
    ∃ a vs ns, vals = [Value.ref a] ∧ args = [WData.list (ns.map WData.int)] ∧ h.get? a = some { cls := .type "list", data := .seq vs.toArray } ∧ IntsAre vs ns ∧ ns.length ≤ n := by
  have hsh : WShape.hasAll [] args [.list .int] = true := (pre_splitW hpre).1
  have hc : l.pre.holds [] { args := args } = true := (pre_splitW hpre).2
  obtain ⟨d, r, rfl, h1, h2⟩ := hasAllW_cons hsh
  obtain rfl := hasAllW_nil h2
  obtain ⟨xs, rfl, h3⟩ := hasW_list h1
  obtain ⟨ns, rfl⟩ := items_int h3
  have hlen : ns.length ≤ n := by
    unfold OpenLaw.pre at hc
    have h4 : (WTm.not (.lt (.lit (.int (n : Int))) (.len (.arg 0)))).holds [] { args := [.list (ns.map .int)] } = true := by
      have h4 := (holds_andW hc).1
      rw [hn] at h4
      exact h4
    have h5 := condW_of h4 (w_not (w_lt w_lit (w_len_list (w_arg rfl))))
    rw [List.length_map] at h5
    refine Nat.le_of_not_lt fun q => ?_
    have q' : (n : Int) < ((ns.length : Nat) : Int) := by omega
    first
      | (rw [decide_eq_true q'] at h5; exact absurd h5 (by decide))
      | (simp at h5; omega)
  cases hwl with
  | cons w1 w2 =>
    cases w2
    cases w1 with
    | list ho hall => exact ⟨_, _, ns, rfl, rfl, ho, ints_of_wellAll ns _ hall, hlen⟩

theorem post_true (l : OpenLaw) (args : List WData) : l.row.toRowW.claim.post args (.bool true) args = true :=
  postW_of (r := l.row.toRowW) (X := (true == true))
    (show WShape.has [] (.bool true) .bool = true by first | rfl | decide | simp [WShape.has, WShape.arms, WShape.armsAll])
    (show (WTm.eq .res (.lit (.bool true))).value [] { args := args, res := some (.bool true), after := args } = some (.bool (true == true)) from w_eq_bool (w_res rfl) w_lit) rfl

/-! ### the attachment: holds_open's last premise (the goal 'hc' behind k_head) from a wpAny of the law's body -/

/-- the same from a codeAny of the CALL (for a layer whose function contracts speak of calls) -/
theorem attach_call {l : OpenLaw} {n : Nat} {q : Program} {loose : List Str} {XP : (Str → Option Value) → Heap → Prop} {YP : World → Heap → Prop} {d : DefRec}
    (hn : l.most = some n) (hdf : d.params.defaults = [])
    (call : ∀ (w : World) (s₀ s₁ : Shared) (mg mb : Str → Option Value) (fa : Addr) (o : Obj) (pm cd doc : Value) (a : Addr) (vs : List Value) (ns : List Int),
      Ground q loose [] XP w s₀ mg mb s₁.heap → YP w s₁.heap →
      s₁.heap.get? fa = some o → o.data = .func (docDef d.name d.params d.body d.scope pm cd doc) → s₁.heap.CodeRec cd d.name → mg d.name = some (.ref fa) →
      s₁.heap.get? a = some { cls := .type "list", data := .seq vs.toArray } → IntsAre vs ns → ns.length ≤ n → s₁.gens = #[] →
      codeAny (model l.prog w) callerA (.call (.ref fa) ⟨[.ref a], []⟩) (fun r s' => r = .ok (.ret (.bool true)) ∧ OldK s₁.heap s'.heap ∧ s'.os = s₁.os ∧ AllBare s'.gens) s₁) :
    WalkO q loose XP YP l.row.toRowW d [] (fun f vs => PySem.call f vs) := by
  intro w s₀ s₁ mg mb G Y fa o pm cd doc dV kV ho hd hcd hD hmg hg args vals as hpre hlay hrd hwl hlo
  obtain rfl : dV = .none := Dflts.none hD hdf
  obtain rfl : kV = .none := Dflts.noKw hD
  obtain ⟨a, vs, ns, rfl, rfl, hobj, hints, hlen⟩ := script_of hn hpre hwl
  refine enter_call (codeAny_mono (call w s₀ s₁ mg mb fa o pm cd doc a vs ns G Y ho (fd_plain hd) hcd hmg hobj hints hlen hg) fun r s' hq => ?_)
  obtain ⟨rfl, h2, h3, h4⟩ := hq
  exact ⟨.inl ⟨.bool true, .bool true, [], rfl, fun _ => rfl, .bool true, post_true l _, fun _ => ⟨List.Pairwise.nil, fun _ hm => (nomatch hm)⟩⟩, h2, h3, h4⟩


/-! ### rules over ANY heap (no ledger) from facts about the written part K: the library's own take a ledger (News) for what they write -/
section
variable {prog : Program} {w : World} {A : Around} {E : Value → Shared → Prop} {s : Shared} {K : Frag}





/-! the whole heap as the ledger: makes every rule that writes through a ledger a rule over any heap -/

end
end Att

namespace L2
open PySem PySem.Spec PyProof.Rows

theorem vals_ints : ∀ {vs : List Value} {ns : List Int}, IntsAre vs ns → Vals (ns.map V.int) vs
  | _, _, .nil => .nil
  | _, _, .cons n t h => .cons ⟨t, rfl⟩ (vals_ints h)


end L2

namespace L2
open PySem PySem.Spec PyProof.Rows


end L2

/- THE LAST THEOREM (shape; LID, My.* are yours):
   My.Adr: a structure of the addresses that your layer names (classes, functions); My.Txt K t: a structure (Prop) of the equations over K;
   My.txt_mk : {K} {implicit addresses ..} (e1 : nsIn K mainGlobals "law" = some (some (.ref f))) (e2 : K.lookup f = some ⟨oc, od, .func (fnOf "law" "law" params body scope dV kV doc pm an cdv ct), sl⟩) (e3 : codeIn K cdv "law" = true) .. : ∃ t, My.Txt K t

set_option maxRecDepth 100000 in
set_option maxHeartbeats 0 in
theorem PySem.Challenge.cw_LID_holds : PySem.Challenge.rw_LID.Holds := by
  w_on; o_law; k_head; (case hw => w_witness2)
  k_fill
  refine L2.walk_of (l := PySem.Challenge.rw_LID) (n := 63) (k := 40) (x := "script") (CX := fun w => ..) (sp := fun _ => My.sp_law) rfl (by decide) rfl ⟨rfl, by decide, by decide⟩ (fun w h Y => PySem.W.kIn_of Y) ?F ?S ?C
  case F =>
    intro w mg fa h KX G hmg
    have T : ∃ t, My.Txt (L2.KOf KX) t := by
      dsimp only [L2.KOf]                          -- K must stand as «<heap const> w.params» for k_is
      refine' My.txt_mk ?e1 ?e2 ?e3 ..
      (case e1 => PySem.W.k_is)                    -- in the order: a name -> its address -> its object -> its parts
      (case e2 => PySem.W.k_is)
      ..
    obtain ⟨t, T⟩ := T
    have e0 := hmg.symm.trans (PySem.W.mg_of KX G T.law)
    cases e0                                       -- fa is the law's own address
    exact ⟨_, fun s u => .of_eq rfl, fun base kb nb => My.law_fn T kb nb⟩     -- if «.of_eq rfl» comes too early: refine' ⟨_, ?b, fun base kb nb => My.law_fn T kb nb⟩; exact fun s u => .of_eq rfl
  case S => exact fun w H a ns hl hO hS => ..
  case C => exact ..
(the tactic k_is has no namespace: write k_is) -/

/-! SHORT WORDS over the layer: a def of the text, its body, what a loop and a test want. -/
namespace L2
open PySem PySem.Spec PyProof.Rows

/-! ### the text by places -/
def defArgs (s : Stmt) : Arguments := match s with
  | .FunctionDef _ a _ _ _ _ _ _ _ _ => a
  | _ => { posonlyargs := [], args := [], vararg := none, kwonlyargs := [], kw_defaults := [], kwarg := none, defaults := [] }
def defBody (s : Stmt) : List Stmt := match s with
  | .FunctionDef _ _ b _ _ _ _ _ _ _ => b
  | _ => []
def defScope (s : Stmt) : Scope := match s with
  | .FunctionDef _ _ _ _ _ _ sc _ _ _ => sc
  | _ => { kind := .function, names := [], isGenerator := false, isCoroutine := false }

/-! ### no exception leaves a def -/
abbrev CX0 : CXT := fun _ _ _ _ _ _ => False
abbrev E0 : XK := fun _ _ _ => False
theorem pass0 {X : Cx} : Passes CX0 X E0 := fun _ _ _ _ _ _ _ h => h.elim

/-! ### a def (or method) of the text as it stands behind the top -/
structure Fun (K : PySem.W.Frag) (x qual : Str) (st : Stmt) (f : Addr) (fd : FuncData) : Prop where
  ex : ∃ (oc : Value) (od : Option Addr) (kV doc pm : Value) (an : Option Addr) (cdv ct : Value) (osl : Array (Option Value)),
    fd = PySem.W.fnOf x qual (defArgs st) (defBody st) (defScope st) .none kV doc pm an cdv ct ∧ K.lookup f = some ⟨oc, od, .func fd, osl⟩ ∧ PySem.W.codeIn K cdv qual = true
  kp : PySem.W.keepIn K (.ref f) = true
section
variable {P : Program} {w : World} {K : PySem.W.Frag} {mg : Str → Option Value} {base : Heap}
/-- THE RULE for a def: its body as a term of rules, and the reading of that term -/
theorem Fun.ok {x qual : Str} {st : Stmt} {f : Addr} {fd : FuncData} {N ps : List Str} {k : Nat} {sp : Sp} (F : Fun K x qual st f fd) (S : FnScope N ps (defScope st)) (len : ∀ vs H Q E, sp vs H Q E → vs.length = ps.length)
    (hbody : ∀ (cdv : Value) (A : Around) (outer : List Env) (s : Shared) (H : Hp) (vs : List V) (Q : VK) (E : XK), Room k (A.deeper (envOfC qual (defScope st) s.heap.objs.size f cdv)) → sp vs H Q E →
      ∃ t, PSs (cxOf CX0 P w K mg base N qual (defScope st) f cdv A outer s H E).nox (defBody st) t ∧ t { nx := fun _ H' => Q .non H', rt := Q } (start N vs) H) : FnOk P w K mg base CX0 (k + 1) f fd ps sp := by
  obtain ⟨oc, od, kV, doc, pm, an, cdv, ct, osl, rfl, lk, hcd⟩ := F.ex
  refine fn_of lk hcd S len fun A outer s H vs Q E hr hsp => ?_
  obtain ⟨t, h, q⟩ := hbody cdv A outer s H vs Q E hr hsp
  exact ⟨t, h.nox, q⟩
/-- how its arguments bind (no defaults): h is «fun _ _ _ _ _ _ us hl => match us, hl with | [_, _], _ => rfl», one _ a parameter -/
theorem Fun.binds {x qual : Str} {st : Stmt} {f : Addr} {fd : FuncData} {ps : List Str} (F : Fun K x qual st f fd)
    (h : ∀ (kV doc pm : Value) (an : Option Addr) (cdv ct : Value) (us : List Value), us.length = ps.length → bindArgs (PySem.W.fnOf x qual (defArgs st) (defBody st) (defScope st) .none kV doc pm an cdv ct) ⟨us, []⟩ = pure (ps.zip us)) : Binds K fd ps [] := by
  obtain ⟨oc, od, kV, doc, pm, an, cdv, ct, osl, rfl, lk, hcd⟩ := F.ex
  exact .all (h kV doc pm an cdv ct)
theorem fun_mk {x qual : Str} {st : Stmt} {f : Addr} {oc : Value} {od an : Option Addr} {osl : Array (Option Value)} {kV doc pm cdv ct : Value} (l : K.lookup f = some ⟨oc, od, .func (PySem.W.fnOf x qual (defArgs st) (defBody st) (defScope st) .none kV doc pm an cdv ct), osl⟩)
    (c : PySem.W.codeIn K cdv qual = true) (k : PySem.W.keepIn K (.ref f) = true) : Fun K x qual st f (PySem.W.fnOf x qual (defArgs st) (defBody st) (defScope st) .none kV doc pm an cdv ct) := ⟨⟨oc, od, kV, doc, pm, an, cdv, ct, osl, rfl, l, c⟩, k⟩
end
theorem hu_of {A : Around} {k : Nat} (hr : Room k A) : A.units + 1 < cLine := Nat.lt_of_le_of_lt (Nat.add_le_add_left (by decide : 1 ≤ 64) _) hr.units
theorem small1000 {n : Nat} (h : n ≤ 1000) : n < sizeLine := Nat.lt_of_le_of_lt h (by decide)

/-! ### expressions in short: the name that stands in the i-th slot -/
section
variable {X : Cx}
theorem pv (i : Nat) {x : Str} {pos : Pos} (hN : X.N[i]? = some x := by rfl) (hv : Vis X.env.scope x := by first | exact Or.inl rfl | exact Or.inr (Or.inl rfl) | exact Or.inr (Or.inr rfl)) (hd : (x == ("__debug__" : Str)) = false := by decide)
    (hcd : (x == ("__classdict__" : Str)) = false := by decide) : PE X (.Name x pos) (tVar i) := pe_var hN hv hd hcd
end

/-! ### tests -/
theorem iteF {A B : Prop} (h : B) : if false = true then A else B := by
  rw [if_neg Bool.false_ne_true]
  exact h
theorem iteT {A B : Prop} (h : A) : if true = true then A else B := by
  rw [if_pos rfl]
  exact h
theorem ite2 {c A B : Prop} [Decidable c] (h1 : c → A) (h2 : ¬ c → B) : if c then A else B := by
  by_cases h : c
  · rw [if_pos h]
    exact h1 h
  · rw [if_neg h]
    exact h2 h

/-! ### heaps -/
/-- all that was tracked is as it was -/
def Same (H H' : Hp) : Prop := ∀ b o, H b = some o → H' b = some o
theorem Same.refl (H : Hp) : Same H H := fun _ _ h => h
theorem Same.trans {H H1 H2 : Hp} (a : Same H H1) (b : Same H1 H2) : Same H H2 := fun c o h => b c o (a c o h)
theorem Same.free {H H' : Hp} (e : Same H H') {l : Addr} (h : H' l = Option.none) : H l = Option.none := by
  cases q : H l with
  | none => rfl
  | some o =>
    rw [e l o q] at h
    cases h
theorem Same.seq {K : PySem.W.Frag} {H H' : Hp} {a : Addr} {xs : List V} (e : Same H H') (h : SqL K H a xs) : SqL K H' a xs := by
  rcases h with (h | ⟨o, h⟩) | h
  · exact .inl (.inl (e _ _ h))
  · exact .inl (.inr ⟨o, e _ _ h⟩)
  · exact .inr h

/-! ### a dict's pairs: keys that differ -/
section
variable {κ : Type} [DecidableEq κ]
end
end L2


namespace L2
open PySem PySem.Spec PyProof.Rows

/-! ### isinstance -/
/-- the builtin types -/
inductive Ty where
  | int | bool | str | non | lst | tup | dct
  deriving DecidableEq
def Ty.name : Ty → String
  | .int => "int" | .bool => "bool" | .str => "str" | .non => "NoneType" | .lst => "list" | .tup => "tuple" | .dct => "dict"
/-- the builtin type of a value -/
inductive TyN (K : PySem.W.Frag) (H : Hp) : V → Ty → Prop where
  | int (i : Int) : TyN K H (.int i) .int
  | bl (b : Bool) : TyN K H (.bl b) .bool
  | str (x : Str) : TyN K H (.str x) .str
  | non : TyN K H .non .non
  | lst {a : Addr} {xs : List V} (h : SqL K H a xs) : TyN K H (.ref a) .lst
  | tup {a : Addr} {xs : List V} (h : SqT K H a xs) : TyN K H (.ref a) .tup
  | dk {a : Addr} {kvs : List (Key × V)} (h : H a = some (.dK kvs)) : TyN K H (.ref a) .dct
def isiB : Ty → Ty → Bool
  | .int, .int => true | .bool, .bool => true | .bool, .int => true | .str, .str => true | .non, .non => true | .lst, .lst => true | .tup, .tup => true | .dct, .dct => true | _, _ => false
def rIsi (K : PySem.W.Frag) : List V → Hp → VK → Prop := fun vs H Q => ∃ x T T', vs = [x, .ty (Ty.name T)] ∧ TyN K H x T' ∧ Q (.bl (isiB T' T)) H
theorem call_isi {X : Cx} : CallR X (.builtin "isinstance") (rIsi X.K) := by
  intro pins s σ H vs us Q I r h
  obtain ⟨x, T, T', rfl, ty, q⟩ := h
  obtain ⟨u, u2, rfl, ru, ru2⟩ := vals2 r
  have e2 : u2 = Value.type (Ty.name T) := ru2
  subst e2
  cases ty with
  | int i =>
    obtain ⟨t, rfl⟩ := ru
    cases T with
    | int => exact IsiPair.int_int ⟨.bl true, H, I, rfl, q⟩
    | bool => exact IsiPair.int_bool ⟨.bl false, H, I.tok _, rfl, q⟩
    | str => exact IsiPair.int_str ⟨.bl false, H, I.tok _, rfl, q⟩
    | non => exact IsiPair.int_NoneType ⟨.bl false, H, I.tok _, rfl, q⟩
    | lst => exact IsiPair.int_list ⟨.bl false, H, I.tok _, rfl, q⟩
    | tup => exact IsiPair.int_tuple ⟨.bl false, H, I.tok _, rfl, q⟩
    | dct => exact IsiPair.int_dict ⟨.bl false, H, I.tok _, rfl, q⟩
  | bl b =>
    obtain rfl : u = Value.bool b := ru
    cases T with
    | int => exact IsiPair.bool_int ⟨.bl true, H, I, rfl, q⟩
    | bool => exact IsiPair.bool_bool ⟨.bl true, H, I, rfl, q⟩
    | str => exact IsiPair.bool_str ⟨.bl false, H, I.tok _, rfl, q⟩
    | non => exact IsiPair.bool_NoneType ⟨.bl false, H, I.tok _, rfl, q⟩
    | lst => exact IsiPair.bool_list ⟨.bl false, H, I.tok _, rfl, q⟩
    | tup => exact IsiPair.bool_tuple ⟨.bl false, H, I.tok _, rfl, q⟩
    | dct => exact IsiPair.bool_dict ⟨.bl false, H, I.tok _, rfl, q⟩
  | str y =>
    obtain ⟨t, rfl⟩ := ru
    cases T with
    | int => exact IsiPair.str_int ⟨.bl false, H, I.tok _, rfl, q⟩
    | bool => exact IsiPair.str_bool ⟨.bl false, H, I.tok _, rfl, q⟩
    | str => exact IsiPair.str_str ⟨.bl true, H, I, rfl, q⟩
    | non => exact IsiPair.str_NoneType ⟨.bl false, H, I.tok _, rfl, q⟩
    | lst => exact IsiPair.str_list ⟨.bl false, H, I.tok _, rfl, q⟩
    | tup => exact IsiPair.str_tuple ⟨.bl false, H, I.tok _, rfl, q⟩
    | dct => exact IsiPair.str_dict ⟨.bl false, H, I.tok _, rfl, q⟩
  | non =>
    obtain rfl : u = Value.none := ru
    cases T with
    | int => exact IsiPair.NoneType_int ⟨.bl false, H, I.tok _, rfl, q⟩
    | bool => exact IsiPair.NoneType_bool ⟨.bl false, H, I.tok _, rfl, q⟩
    | str => exact IsiPair.NoneType_str ⟨.bl false, H, I.tok _, rfl, q⟩
    | non => exact IsiPair.NoneType_NoneType ⟨.bl true, H, I, rfl, q⟩
    | lst => exact IsiPair.NoneType_list ⟨.bl false, H, I.tok _, rfl, q⟩
    | tup => exact IsiPair.NoneType_tuple ⟨.bl false, H, I.tok _, rfl, q⟩
    | dct => exact IsiPair.NoneType_dict ⟨.bl false, H, I.tok _, rfl, q⟩
  | lst hq =>
    obtain rfl : u = Value.ref _ := ru
    obtain ⟨its, rv, ⟨o, n, e, hc, hd, hs⟩, hz⟩ := I.list hq
    cases T with
    | int => exact IsiPair.list_int e hc ⟨.bl false, H, I.tok _, rfl, q⟩
    | bool => exact IsiPair.list_bool e hc ⟨.bl false, H, I.tok _, rfl, q⟩
    | str => exact IsiPair.list_str e hc ⟨.bl false, H, I.tok _, rfl, q⟩
    | non => exact IsiPair.list_NoneType e hc ⟨.bl false, H, I.tok _, rfl, q⟩
    | lst => exact IsiPair.list_list e hc ⟨.bl true, H, I, rfl, q⟩
    | tup => exact IsiPair.list_tuple e hc ⟨.bl false, H, I.tok _, rfl, q⟩
    | dct => exact IsiPair.list_dict e hc ⟨.bl false, H, I.tok _, rfl, q⟩
  | tup hq =>
    obtain rfl : u = Value.ref _ := ru
    obtain ⟨its, rv, ⟨o, e, hc, n, hs⟩, hz⟩ := I.tuple hq
    cases T with
    | int => exact IsiPair.tuple_int e hc ⟨.bl false, H, I.tok _, rfl, q⟩
    | bool => exact IsiPair.tuple_bool e hc ⟨.bl false, H, I.tok _, rfl, q⟩
    | str => exact IsiPair.tuple_str e hc ⟨.bl false, H, I.tok _, rfl, q⟩
    | non => exact IsiPair.tuple_NoneType e hc ⟨.bl false, H, I.tok _, rfl, q⟩
    | lst => exact IsiPair.tuple_list e hc ⟨.bl false, H, I.tok _, rfl, q⟩
    | tup => exact IsiPair.tuple_tuple e hc ⟨.bl true, H, I, rfl, q⟩
    | dct => exact IsiPair.tuple_dict e hc ⟨.bl false, H, I.tok _, rfl, q⟩
  | dk hq =>
    obtain rfl : u = Value.ref _ := ru
    obtain ⟨hz, hm, vs, rel, o, es, ep, e, ex, hr⟩ := I.hok _ _ hq
    have hc := ex.1
    cases T with
    | int => exact IsiPair.dict_int e hc ⟨.bl false, H, I.tok _, rfl, q⟩
    | bool => exact IsiPair.dict_bool e hc ⟨.bl false, H, I.tok _, rfl, q⟩
    | str => exact IsiPair.dict_str e hc ⟨.bl false, H, I.tok _, rfl, q⟩
    | non => exact IsiPair.dict_NoneType e hc ⟨.bl false, H, I.tok _, rfl, q⟩
    | lst => exact IsiPair.dict_list e hc ⟨.bl false, H, I.tok _, rfl, q⟩
    | tup => exact IsiPair.dict_tuple e hc ⟨.bl false, H, I.tok _, rfl, q⟩
    | dct => exact IsiPair.dict_dict e hc ⟨.bl true, H, I, rfl, q⟩

/-! ### all, of a list of truths -/

/-! ### texts: <=, join, signs -/
theorem vals_strs : ∀ {xs : List Str} {its : List Value}, Vals (xs.map V.str) its → ∃ l : List (Str × Tok), its = strValues l ∧ l.map (·.1) = xs
  | [], _, .nil => ⟨[], rfl, rfl⟩
  | x :: xs, _, .cons r t => by
    obtain ⟨tk, rfl⟩ := r
    obtain ⟨l, rfl, rfl⟩ := vals_strs t
    exact ⟨(x, tk) :: l, rfl, rfl⟩
def rJoin (K : PySem.W.Frag) : V → List V → Hp → VK → Prop := fun x vs H Q => ∃ sep a xs, x = .str sep ∧ vs = [.ref a] ∧ SqL K H a (xs.map V.str) ∧ JoinOk sep xs = true ∧ Q (.str (Txt.join sep xs)) H
theorem mt_join {X : Cx} : MtR X "str.join" (rJoin X.K) := by
  intro pins s σ H x vs v us Q I rx rv h
  obtain ⟨sep, a, xs, rfl, rfl, hq, hok, q⟩ := h
  obtain ⟨t, rfl⟩ := rx
  obtain ⟨u, rfl, ru⟩ := vals1 rv
  obtain rfl : u = Value.ref a := ru
  obtain ⟨its, r, p, hz⟩ := I.list hq
  obtain ⟨l, rfl, hl⟩ := vals_strs r
  exact SC.join p.isList hl hok fun t' k => ⟨.str _, H, I.tok k, ⟨t', rfl⟩, q⟩

/-! ### a thing of ours that the heap holds comes to be tracked -/

/-! ### zip of two lists, with a pair of targets -/
end L2

namespace L2
open PySem PySem.Spec PyProof.Rows

/-! ### what a block closes over -/
def closOf (env : Env) : List (Str × NameKind) → List (Str × Addr) → List (Str × Addr)
  | [], acc => acc
  | (n, k) :: r, acc => if k == .free then closOf env r ((n, (env.cells.lookup n).getD 0) :: acc) else closOf env r acc
theorem forIn_clos {env : Env} (f : Str × NameKind → List (Str × Addr) → Sem (ForInStep (List (Str × Addr))))
    (hf : ∀ n k cs, f (n, k) cs = if (k == NameKind.free) = true then (cellOf env n >>= fun a => pure (.yield ((n, a) :: cs))) else pure (.yield cs)) :
    ∀ (names : List (Str × NameKind)) (acc : List (Str × Addr)), (∀ x ∈ names, x.2 = .free → ∃ c, env.cells.lookup x.1 = some c) → forIn names acc f = pure (closOf env names acc)
  | [], acc, _ => by rw [List.forIn_nil]; rfl
  | (n, k) :: r, acc, h => by
    rw [List.forIn_cons, hf]
    unfold closOf
    by_cases hk : (k == NameKind.free) = true
    · rw [if_pos hk, if_pos hk]
      obtain ⟨c, hc⟩ := h (n, k) List.mem_cons_self (beq_iff_eq.mp hk)
      have e : cellOf env n = pure c := by unfold cellOf; rw [hc]
      rw [e, hc]
      exact forIn_clos f hf r _ fun x hx => h x (List.mem_cons_of_mem _ hx)
    · rw [if_neg hk, if_neg hk]
      exact forIn_clos f hf r _ fun x hx => h x (List.mem_cons_of_mem _ hx)
theorem closureFor_of {scope : Scope} {env : Env} (h : ∀ x ∈ scope.names, x.2 = .free → ∃ c, env.cells.lookup x.1 = some c) : closureFor scope env = pure (closOf env scope.names []) := by
  simp only [closureFor]
  rw [forIn_clos (env := env) _ (fun n k cs => by cases hk : k == NameKind.free <;> simp [hk]) scope.names [] h]
  rfl
theorem closOf_mem {env : Env} : ∀ {names : List (Str × NameKind)} {acc : List (Str × Addr)} {x : Str} {c : Addr}, (x, c) ∈ closOf env names acc → (x, c) ∈ acc ∨ ((x, NameKind.free) ∈ names ∧ c = (env.cells.lookup x).getD 0)
  | [], _, _, _, h => .inl h
  | (n, k) :: r, acc, x, c, h => by
    unfold closOf at h
    by_cases hk : (k == NameKind.free) = true
    · rw [if_pos hk] at h
      rcases closOf_mem h with h | ⟨h, e⟩
      · rcases List.mem_cons.mp h with h | h
        · cases h
          rw [beq_iff_eq.mp hk]
          exact .inr ⟨List.mem_cons_self, rfl⟩
        · exact .inl h
      · exact .inr ⟨List.mem_cons_of_mem _ h, e⟩
    · rw [if_neg hk] at h
      rcases closOf_mem h with h | ⟨h, e⟩
      · exact .inl h
      · exact .inr ⟨List.mem_cons_of_mem _ h, e⟩
theorem closOf_acc {env : Env} : ∀ {names : List (Str × NameKind)} {acc : List (Str × Addr)} {p : Str × Addr}, p ∈ acc → p ∈ closOf env names acc
  | [], _, _, h => h
  | (n, k) :: r, acc, p, h => by
    unfold closOf
    by_cases hk : (k == NameKind.free) = true
    · rw [if_pos hk]; exact closOf_acc (List.mem_cons_of_mem _ h)
    · rw [if_neg hk]; exact closOf_acc h
theorem closOf_has {env : Env} : ∀ {names : List (Str × NameKind)} {acc : List (Str × Addr)} {x : Str}, (x, NameKind.free) ∈ names → ∃ c, (x, c) ∈ closOf env names acc
  | (n, k) :: r, acc, x, h => by
    unfold closOf
    rcases List.mem_cons.mp h with h | h
    · cases h
      rw [if_pos (show (NameKind.free == NameKind.free) = true by rfl)]
      exact ⟨_, closOf_acc List.mem_cons_self⟩
    · by_cases hk : (k == NameKind.free) = true
      · rw [if_pos hk]; exact closOf_has h
      · rw [if_neg hk]; exact closOf_has h
theorem look_of_mem {α : Type} : ∀ {l : List (Str × α)} {x : Str} {c : α}, (x, c) ∈ l → ∃ c', l.lookup x = some c'
  | (n, d) :: r, x, c, h => by
    rw [List.lookup_cons]
    cases hb : x == n with
    | true => exact ⟨d, rfl⟩
    | false =>
      rcases List.mem_cons.mp h with h | h
      · cases h
        simp at hb
      · exact look_of_mem h
theorem cellsFrom_app : ∀ (names : List (Str × NameKind)) (n : Nat) (acc : List (Str × Addr)), cellsFrom n names acc = cellsFrom n names [] ++ acc
  | [], _, _ => rfl
  | (x, k) :: r, n, acc => by
    unfold cellsFrom
    by_cases hk : (k == NameKind.cell) = true
    · rw [if_pos hk, if_pos hk, cellsFrom_app r (n + 1) ((x, n) :: acc), cellsFrom_app r (n + 1) [(x, n)], List.append_assoc]
      rfl
    · rw [if_neg hk, if_neg hk]; exact cellsFrom_app r n acc
theorem cellsFrom_cell : ∀ {names : List (Str × NameKind)} {n : Nat} {acc : List (Str × Addr)} {x : Str} {c : Addr}, (x, c) ∈ cellsFrom n names acc → (x, c) ∈ acc ∨ (x, NameKind.cell) ∈ names
  | [], _, _, _, _, h => .inl h
  | (y, k) :: r, n, acc, x, c, h => by
    unfold cellsFrom at h
    by_cases hk : (k == NameKind.cell) = true
    · rw [if_pos hk] at h
      rcases cellsFrom_cell h with h | h
      · rcases List.mem_cons.mp h with h | h
        · cases h
          rw [beq_iff_eq.mp hk]
          exact .inr List.mem_cons_self
        · exact .inl h
      · exact .inr (List.mem_cons_of_mem _ h)
    · rw [if_neg hk] at h
      rcases cellsFrom_cell h with h | h
      · exact .inl h
      · exact .inr (List.mem_cons_of_mem _ h)

section
variable {M : Model} {A : Around} {E : Value → Shared → Prop} {s : Shared}
theorem nfe_comp {scope : Scope} {env : Env} {cl : List (Str × Addr)} {Q : Env → Shared → Prop}
    (hQ : Q (newEnv scope s.heap.objs.size env.globals (cellsFrom (s.heap.objs.size + 1) scope.names cl) env.qual none .none (some env) builtinsNs) { s with heap := pushCells (s.heap.push { cls := .type "dict", data := .dict #[] }) scope.names }) :
    wpAny M A (newFunctionEnv scope env.globals cl [] env.qual none .none (some env)) Q E s := by
  simp only [newFunctionEnv, Option.isSome_some, if_true]
  refine wpAny_bind (wpAny_alloc ?_)
  refine wpAny_bind (wpAny_layCells _ (fun name kind cells => by cases hkc : kind == NameKind.cell <;> simp [hkc]) _ _ _ _ ?_)
  rw [show ({ s with heap := s.heap.push { cls := .type "dict", data := .dict #[] } } : Shared).heap.objs.size = s.heap.objs.size + 1 from Heap.size_push ..]
  exact wpAny_bind (wpAny_pure (wpAny_pure hQ))
end

/-- the context of a comprehension's block: N its own names, then those that it closes over -/
abbrev cxComp (X : Cx) (N : List Str) (scope : Scope) (cs : List (Str × Addr)) (C : Addr) (s : Shared) (H : Hp) (ex : List Addr) : Cx where
  prog := X.prog
  w := X.w
  K := X.K
  mg := X.mg
  base := X.base
  A := X.A
  N := N
  s₀ := s
  H₀ := H
  env := compEnvC scope cs C X.env
  outer := X.stack
  stack := X.stack
  ex := ex
  fn := fun x => decide (scope.names.lookup x ≠ some .free)
  calm := X.calm
  pn := []
  xe := fun _ _ => False

/-- what is asked of the block's scope: psc, PN the scope and the names of the code around it; k: how many names of N are its own; caps: the places, in PN, of those behind them -/
structure CompScope (psc : Scope) (PN : List Str) (scope : Scope) (N : List Str) (k : Nat) (caps : List Nat) : Prop where
  kind : scope.kind = .function
  loc : ∀ x ∈ scope.names, x.2 = .local → scope.names.lookup x.1 = some .local
  ndn : (scope.names.map (·.1)).Nodup
  nd : N.Nodup
  len : N.length = k + caps.length
  free : ∀ x ∈ scope.names, x.2 = .free → psc.names.lookup x.1 = some .cell ∨ psc.names.lookup x.1 = some .free
  cap : ∀ p ∈ (N.drop k).zip caps, PN[p.2]? = some p.1 ∧ scope.names.lookup p.1 = some .free

/-- the block's slots at each turn's start -/
def compSt (k : Nat) (caps : List Nat) (σ : St) : St := List.replicate k none ++ caps.map fun j => (σ[j]?).getD none
theorem compSt_at {k : Nat} {caps : List Nat} {σ : St} {i : Nat} {v : V} (h : (compSt k caps σ)[i]? = some (some v)) : ∃ j, k ≤ i ∧ caps[i - k]? = some j ∧ σ[j]? = some (some v) := by
  unfold compSt at h
  by_cases hi : i < k
  · rw [List.getElem?_append_left (by simpa using hi), List.getElem?_replicate, if_pos hi] at h
    cases h
  · rw [List.getElem?_append_right (by simpa using hi), List.length_replicate, List.getElem?_map] at h
    cases e : caps[i - k]? with
    | none => rw [e] at h; cases h
    | some j =>
      rw [e] at h
      have h' : (σ[j]?).getD none = some v := Option.some.inj h
      refine ⟨j, by omega, rfl, ?_⟩
      cases q : σ[j]? with
      | none => rw [q] at h'; cases h'
      | some o => rw [q] at h'; exact congrArg some h'

theorem relabel_look {scope : Scope} {env : Env} {x : Str} {k' : NameKind} (h : (relabel scope env).names.lookup x = some k') : ∃ k, (x, k) ∈ scope.names ∧ (k' = k ∨ (k = .free ∧ k' = .cell)) := by
  have hm := PySem.mem_of_lookup h
  have hm' : (x, k') ∈ scope.names.map (fun (n, k) => if (k == NameKind.free && env.scope.kind == .function && env.kindOf n == some .cell) then (n, NameKind.cell) else (n, k)) := hm
  obtain ⟨⟨n, k⟩, h1, h2⟩ := List.mem_map.mp hm'
  dsimp only at h2
  by_cases hc : (k == NameKind.free && env.scope.kind == .function && env.kindOf n == some .cell) = true
  · rw [if_pos hc] at h2
    cases h2
    simp only [Bool.and_eq_true, beq_iff_eq] at hc
    exact ⟨k, h1, .inr ⟨hc.1.1, rfl⟩⟩
  · rw [if_neg hc] at h2
    cases h2
    exact ⟨k', h1, .inl rfl⟩
theorem map_free {f : Str × NameKind → Str × NameKind} (hf : ∀ n k, f (n, k) = (n, k) ∨ (k = .free ∧ f (n, k) = (n, NameKind.cell))) : ∀ {names : List (Str × NameKind)} {x : Str}, names.lookup x = some .free → (names.map f).lookup x = some .cell ∨ (names.map f).lookup x = some .free
  | [], _, h => by simp at h
  | (n, k) :: r, x, h => by
    have ih := @map_free f hf r x
    rw [List.lookup_cons] at h
    rw [List.map_cons]
    cases hx : x == n with
    | true =>
      rw [hx] at h
      cases h
      rcases hf n .free with e | ⟨_, e⟩
      · right; rw [e, List.lookup_cons, hx]
      · left; rw [e, List.lookup_cons, hx]
    | false =>
      rw [hx] at h
      have h' := ih h
      rcases hf n k with e | ⟨_, e⟩
      · rw [e, List.lookup_cons, hx]; exact h'
      · rw [e, List.lookup_cons, hx]; exact h'
theorem relabel_free {scope : Scope} {env : Env} {x : Str} (h : scope.names.lookup x = some .free) : (relabel scope env).names.lookup x = some .cell ∨ (relabel scope env).names.lookup x = some .free := by
  refine map_free (fun n k => ?_) h
  by_cases hc : (k == NameKind.free && env.scope.kind == .function && env.kindOf n == some .cell) = true
  · right
    refine ⟨?_, if_pos hc⟩
    simp only [Bool.and_eq_true, beq_iff_eq] at hc
    exact hc.1.1
  · left; exact if_neg hc
theorem nodup_key {names : List (Str × NameKind)} (h : (names.map (·.1)).Nodup) {x : Str} {k k' : NameKind} (h1 : (x, k) ∈ names) (h2 : (x, k') ∈ names) : k = k' := by
  induction names with
  | nil => simp at h1
  | cons p r ih =>
    rw [List.map_cons] at h
    obtain ⟨ha, hb⟩ := List.nodup_cons.mp h
    rcases List.mem_cons.mp h1 with e1 | h1 <;> rcases List.mem_cons.mp h2 with e2 | h2
    · rw [← e1] at e2; exact (Prod.mk.inj e2).2.symm
    · exact absurd (List.mem_map.mpr ⟨_, h2, by rw [← e1]⟩) ha
    · exact absurd (List.mem_map.mpr ⟨_, h1, by rw [← e2]⟩) ha
    · exact ih hb h1 h2

/-! ### the heap beside one address that is younger -/
theorem Un.but {fs ex : List Addr} {H H' : Hp} {h h1 h2 : Heap} {C : Addr} (u : Un fs ex H H' h h1) (hs : Heap.SameBut C h1 h2) (hC : h.objs.size ≤ C) : Un fs ex H H' h h2 := by
  have ne : ∀ b o, h.get? b = some o → b ≠ C := fun b o e => Nat.ne_of_lt (Nat.lt_of_lt_of_le (Heap.lt_size e) hC)
  refine ⟨fun b o e n hb hx => (hs.2 b (ne b o e)).trans (u.keep b o e n hb hx), fun b o e n hb hx => ?_, u.free, fun b o e hx => ?_, u.tups, u.frzs, u.tbls⟩
  · obtain ⟨sl, q⟩ := u.slot b o e n hb hx
    exact ⟨sl, (hs.2 b (ne b o e)).trans q⟩
  · obtain ⟨o', q⟩ := u.there b o e hx
    exact ⟨o', (hs.2 b (ne b o e)).trans q⟩
theorem HOk.but {P : Program} {w : World} {H : Hp} {h1 h2 : Heap} {C : Addr} (x : HOk P w H h1) (hs : Heap.SameBut C h1 h2) (hn : H C = none) : HOk P w H h2 := fun b u e => by
  refine (x b u e).stay (fun c v hc q => (hs.2 c ?_).trans q) (fun _ q => q) fun _ _ q => q
  rintro rfl
  rcases hc with rfl | hc
  · rw [hn] at e; cases e
  · rw [hn] at hc; cases hc

/-! ### the block -/
section
variable {X : Cx} {scope : Scope} {N : List Str} {k : Nat} {caps : List Nat} {psc : Scope} {PN : List Str} {pins : List (Addr × Obj)} {σ : St} {H : Hp} {s : Shared}
/-- the cells of the block -/
abbrev cellsC (X : Cx) (scope : Scope) (C : Addr) : List (Str × Addr) := cellsFrom (C + 1) scope.names (closOf X.env scope.names [])
theorem cellsC_split {C : Addr} (I : Inv X pins σ H s) (S : CompScope X.env.scope X.N scope N k caps) {x : Str} {c : Addr} (h : (x, c) ∈ cellsC X scope C) :
    (x, c) ∈ cellsFrom (C + 1) scope.names [] ∨ X.env.cells.lookup x = some c := by
  unfold cellsC at h
  rw [cellsFrom_app] at h
  rcases List.mem_append.mp h with h | h
  · exact .inl h
  · rcases closOf_mem h with h | ⟨h, e⟩
    · simp at h
    · obtain ⟨c', hc⟩ := I.ok.has x (S.free _ h rfl)
      rw [hc] at e
      exact .inr (by rw [hc]; exact congrArg some e.symm)
theorem comp_start {fp : List Addr} (I : Inv X pins σ H s) (S : CompScope X.env.scope X.N scope N k caps) (hf : ∀ b ∈ fp, FpOk X pins H b) (hfo : ∀ b ∈ fp, ∃ o, s.heap.get? b = some o) {D C : Nat} {h1 : Heap} {t' : Nat} (hD : D = s.heap.objs.size) (hC : C = D + 1)
    (hh : h1 = pushCells ((s.heap.push { cls := .type "list", data := .seq #[] }).push { cls := .type "dict", data := .dict #[] }) scope.names) :
    Inv (cxComp X N scope (cellsC X scope C) C s H fp) [] (compSt k caps σ) (upd H D (.lst [])) { s with heap := h1, toks := t' } := by
  have hsz1 : (s.heap.push { cls := .type "list", data := .seq #[] }).objs.size = C := by rw [Heap.size_push, hC, hD]
  have hsz2 : ((s.heap.push { cls := .type "list", data := .seq #[] }).push { cls := .type "dict", data := .dict #[] }).objs.size = C + 1 := by rw [Heap.size_push, hsz1]
  have old : ∀ b o, s.heap.get? b = some o → h1.get? b = some o := fun b o e => by
    rw [hh]; exact pushCells_keeps _ _ b o (Heap.get?_push_of_some _ (Heap.get?_push_of_some _ e))
  have hacc : h1.get? D = some { cls := .type "list", data := .seq #[] } := by
    rw [hh, hD]; exact pushCells_keeps _ _ _ _ (Heap.get?_push_of_some _ (Heap.get?_push_size _ rfl))
  have hns : h1.Ns C (fun _ => none) := by
    rw [hh, ← hsz1]
    exact (Heap.Ns.new _ (.type "dict")).keeps (pushCells_keeps _ _)
  have ok := cellsFrom_ok scope.names ((s.heap.push { cls := .type "list", data := .seq #[] }).push { cls := .type "dict", data := .dict #[] }) (C + 1) [] ⟨fun _ _ hm => (nomatch hm), List.Pairwise.nil⟩ (by rw [hsz2]; exact Nat.le_refl _)
  rw [hsz2] at ok
  have own : ∀ x c, (x, c) ∈ cellsFrom (C + 1) scope.names [] → h1.IsCell c none ∧ C + 1 ≤ c := fun x c h => by rw [hh]; exact ok.empty x c h
  have par : ∀ x c, X.env.cells.lookup x = some c → c < D := fun x c e => by
    obtain ⟨v, q⟩ := I.cell x c e
    rw [hD]; exact q.lt
  have fpD : ∀ b ∈ fp, b < D := fun b hb => by
    obtain ⟨o, e⟩ := hfo b hb
    rw [hD]; exact Heap.lt_size e
  have hCfree : H C = none := I.hok.fresh (by rw [hC, hD]; exact Nat.le_succ _)
  have split := fun x c (h : (cellsC X scope C).lookup x = some c) => cellsC_split (C := C) I S (PySem.mem_of_lookup h)
  have updn : ∀ b, b ≠ D → H b = none → (upd H D (.lst [])) b = none := fun b hb e => by rw [upd_ne hb]; exact e
  have capt : ∀ x, scope.names.lookup x = some .free → ∃ c, X.env.cells.lookup x = some c ∧ (cellsC X scope C).lookup x = some c := fun x hx => by
    have hm := PySem.mem_of_lookup hx
    obtain ⟨c0, h0⟩ := closOf_has (env := X.env) (acc := []) hm
    obtain ⟨c, hc⟩ := look_of_mem (l := cellsC X scope C) (x := x) (c := c0) (by unfold cellsC; rw [cellsFrom_app]; exact List.mem_append_right _ h0)
    refine ⟨c, ?_, hc⟩
    rcases split x c hc with q | q
    · rcases cellsFrom_cell q with z | z
      · simp at z
      · have := nodup_key S.ndn hm z; cases this
    · exact q
  have okX : (cxComp X N scope (cellsC X scope C) C s H fp).Ok := by
    refine ⟨I.ok.mod, S.kind, I.ok.glob, I.ok.blt, ?above, ?inj, ?has, ?cab, I.ok.hd, I.ok.frames, .inl rfl, ?exf, fun b o e => I.bs b o e, Nat.le_trans I.ok.bsz I.sz, ?noex, ?exfs, I.stack, I.stkFree⟩
    case above =>
      show s.heap.objs.size ≤ C
      rw [hC, hD]; exact Nat.le_succ _
    case inj =>
      intro x y c e1 e2
      rcases split x c e1 with q1 | q1 <;> rcases split y c e2 with q2 | q2
      · exact name_of_addr ok.apart q1 q2
      · have h1 : @LE.le Nat _ (C + 1) c := (own x c q1).2
        have h2 : @LT.lt Nat _ c D := par y c q2
        exfalso; omega
      · have h1 : @LE.le Nat _ (C + 1) c := (own y c q2).2
        have h2 : @LT.lt Nat _ c D := par x c q1
        exfalso; omega
      · exact I.ok.inj x y c q1 q2
    case has =>
      intro x hx
      have hx' : (relabel scope X.env).names.lookup x = some .cell ∨ (relabel scope X.env).names.lookup x = some .free := hx
      have hk : ∃ k', (x, k') ∈ scope.names ∧ (k' = .cell ∨ k' = .free) := by
        rcases hx' with q | q
        · obtain ⟨k', h1, h2⟩ := relabel_look q
          rcases h2 with h2 | ⟨h2, _⟩
          · exact ⟨k', h1, .inl h2.symm⟩
          · exact ⟨k', h1, .inr h2⟩
        · obtain ⟨k', h1, h2⟩ := relabel_look q
          rcases h2 with h2 | ⟨_, h2⟩
          · exact ⟨k', h1, .inr h2.symm⟩
          · cases h2
      obtain ⟨k', hm, hk | hk⟩ := hk
      · subst hk
        have q := PySem.W.cellsFrom_some scope.names (C + 1) (closOf X.env scope.names []) (x := x) (.inl (by
          obtain ⟨k2, hk2⟩ := look_of_mem hm
          rw [hk2, nodup_key S.ndn (PySem.mem_of_lookup hk2) hm]))
        exact Option.isSome_iff_exists.mp q
      · subst hk
        obtain ⟨c0, h0⟩ := closOf_has (env := X.env) (acc := []) hm
        exact look_of_mem (c := c0) (by show (x, c0) ∈ cellsC X scope C; unfold cellsC; rw [cellsFrom_app]; exact List.mem_append_right _ h0)
    case cab =>
      intro x c hx e
      have hx' : decide (scope.names.lookup x ≠ some .free) = true := hx
      have hx2 := of_decide_eq_true hx'
      show s.heap.objs.size ≤ c
      have e' : (cellsC X scope C).lookup x = some c := e
      have hm := PySem.mem_of_lookup e'
      unfold cellsC at hm
      rw [cellsFrom_app] at hm
      rcases List.mem_append.mp hm with z | z
      · have h1 : @LE.le Nat _ (C + 1) c := (own x c z).2
        have h2 : @LE.le Nat _ s.heap.objs.size c := by omega
        exact h2
      · rcases closOf_mem z with z | ⟨z, _⟩
        · simp at z
        · obtain ⟨k2, hk2⟩ := look_of_mem z
          exact absurd (by rw [hk2, nodup_key S.ndn (PySem.mem_of_lookup hk2) z]) hx2
    case exf =>
      intro b hb
      refine ⟨?_, fun x c e z => ?_⟩
      · have h1 : @LT.lt Nat _ b D := fpD b hb
        exact Nat.ne_of_lt (show @LT.lt Nat _ b C by omega)
      · rcases split x c e with q | q
        · have h1 : @LE.le Nat _ (C + 1) c := (own x c q).2
          have h2 : @LT.lt Nat _ b D := fpD b hb
          have z' : @Eq Nat c b := z
          omega
        · exact (hf b hb).2.2.2.2.1 x c q z
    case noex =>
      intro b o e hb
      rcases (hf b hb).2.2.2.1 with q | q
      · exact I.ok.noex b o e q
      · exact absurd (Nat.lt_of_lt_of_le (Heap.lt_size e) (Nat.le_trans I.ok.bsz q)) (Nat.lt_irrefl _)
    case exfs =>
      intro b hb z
      have z' : b ∈ frs X.stack := z
      rcases List.mem_cons.mp (I.stkSub b z') with q | q
      · exact (hf b hb).2.1 q
      · exact (hf b hb).2.2.1 q
  refine ⟨okX, rfl, I.bare, Un.laid old (by rw [hD]; exact Nat.le_refl _) (I.hok.fresh (by rw [hD]; exact Nat.le_refl _)), ⟨_, hns, ?loc⟩, ?cell, updn _ (show @Ne Nat C D by omega) hCfree, ?freeC, fun p hp => absurd hp (by simp), ?hok, ?len⟩
  case loc =>
    intro i x v e1 e2 e3
    obtain ⟨j, hi, hj, hv⟩ := compSt_at e2
    have hz : (x, j) ∈ (N.drop k).zip caps := by
      refine List.mem_iff_getElem?.mpr ⟨i - k, ?_⟩
      rw [List.getElem?_zip_eq_some]
      refine ⟨?_, hj⟩
      rw [List.getElem?_drop, show k + (i - k) = i by omega]
      exact e1
    obtain ⟨hp, hfr⟩ := S.cap (x, j) hz
    have hk := S.free (x, .free) (PySem.mem_of_lookup hfr) rfl
    obtain ⟨m, hn, hl⟩ := I.loc
    obtain ⟨u, r, l⟩ := hl j x v hp hv (by rcases hk with q | q; exact .inr (.inl q); exact .inr (.inr q))
    refine ⟨u, r, ?_⟩
    obtain ⟨c, hc1, hc2⟩ := capt x hfr
    have hcell : s.heap.IsCell c (some u) := by
      rcases l with ⟨q, _⟩ | ⟨_, c', q1, q2⟩
      · have q' : X.env.scope.names.lookup x = some .local := q
        rcases hk with z | z
        · rw [q'] at z; cases z
        · rw [q'] at z; cases z
      · rw [hc1] at q1; cases q1; exact q2
    exact .inr ⟨relabel_free hfr, c, hc2, hcell.keeps old⟩
  case cell =>
    intro x c e
    rcases split x c e with q | q
    · exact ⟨_, (own x c q).1⟩
    · obtain ⟨v, z⟩ := I.cell x c q
      exact ⟨v, z.keeps old⟩
  case freeC =>
    intro x c e
    rcases split x c e with q | q
    · have h1 : @LE.le Nat _ (C + 1) c := (own x c q).2
      have h2 : @LE.le Nat _ s.heap.objs.size c := by omega
      exact updn c (show @Ne Nat c D by omega) (I.hok.fresh h2)
    · exact updn c (Nat.ne_of_lt (par x c q)) (I.freeC x c q)
  case hok =>
    exact I.hok.laid old (by rw [hD]; exact Nat.le_refl _) ⟨Nat.zero_le _, [], 0, .nil, hacc⟩
  case len =>
    show (compSt k caps σ).length = N.length
    unfold compSt
    rw [List.length_append, List.length_replicate, List.length_map, S.len]

/-- at a turn's start the own names are forgotten, the others read anew: their cells stand as they stood -/
theorem comp_again {fp : List Addr} (I : Inv X pins σ H s) (S : CompScope X.env.scope X.N scope N k caps) {C : Addr} {pins' : List (Addr × Obj)} {σ' : St} {H' : Hp} {s' : Shared} (hfc : ∀ x c, X.env.cells.lookup x = some c → c ∉ fp) (hD : s.heap.objs.size ≤ C)
    (J : Inv (cxComp X N scope (cellsC X scope C) C s H fp) pins' σ' H' s') : Inv (cxComp X N scope (cellsC X scope C) C s H fp) pins' (compSt k caps σ) H' s' := by
  obtain ⟨m, hn, _⟩ := id J.loc
  refine ⟨J.ok, J.os, J.bare, J.base, ⟨m, hn, fun i x v e1 e2 e3 => ?_⟩, J.cell, J.free, J.freeC, J.pin, J.hok, ?_⟩
  · obtain ⟨j, hi, hj, hv⟩ := compSt_at e2
    have hz : (x, j) ∈ (N.drop k).zip caps := by
      refine List.mem_iff_getElem?.mpr ⟨i - k, ?_⟩
      rw [List.getElem?_zip_eq_some]
      refine ⟨?_, hj⟩
      rw [List.getElem?_drop, show k + (i - k) = i by omega]
      exact e1
    obtain ⟨hp, hfr⟩ := S.cap (x, j) hz
    have hk := S.free (x, .free) (PySem.mem_of_lookup hfr) rfl
    obtain ⟨m2, hn2, hl⟩ := I.loc
    obtain ⟨u, r, l⟩ := hl j x v hp hv (by rcases hk with q | q; exact .inr (.inl q); exact .inr (.inr q))
    refine ⟨u, r, ?_⟩
    have hcell : ∃ c, X.env.cells.lookup x = some c ∧ s.heap.IsCell c (some u) := by
      rcases l with ⟨q, _⟩ | ⟨_, c', q1, q2⟩
      · have q' : X.env.scope.names.lookup x = some .local := q
        rcases hk with z | z
        · rw [q'] at z; cases z
        · rw [q'] at z; cases z
      · exact ⟨c', q1, q2⟩
    obtain ⟨c, hc1, o, ho, hd⟩ := hcell
    have hc2 : (cellsC X scope C).lookup x = some c := by
      have hm := PySem.mem_of_lookup hfr
      obtain ⟨c0, h0⟩ := closOf_has (env := X.env) (acc := []) hm
      obtain ⟨c', hc'⟩ := look_of_mem (l := cellsC X scope C) (x := x) (c := c0) (by unfold cellsC; rw [cellsFrom_app]; exact List.mem_append_right _ h0)
      rcases cellsC_split (C := C) I S (PySem.mem_of_lookup hc') with q | q
      · rcases cellsFrom_cell q with z | z
        · simp at z
        · have := nodup_key S.ndn hm z; cases this
      · rw [hc1] at q; cases q; exact hc'
    obtain ⟨sl, q⟩ := J.base.any ho (I.freeC x c hc1) (hfc x c hc1)
    exact .inr ⟨relabel_free hfr, c, hc2, _, q, hd⟩
  · show (compSt k caps σ).length = N.length
    unfold compSt
    rw [List.length_append, List.length_replicate, List.length_map, S.len]
end

/-! ### the tests of a comprehension -/
def PF (X : Cx) (ifs : List Expr) (t : TT) : Prop :=
  ∀ (pins : List (Addr × Obj)) (s : Shared) (σ : St) (H : Hp) (Q : Bool → Hp → Prop), Inv X pins σ H s → t σ H Q →
    wpAny (model X.prog X.w) X.A (forIn ifs true fun c r => if r = true then do let ok ← isTrue c X.env (eval c X.env); pure (ForInStep.yield ok) else pure (ForInStep.yield r)) (TP X pins σ Q) X.xe s
def tYes : TT := fun _ H Q => Q true H
theorem pf_nil {X : Cx} : PF X [] tYes := fun _ _ _ H _ I h => wpAny_tests_nil ⟨H, I, h⟩

theorem comp_loop {prog : Program} {w : World} {A : Around} {R : Result → Shared → Prop} {s : Shared} {elt target iter : Expr} {ifs : List Expr} {scope : Scope} {pos : Pos} {it acc : Value} {env : Env} (I : Nat → Shared → Prop)
    (turn : ∀ n s, I n s → wpAny (model prog w) A (pyNext it) (fun r s₁ => match r with
      | none => R (.ok .next) s₁
      | some v => wpAny (model prog w) A (letOwnedTupleGo target it v) (fun _ s₁ => wpAny (model prog w) A (assign target env v) (fun _ s₂ =>
          wpAny (model prog w) A (forIn ifs true fun c r => if r = true then do let ok ← isTrue c env (eval c env); pure (ForInStep.yield ok) else pure (ForInStep.yield r)) (fun ok s₃ =>
            if ok = true then wpAny (model prog w) A (eval elt env) (fun x s₄ =>
              wpAny (model prog w) A (call (.builtin "list.append") [acc, x]) (fun _ s₅ => ∃ m, m < n ∧ I m s₅) (fun _ _ => False) s₄) (fun _ _ => False) s₃
            else ∃ m, m < n ∧ I m s₃) (fun _ _ => False) s₂) (fun _ _ => False) s₁) (fun _ _ => False) s₁) (fun _ _ => False) s)
    (n : Nat) (h : I n s) :
    codeAny (model prog w) A (.compLoop (.ListComp elt [⟨target, iter, ifs, 0⟩] scope pos) 0 it acc env) R s := by
  refine codeAny_loop rfl I (fun n s hI => ?_) n h
  show wpAny _ A ((compTurn (.ListComp elt [⟨target, iter, ifs, 0⟩] scope pos) 0 it acc env).onRaise (fun x => do noteFrame x env; theTreesLotGoes x)) _ _ s
  refine wpAny_noted ?_
  rw [compTurn_list]
  refine wpAny_bind (wpAny_standAt (wpAny_bind (wpAny_mono (turn n s hI) (fun r s₁ h₁ => ?_) fun _ _ h' => h'.elim)))
  cases r with
  | none => exact wpAny_pure h₁
  | some v =>
    refine wpAny_bind (wpAny_mono h₁ (fun _ s₁ h₁ => ?_) fun _ _ h' => h'.elim)
    refine wpAny_bind (wpAny_mono h₁ (fun _ s₂ h₂ => wpAny_bind (wpAny_mono h₂ (fun ok s₃ h₃ => ?_) fun _ _ h' => h'.elim)) fun _ _ h' => h'.elim)
    cases ok with
    | false => exact wpAny_pure ⟨rfl, h₃⟩
    | true =>
      exact wpAny_bind (wpAny_bind (wpAny_mono h₃ (fun x s₄ h₄ => wpAny_bind (wpAny_mono h₄ (fun _ s₅ h₅ => wpAny_pure (wpAny_pure ⟨rfl, h₅⟩)) fun _ _ h' => h'.elim)) fun _ _ h' => h'.elim))

/-- [e for target in iter if c]: the new list at D; W: the invariant by the turn, a measure and the items so far -/
def tComp (k : Nat) (caps : List Nat) (wi : TI) (g : TG) (tc : TT) (te : TE) : TE := fun σ H Q => wi σ H fun J H1 => ∀ D, H1 D = none → ∃ W : Nat → Nat → List V → Hp → Prop, (∃ m, W 0 m [] (upd H1 D (.lst []))) ∧ ∀ i m ys H2, W i m ys H2 →
  (J.stop i H2 ∧ Q (.ref D) H2) ∨ (J.go i H2 ∧ ∀ x H3, J.yld i H2 x H3 → g x (compSt k caps σ) H3 fun σ4 H4 => tc σ4 H4 fun b H5 =>
    if b = true then te σ4 H5 fun y H6 => H6 D = some (.lst ys) ∧ ys.length < sizeLine ∧ ∃ m', m' < m ∧ W (i + 1) m' (ys ++ [y]) (upd H6 D (.lst (ys ++ [y]))) else ∃ m', m' < m ∧ W (i + 1) m' ys H5)

/-- the block runs: the state behind it as the code around sees it -/
theorem comp_block {X : Cx} {elt iter tg : Expr} {ifs : List Expr} {scope : Scope} {pos : Pos} {N : List Str} {k : Nat} {caps : List Nat} {g : TG} {tc : TT} {te : TE} {pins : List (Addr × Obj)} {σ : St} {H : Hp} {s : Shared} {E : Value → Shared → Prop} {Q : VK}
    {it : Addr} {fp : List Addr} {tn : Nat → Heap → Prop} {J : It} {RR : Value → Addr → Result → Shared → Prop} (hc : X.calm = true) (S : CompScope X.env.scope X.N scope N k caps) (I : Inv X pins σ H s)
    (T : Turn X.prog X.w X.K tg J fp it tn) (st : tn 0 s.heap) (hf : ∀ b ∈ fp, FpOk X pins H b)
    (hg : ∀ cs C s H ex, PG (cxComp X N scope cs C s H ex) tg g) (ht : ∀ cs C s H ex, PF (cxComp X N scope cs C s H ex) ifs tc) (he : ∀ cs C s H ex, PE (cxComp X N scope cs C s H ex) elt te)
    (q : ∀ D, H D = none → ∃ W : Nat → Nat → List V → Hp → Prop, (∃ m, W 0 m [] (upd H D (.lst []))) ∧ ∀ i m ys H2, W i m ys H2 →
      (J.stop i H2 ∧ Q (.ref D) H2) ∨ (J.go i H2 ∧ ∀ x H3, J.yld i H2 x H3 → g x (compSt k caps σ) H3 fun σ4 H4 => tc σ4 H4 fun b H5 =>
        if b = true then te σ4 H5 fun y H6 => H6 D = some (.lst ys) ∧ ys.length < sizeLine ∧ ∃ m', m' < m ∧ W (i + 1) m' (ys ++ [y]) (upd H6 D (.lst (ys ++ [y]))) else ∃ m', m' < m ∧ W (i + 1) m' ys H5))
    (hRR : ∀ D C H' s' m, C ≠ X.env.locals → (∀ x c, X.env.cells.lookup x = some c → c ≠ C) → s'.heap.Ns C m → (∀ h', Heap.SameBut C s'.heap h' → Inv X pins σ H' { s' with heap := h' }) → H' C = none → s.heap.objs.size ≤ C → Q (.ref D) H' → RR (.ref D) C (.ok .next) s') :
    wpAny (model X.prog X.w) X.A (newList []) (fun acc s₃ => wpAny (model X.prog X.w) X.A (newFunctionEnv scope X.env.globals (closOf X.env scope.names []) [] X.env.qual none .none (some X.env)) (fun cenv s₄ =>
      codeAny (model X.prog X.w) X.A (.compStart (.ListComp elt [⟨tg, iter, ifs, 0⟩] scope pos) 0 (.ref it) acc { cenv with scope := relabel scope X.env }) (RR acc cenv.locals) s₄) E s₃) E s := by
  refine wpAny_newObj_type (nfe_comp ?_)
  generalize hD : s.heap.objs.size = D
  have hsz1 : (s.heap.push { cls := .type "list", dict := none, data := .seq ([] : List Value).toArray }).objs.size = D + 1 := by rw [Heap.size_push, hD]
  dsimp only
  rw [hsz1]
  have hfo : ∀ b ∈ fp, ∃ o, s.heap.get? b = some o := fun b hb => let ⟨o, e, _⟩ := T.obj 0 _ st b hb; ⟨o, e⟩
  have hHD : H D = none := I.hok.fresh (by rw [hD]; exact Nat.le_refl _)
  have J0 := comp_start (t' := s.toks) I S hf hfo (D := D) (C := D + 1) hD.symm rfl rfl
  have hfc : ∀ x c, X.env.cells.lookup x = some c → c ∉ fp := fun x c e hb => (hf c hb).2.2.2.2.1 x c e rfl
  have fpo : ∀ {pins' : List (Addr × Obj)} {H' : Hp}, (∀ b ∈ fp, H' b = none) → pins' = [] → ∀ b ∈ fp, FpOk (cxComp X N scope (cellsC X scope (D + 1)) (D + 1) s H fp) pins' H' b := fun {pins' H'} hn hp b hb => by
    obtain ⟨o, e⟩ := hfo b hb
    have hlt : @LT.lt Nat _ b D := by rw [← hD]; exact Heap.lt_size e
    subst hp
    refine ⟨hn b hb, ?_, fun z => ?_, .inl hb, fun x c e => (J0.ok.exf b hb).2 x c e, fun p hp => absurd hp (by simp)⟩
    · show @Ne Nat b (D + 1)
      omega
    · have z' : b ∈ frs X.stack := z
      rcases List.mem_cons.mp (I.stkSub b z') with w | w
      · exact (hf b hb).2.1 w
      · exact (hf b hb).2.2.1 w
  obtain ⟨W, ⟨m0, w0⟩, turn⟩ := q D hHD
  have st1 : tn 0 (pushCells ((s.heap.push { cls := .type "list", data := .seq #[] }).push { cls := .type "dict", data := .dict #[] }) scope.names) := T.keep 0 _ _ st fun b hb o e => pushCells_keeps _ _ b o (Heap.get?_push_of_some _ (Heap.get?_push_of_some _ e))
  have fr0 : ∀ b ∈ fp, (upd H D (.lst [])) b = none := fun b hb => by
    obtain ⟨o, e⟩ := hfo b hb
    have hlt : @LT.lt Nat _ b D := by rw [← hD]; exact Heap.lt_size e
    rw [upd_ne (show @Ne Nat b D by omega)]
    exact (hf b hb).1
  have fin : ∀ {H' : Hp} {s' : Shared} {σ' : St} {pins' : List (Addr × Obj)}, Inv (cxComp X N scope (cellsC X scope (D + 1)) (D + 1) s H fp) pins' σ' H' s' → Q (.ref D) H' → RR (.ref D) (D + 1) (.ok .next) s' := fun {H' s' σ' pins'} J q => by
    obtain ⟨m, hn, _⟩ := id J.loc
    refine hRR D (D + 1) H' s' m (fun z => ?_) (fun x c e z => ?_) hn (fun h' hs => ?_) J.free (by rw [hD]; exact Nat.le_succ _) q
    · have h1 : @LT.lt Nat _ X.env.locals D := by rw [← hD]; exact I.lt
      have z' : @Eq Nat (D + 1) X.env.locals := z
      omega
    · obtain ⟨v, y⟩ := I.cell x c e
      have h1 : @LT.lt Nat _ c D := by rw [← hD]; exact y.lt
      have z' : @Eq Nat c (D + 1) := z
      omega
    · refine I.call' (ch := fp) J.os (J.base.but hs (by rw [hD]; exact Nat.le_succ _)) (J.hok.but hs J.free) J.bare fun b hb => ?_
      exact ⟨(hf b hb).2.2.2.1, (hf b hb).2.1, (hf b hb).2.2.2.2.1, (hf b hb).2.2.2.2.2⟩
  have loop : codeAny (model X.prog X.w) X.A (.compLoop (.ListComp elt [⟨tg, iter, ifs, 0⟩] scope pos) 0 (.ref it) (.ref D) (compEnvC scope (cellsC X scope (D + 1)) (D + 1) X.env)) (RR (.ref D) (D + 1))
      { s with heap := pushCells ((s.heap.push { cls := .type "list", data := .seq #[] }).push { cls := .type "dict", data := .dict #[] }) scope.names } := by
    refine comp_loop (fun n s' => ∃ i ys H', Inv (cxComp X N scope (cellsC X scope (D + 1)) (D + 1) s H fp) [] (compSt k caps σ) H' s' ∧ tn i s'.heap ∧ (∀ b ∈ fp, H' b = none) ∧ W i n ys H') ?_ m0 ⟨0, [], _, J0, st1, fr0, w0⟩
    rintro n s3 ⟨i, ys, H3, I3, st3, fr3, w3⟩
    rcases turn i n ys H3 w3 with ⟨stop, qn⟩ | ⟨go, step⟩
    · refine thn (T.done (cxComp X N scope (cellsC X scope (D + 1)) (D + 1) s H fp) rfl rfl rfl hc i [] s3 _ H3 _ I3 (fpo fr3 rfl) st3 stop) fun r s4 ⟨hr, I4⟩ => ?_
      subst hr
      exact fin I4 qn
    · refine thn (T.item (cxComp X N scope (cellsC X scope (D + 1)) (D + 1) s H fp) rfl rfl rfl hc i [] s3 _ H3 _ I3 (fpo fr3 rfl) st3 go) fun r s4 ⟨u, hr, h4⟩ => ?_
      subst hr
      refine thn h4 fun _ s5 ⟨x, H5, I5, r5, y5, st5, fr5⟩ => ?_
      have I5' := I5.pinned (fpo fr5 rfl) (T.obj _ _ st5)
      have again : ∀ {σ7 : St} {H7 : Hp} {s7 : Shared} {m' : Nat} {zs : List V}, Inv (cxComp X N scope (cellsC X scope (D + 1)) (D + 1) s H fp) ([] ++ pinsAt fp s5.heap) σ7 H7 s7 → m' < n → W (i + 1) m' zs H7 →
          ∃ m, m < n ∧ ∃ i ys H', Inv (cxComp X N scope (cellsC X scope (D + 1)) (D + 1) s H fp) [] (compSt k caps σ) H' s7 ∧ tn i s7.heap ∧ (∀ b ∈ fp, H' b = none) ∧ W i m ys H' := fun {σ7 H7 s7 m' zs} I7 hm w7 => by
        refine ⟨m', hm, i + 1, zs, H7, comp_again I S hfc (by rw [hD]; exact Nat.le_succ _) I7.unpinned, T.keep _ _ _ st5 fun b hb o e => (I7.pin (b, o) (List.mem_append_right _ (List.mem_append_right _ (mem_pinsAt hb e)))).1, fun b hb => ?_, w7⟩
        obtain ⟨o, e, d⟩ := T.obj _ _ st5 b hb
        exact (I7.pin (b, o) (List.mem_append_right _ (List.mem_append_right _ (mem_pinsAt hb e)))).2.1
      refine thn (hg _ _ _ _ _ _ s5 _ H5 x u _ I5' r5 (step x H5 y5)) fun _ s6 ⟨σ6, H6, I6, q6⟩ => ?_
      refine thn (ht _ _ _ _ _ _ s6 σ6 H6 _ I6 q6) fun b s7 ⟨H7, I7, q7⟩ => ?_
      cases b with
      | false =>
        rw [if_neg Bool.false_ne_true] at q7 ⊢
        obtain ⟨m', hm, w7⟩ := q7
        exact again I7 hm w7
      | true =>
        rw [if_pos rfl] at q7 ⊢
        refine thn (he _ _ _ _ _ _ s7 σ6 H7 _ I7 q7) fun y s8 ⟨yv, H8, I8, r8, hD8, hz8, m', hm, w8⟩ => ?_
        refine thn (mt_append (X := cxComp X N scope (cellsC X scope (D + 1)) (D + 1) s H fp) _ s8 σ6 H8 (.ref D) [yv] (.ref D) [y] (fun _ H9 => W (i + 1) m' (ys ++ [yv]) H9) I8 rfl (.cons r8 .nil) ⟨D, ys, yv, rfl, rfl, hD8, hz8, w8⟩) fun _ s9 ⟨_, H9, I9, _, w9⟩ => ?_
        exact again I9 hm w9
  exact codeAny_compStart_list loop (T.self _ 0 _ _ _ st1 loop)

theorem pe_comp {X : Cx} {elt iter tg : Expr} {ifs : List Expr} {scope : Scope} {pos : Pos} {N : List Str} {k : Nat} {caps : List Nat} {wi : TI} {g : TG} {tc : TT} {te : TE} (hc : X.calm = true) (S : CompScope X.env.scope X.N scope N k caps) (hi : PI X tg iter wi)
    (hg : ∀ cs C s H ex, PG (cxComp X N scope cs C s H ex) tg g) (ht : ∀ cs C s H ex, PF (cxComp X N scope cs C s H ex) ifs tc) (he : ∀ cs C s H ex, PE (cxComp X N scope cs C s H ex) elt te)
    (hs : ∀ x, foldedSetIterable iter X.env x = pure x := by intro _; rfl) : PE X (.ListComp elt [⟨tg, iter, ifs, 0⟩] scope pos) (tComp k caps wi g tc te) := by
  intro pins s σ H Q I h
  have hcl : closureFor scope X.env = pure (closOf X.env scope.names []) := closureFor_of fun x hx hfr => I.ok.has x.1 (S.free x hx hfr)
  rw [eval_ListComp]
  refine wpAny_comprehension_free (use := none) rfl hs hcl S.kind S.loc (thn (hi pins s σ H _ I h) fun v s1 h1 => thn h1 fun itv s2 h2 => ?_)
  obtain ⟨it, fp, tn, J, H2, e, I2, T, st2, f2, q⟩ := h2
  subst e
  refine comp_block (Q := Q) hc S I2 T st2 f2 hg ht he q ?_
  intro D C H' s' m _ _ hn hI _ _ hq
  exact ⟨m, hn, fun h' hs' => ⟨.ref D, H', hI h' hs', rfl, hq⟩⟩

/-- x = [e for ..], where the store comes ahead of the block's end -/
theorem ps_setC {X : Cx} {elt iter tg : Expr} {ifs : List Expr} {scope : Scope} {pos spos : Pos} {N : List Str} {k i : Nat} {x : Str} {pos' : Pos} {caps : List Nat} {wi : TI} {g : TG} {tc : TT} {te : TE} (hN : X.N.Nodup) (hi' : X.N[i]? = some x) (hx : Loc X.env.scope x)
    (hc : X.calm = true) (S : CompScope X.env.scope X.N scope N k caps) (hi : PI X tg iter wi)
    (hg : ∀ cs C s H ex, PG (cxComp X N scope cs C s H ex) tg g) (ht : ∀ cs C s H ex, PF (cxComp X N scope cs C s H ex) ifs tc) (he : ∀ cs C s H ex, PE (cxComp X N scope cs C s H ex) elt te)
    (hsw : swapsWith (.ListComp elt [⟨tg, iter, ifs, 0⟩] scope pos) (some (.Name x pos')) spos.line X.env = pure true := by rfl)
    (hs : ∀ x, foldedSetIterable iter X.env x = pure x := by intro _; rfl) (hfn : X.fn x = true ∨ X.env.scope.names.lookup x = some .local := by first | exact .inl rfl | exact .inr rfl | assumption) :
    PS X (.Assign [.Name x pos'] (.ListComp elt [⟨tg, iter, ifs, 0⟩] scope pos) spos) (tAsg (tComp k caps wi g tc te) (gName i)) := by
  intro pins s σ H D I h
  have hcl : closureFor scope X.env = pure (closOf X.env scope.names []) := closureFor_of fun x hx hfr => I.ok.has x.1 (S.free x hx hfr)
  rw [exec_Assign_Name_used _ _ _ _ hsw]
  refine wpAny_bind (wpAny_standAt (wpAny_bind ?_))
  show wpAny _ _ (do let _ ← comprehension (.ListComp elt [⟨tg, iter, ifs, 0⟩] scope pos) scope X.env _ (newList []) false (eval iter X.env) (some (assign (.Name x pos') X.env))) _ _ s
  refine wpAny_bind (wpAny_mono (wpAny_comprehension_free (use := some (assign (.Name x pos') X.env)) (Q := fun _ s' => SP X pins D .next s') rfl hs hcl S.kind S.loc
    (thn (hi pins s σ H _ I h) fun v s1 h1 => thn h1 fun itv s2 h2 => ?_)) (fun _ s' hq => wpAny_pure (wpAny_pure hq)) fun _ _ e => e)
  obtain ⟨it, fp, tn, J, H2, e, I2, T, st2, f2, q⟩ := h2
  subst e
  refine comp_block (Q := fun x H1 => gName i x σ H1 D.nx) hc S I2 T st2 f2 hg ht he q ?_
  intro D' C H' s' m hCL hCc hn hI hHC hCs hq
  have I3 := hI s'.heap (.refl ..)
  have I3' : Inv X pins σ H' s' := I3
  refine wpAny_assign_Name (store_ok2 I3' hN hi' hx (show RelV (V.ref D') (.ref D') from rfl) (fun s'' I4 ⟨a, hsb, ha⟩ => ?_) hfn)
  have hCa : C ≠ a := by
    rcases ha with ha | ha
    · rw [ha]; exact hCL
    · exact Ne.symm (hCc x a ha)
  refine ⟨m, hn.sameBut hsb hCa, fun h' hs' => ?_⟩
  refine ⟨_, H', ?_, hq⟩
  exact I4.turned (t' := s''.toks) (fun b o hb e => (hs'.2 b hb).trans e) hHC hCL (.inr (Nat.le_trans I2.sz hCs)) hCc fun p hp z => by
    have := Heap.lt_size (I2.pin p hp).1
    rw [z] at this
    exact absurd (Nat.lt_of_lt_of_le this hCs) (Nat.lt_irrefl _)
end L2

namespace L2
open PySem PySem.Spec PyProof.Rows
/-- a def of the text that may be called by its name: its promise, its address, how it binds -/
def Callee (P : Program) (w : World) (K : PySem.W.Frag) (mg : Str → Option Value) (base : Heap) (x : Str) (k : Nat) (ps : List Str) (sp : Sp) : Prop :=
  ∃ f fd, FnOk P w K mg base CX0 k f fd ps sp ∧ mg x = some (.ref f) ∧ PySem.W.keepIn K (.ref f) = true ∧ Binds K fd ps []
section
variable {X : Cx} {x : Str} {k : Nat} {ps : List Str} {sp : Sp} {e : Expr} {es : List Expr} {t : TA} {p pos : Pos}
theorem pe_fn (C : Callee X.prog X.w X.K X.mg X.base x k ps sp) (ha : PA X (e :: es) t) (hr : Room k X.A := by exact Room.mono (by assumption) (by decide)) (hg : Gl X x := by rfl) (hdb : (x == ("__debug__" : Str)) = false := by decide)
    (he : starEach (e :: es) X.env = (false, eval e X.env) :: starEach es X.env := by rfl) (hpl : (backTo pos (starEach es X.env)).any (·.1) = false := by rfl) : PE X (.Call (.Name x p) (e :: es) [] pos) (tCall sp [] E0 t) := by
  obtain ⟨f, fd, F, hm, hk, hb⟩ := C
  exact pe_call F hr hg hm hk hb .nil pass0 ha hdb he hpl
end
theorem pe_ty {X : Cx} {x : Str} {pos : Pos} (n : String) (hg : Gl X x) (hm : X.mg x = none) (hv : bootBuiltins x = some (.type n)) (hn : x ≠ "__name__" := by decide) (hd : (x == ("__debug__" : Str)) = false := by decide) : PE X (.Name x pos) (tC (.ty n)) := pe_bltn (v := .ty n) hg hm hv rfl hn hd
/-! ### comprehensions whose element leaves what was tracked -/
theorem Same.upd {H H' : Hp} {D : Addr} {o : HO} (h : Same H H') (hn : H D = none) : Same H (upd H' D o) := fun b u e => by
  rw [upd_ne (ne_of_none e hn)]; exact h b u e
theorem Same.seqT {K : PySem.W.Frag} {H H' : Hp} {a : Addr} {xs : List V} (e : Same H H') (h : SqT K H a xs) : SqT K H' a xs := by
  rcases h with (h | ⟨o, h⟩) | h
  · exact .inl (.inl (e _ _ h))
  · exact .inl (.inr ⟨o, e _ _ h⟩)
  · exact .inr h
/-- over a range, no test: the items are f 0, f 1, .. -/
theorem comp_range {k : Nat} {caps : List Nat} {g : TG} {te : TE} {σ : St} {H1 : Hp} {Q : Addr → Hp → Prop} {lo : Int} {n : Nat} (f : Nat → V) (hn : n ≤ sizeLine)
    (hs : ∀ (i : Nat) (H2 : Hp) (D : Addr) (R : VK), i < n → Same H1 H2 → H1 D = none → (∀ H3, Same H2 H3 → R (f i) H3) → g (.int (lo + i)) (compSt k caps σ) H2 fun σ4 H4 => te σ4 H4 R)
    (hd : ∀ (H2 : Hp) (D : Addr), Same H1 H2 → H1 D = none → H2 D = some (.lst ((List.range n).map f)) → Q D H2) :
    ∀ D, H1 D = none → ∃ W : Nat → Nat → List V → Hp → Prop, (∃ m, W 0 m [] (upd H1 D (.lst []))) ∧ ∀ i m ys H2, W i m ys H2 →
      ((Itr lo n).stop i H2 ∧ Q D H2) ∨ ((Itr lo n).go i H2 ∧ ∀ x H3, (Itr lo n).yld i H2 x H3 → g x (compSt k caps σ) H3 fun σ4 H4 => tYes σ4 H4 fun b H5 =>
        if b = true then te σ4 H5 fun y H6 => H6 D = some (.lst ys) ∧ ys.length < sizeLine ∧ ∃ m', m' < m ∧ W (i + 1) m' (ys ++ [y]) (upd H6 D (.lst (ys ++ [y]))) else ∃ m', m' < m ∧ W (i + 1) m' ys H5) := by
  intro D hD
  refine ⟨fun i m ys H2 => m = n - i ∧ i ≤ n ∧ ys = (List.range i).map f ∧ Same H1 H2 ∧ H2 D = some (.lst ys), ⟨n, rfl, Nat.zero_le _, rfl, (Same.refl _).upd hD, upd_same⟩, ?_⟩
  rintro i m ys H2 ⟨rfl, hi, rfl, s2, e2⟩
  by_cases hlt : i < n
  · refine .inr ⟨hlt, fun x H3 y => ?_⟩
    obtain ⟨rfl, rfl⟩ := y
    refine hs i H3 D _ hlt s2 hD fun H4 s4 => ?_
    refine ⟨s4 _ _ e2, by rw [List.length_map, List.length_range]; omega, n - (i + 1), by omega, rfl, hlt, ?_, (s2.trans s4).upd hD, upd_same⟩
    rw [List.range_succ, List.map_append]
    rfl
  · have e : i = n := by omega
    subst e
    exact .inl ⟨Nat.le_refl _, hd H2 D s2 hD e2⟩
/-- over a list that stays, no test -/
theorem comp_list {K : PySem.W.Frag} {a : Addr} {xs : List V} {k : Nat} {caps : List Nat} {g : TG} {te : TE} {σ : St} {H1 : Hp} {Q : Addr → Hp → Prop} (f : V → V) (hn : xs.length ≤ sizeLine) (hq : SqL K H1 a xs)
    (hs : ∀ (i : Nat) (x : V) (H2 : Hp) (D : Addr) (R : VK), xs[i]? = some x → Same H1 H2 → H1 D = none → (∀ H3, Same H2 H3 → R (f x) H3) → g x (compSt k caps σ) H2 fun σ4 H4 => te σ4 H4 R)
    (hd : ∀ (H2 : Hp) (D : Addr), Same H1 H2 → H1 D = none → H2 D = some (.lst (xs.map f)) → Q D H2) :
    ∀ D, H1 D = none → ∃ W : Nat → Nat → List V → Hp → Prop, (∃ m, W 0 m [] (upd H1 D (.lst []))) ∧ ∀ i m ys H2, W i m ys H2 →
      ((Itl K a).stop i H2 ∧ Q D H2) ∨ ((Itl K a).go i H2 ∧ ∀ x H3, (Itl K a).yld i H2 x H3 → g x (compSt k caps σ) H3 fun σ4 H4 => tYes σ4 H4 fun b H5 =>
        if b = true then te σ4 H5 fun y H6 => H6 D = some (.lst ys) ∧ ys.length < sizeLine ∧ ∃ m', m' < m ∧ W (i + 1) m' (ys ++ [y]) (upd H6 D (.lst (ys ++ [y]))) else ∃ m', m' < m ∧ W (i + 1) m' ys H5) := by
  intro D hD
  refine ⟨fun i m ys H2 => m = xs.length - i ∧ i ≤ xs.length ∧ ys = (xs.take i).map f ∧ Same H1 H2 ∧ H2 D = some (.lst ys), ⟨xs.length, rfl, Nat.zero_le _, rfl, (Same.refl _).upd hD, upd_same⟩, ?_⟩
  rintro i m ys H2 ⟨rfl, hi, rfl, s2, e2⟩
  have q2 := s2.seq hq
  by_cases hlt : i < xs.length
  · refine .inr ⟨⟨xs, xs[i], q2, by simp [hlt]⟩, fun x H3 y => ?_⟩
    obtain ⟨rfl, y⟩ := y
    have hx := y xs q2
    refine hs i x H3 D _ hx s2 hD fun H4 s4 => ?_
    refine ⟨s4 _ _ e2, by rw [List.length_map, List.length_take]; omega, xs.length - (i + 1), by omega, rfl, hlt, ?_, (s2.trans s4).upd hD, upd_same⟩
    rw [List.take_succ, hx, List.map_append]
    rfl
  · have e : i = xs.length := by omega
    subst e
    rw [List.take_length] at e2
    exact .inl ⟨⟨xs, q2, Nat.le_refl _⟩, hd H2 D s2 hD e2⟩
end L2

namespace L2
open PySem PySem.Spec PyProof.Rows
/-- a text by its codes -/
abbrev tx (cs : List Nat) : Str := ⟨cs.toArray⟩
theorem tx_list (cs : List Nat) : (tx cs).cps.toList = cs := by simp [tx]
theorem tx_len (cs : List Nat) : (tx cs).length = cs.length := by simp [tx, Str.length]
theorem tx_inj {a b : List Nat} (h : tx a = tx b) : a = b := by
  have := congrArg (fun s => s.cps.toList) h
  simpa [tx] using this
theorem app_lst (a y : Str) : (a ++ y).cps.toList = a.cps.toList ++ y.cps.toList := by rw [PySem.Str.cps_append, Array.toList_append]
theorem join_tx (ys : List Str) : (Txt.join (Str.ofString "") ys).cps.toList = (ys.map fun y => y.cps.toList).flatten := by
  show (Builtin.Str.glued (Str.ofString "") ys).cps.toList = _
  rw [StrLaws.glued_eq_join]
  induction ys with
  | nil => rfl
  | cons a r ih =>
    cases r with
    | nil => simp [Str.join]
    | cons b r =>
      rw [join_cons_cons, app_lst, app_lst, ih]
      have z : (Str.ofString "").cps.toList = [] := by decide +kernel
      rw [z]
      simp
theorem join_sing (cs : List Nat) : Txt.join (Str.ofString "") (cs.map fun c => (⟨#[c]⟩ : Str)) = tx cs := by
  refine ext_toList ?_
  rw [join_tx, tx_list, List.map_map]
  induction cs with
  | nil => rfl
  | cons c r ih =>
    rw [List.map_cons, List.flatten_cons, ih]
    rfl
theorem joinOk_small {ys : List Str} (h : ∀ y ∈ ys, y.length ≤ 8) (hn : ys.length ≤ 100) : JoinOk (Str.ofString "") ys = true := by
  refine joinOk_of_weight ?_ (by decide +kernel)
  have : (ys.map (·.length)).sum ≤ 8 * ys.length := by
    clear hn
    induction ys with
    | nil => simp
    | cons a r ih =>
      have h1 := h a (by simp)
      have h2 := ih fun y hy => h y (by simp [hy])
      simp only [List.map_cons, List.sum_cons, List.length_cons]
      omega
  omega
/-- a cell of the script, 0 where there is none -/
def cellAt (ns : List Int) (k : Int) : Int := (ns[k.toNat]?).getD 0
theorem seq_setC {v : V} {i : Nat} {u : TS} {D : Ends} {σ : St} {H : Hp} (h : u D (σ.set i (some v)) H) : tSeq (tAsg (tC v) (gName i)) u D σ H := h
theorem ixN_in {n : Nat} {k : Int} (h0 : 0 ≤ k) (h1 : k < n) : ixN n k = some k.toNat := by
  unfold ixN
  rw [if_pos h0, if_pos h1]
end L2
namespace L2
open PySem PySem.Spec PyProof.Rows
theorem cutV_take (xs : List V) (n : Nat) : cutV xs none (some (n : Int)) = xs.take n := by
  unfold cutV
  rw [HT.sIx_none, HT.sIx_nat, List.drop_zero, Nat.sub_zero]
  by_cases h : n ≤ xs.length
  · rw [Nat.min_eq_left h]
  · rw [Nat.min_eq_right (by omega), List.take_of_length_le (Nat.le_refl _), List.take_of_length_le (by omega)]
theorem cutV_drop (xs : List V) (n : Nat) : cutV xs (some (n : Int)) none = xs.drop n := by
  unfold cutV
  rw [HT.sIx_none, HT.sIx_nat]
  by_cases h : n ≤ xs.length
  · rw [Nat.min_eq_left h, List.take_of_length_le (by rw [List.length_drop]; exact Nat.le_refl _)]
  · rw [Nat.min_eq_right (by omega), List.drop_of_length_le (Nat.le_refl _), List.drop_of_length_le (by omega)]
    simp
theorem cutV_mid (xs : List V) (a b : Nat) (hab : a ≤ b) : cutV xs (some (a : Int)) (some (b : Int)) = (xs.drop a).take (b - a) := by
  unfold cutV
  rw [HT.sIx_nat, HT.sIx_nat]
  by_cases ha : a ≤ xs.length
  · rw [Nat.min_eq_left ha]
    by_cases hb : b ≤ xs.length
    · rw [Nat.min_eq_left hb]
    · rw [Nat.min_eq_right (show xs.length ≤ b by omega), List.take_of_length_le (by rw [List.length_drop]; exact Nat.le_refl _), List.take_of_length_le (by rw [List.length_drop]; omega)]
  · rw [Nat.min_eq_right (show xs.length ≤ a by omega), List.drop_of_length_le (Nat.le_refl _), List.drop_of_length_le (show xs.length ≤ a by omega)]
    simp
theorem same_new {H : Hp} {p : Addr} {o : HO} (h : H p = none) : Same H (upd H p o) := (Same.refl H).upd h
end L2

namespace L2
open PySem PySem.Spec PyProof.Rows
section
variable {X : Cx}
theorem mr_append : MtR X "list.append" rAppend := mt_append
theorem mr_clear : MtR X "list.clear" rClear := mt_clear
end
abbrev xMod : R2 := rI (fun _ j => 0 < j) fun i j => .int (i % j)
abbrev xDiv : R2 := rI CDiv fun i j => .int (i / j)
abbrev xMul : R2 := rI CMul fun i j => .int (i * j)
abbrev xAdd : R2 := rI0 fun i j => .int (i + j)
end L2

namespace L2
open PySem PySem.Spec PyProof.Rows
section
variable {X : Cx}
/-- d.setdefault(k, x) -/
def rSetD : V → List V → Hp → VK → Prop := fun x vs H Q => ∃ a kvs k d, x = .ref a ∧ vs = [kV k, d] ∧ H a = some (.dK kvs) ∧ kvs.length < sizeLine ∧ (∀ v, valV kvs k = some v → Q v H) ∧ (valV kvs k = none → Q d (upd H a (.dK (putK kvs k d))))
theorem mt_setdefault : MtR X "dict.setdefault" rSetD := by
  intro pins s σ H x vs v us Q I rx rv h
  obtain ⟨a, kvs, k, d, rfl, rfl, hd, hz, q1, q2⟩ := h
  cases rx
  obtain ⟨u, r, rfl, ru, rr⟩ := vals2 rv
  obtain ⟨z, hm, ws, rel, dd⟩ := dk_of I.hok hd
  have hl : ws.length ≤ sizeLine := by rw [← rel.length]; exact z
  have hv := rel.val k
  refine call_meetsIn PySem.F.slot_dict_setdefault dd.typeIs PySem.F.entry_dict_setdefault (PySem.F.args_dict_setdefault_3 _ _ _) (kt_meets_setdefault (mixKind X.prog X.w) a (kV_is ru) hm r)
    ⟨ws, dd, hl, fun y hy => ?_, fun hn h' dd' hs => ?_⟩
  · rw [hy] at hv
    cases e : valV kvs k with
    | none => rw [e] at hv; exact False.elim hv
    | some v0 =>
      rw [e] at hv
      exact ⟨v0, H, I.tok _, hv, q1 v0 e⟩
  · rw [hn] at hv
    cases e : valV kvs k with
    | some v0 => rw [e] at hv; exact False.elim hv
    | none =>
      have hl : (putK kvs k d).length ≤ sizeLine := by have := length_putK kvs k d; omega
      have he : ∃ q, h'.get? a = some q := let ⟨q, _, _, hq, _⟩ := dd'; ⟨q, hq⟩
      exact ⟨d, _, d_write I (by rw [hd]; exact True.intro) hs he (dk_new hl hm (rel.put k rr) dd'), rr, q2 e⟩
/-- d.get(k, x) -/
def rGetD : V → List V → Hp → VK → Prop := fun x vs H Q => ∃ a y z o, x = .ref a ∧ vs = [y, z] ∧ DGet H a y o ∧ Q (o.getD z) H
theorem mt_get (hu : X.A.units + 1 < cLine) : MtR X "dict.get" rGetD := by
  intro pins s σ H x vs v us Q I rx rv h
  obtain ⟨a, y, z, o, rfl, rfl, g, q⟩ := h
  cases rx
  obtain ⟨u, r, rfl, ru, rr⟩ := vals2 rv
  exact d_get2 hu I g ru rr fun w' s' I' rw' => ⟨_, H, I', rw', q⟩
/-- in, not in a dict; d[k] -/
def rInDict (neg : Bool) : R2 := fun x y H Q => ∃ a o, y = .ref a ∧ DGet H a x o ∧ Q (.bl (o.isSome != neg)) H
theorem op_inDict (hu : X.A.units + 1 < cLine) : OpR X (compareOp .In) (rInDict false) := by
  intro pins s σ H x y v u Q I rx ry h
  obtain ⟨a, o, rfl, g, q⟩ := h
  cases ry
  refine d_in hu I g rx fun s' I' => ⟨.bl _, H, I', ?_, q⟩
  cases o <;> rfl
theorem op_notinDict (hu : X.A.units + 1 < cLine) : OpR X (compareOp .NotIn) (rInDict true) := by
  intro pins s σ H x y v u Q I rx ry h
  obtain ⟨a, o, rfl, g, q⟩ := h
  cases ry
  refine d_notIn hu I g rx fun s' I' => ⟨.bl _, H, I', ?_, q⟩
  cases o <;> rfl
/-- d[k] = v as a target -/
def rSetDict : V → V → V → Hp → (Hp → Prop) → Prop := fun o i v H Q => ∃ a H', o = .ref a ∧ DPut H a i v H' ∧ Q H'
theorem set_dict (hu : X.A.units + 1 < cLine) : PSet X rSetDict := by
  intro pins s σ H o i v ov iv u Q I ro ri rv h
  obtain ⟨a, H', rfl, g, q⟩ := h
  cases ro
  exact d_setItem hu I g ri rv fun s' I' => ⟨H', I', q⟩
/-- the truth of a list -/
theorem pt_list {a : Expr} {ta : TE} (ha : PE X a ta) (he : ∀ whole, isTrue a X.env whole = (do let v ← whole; standAt a.pos; holding [v] (truthy v)) := by intro _; rfl) :
    PT X a (fun σ H Q => ta σ H fun x H1 => ∃ p xs, x = .ref p ∧ SqL X.K H1 p xs ∧ Q (!xs.isEmpty) H1) := by
  intro pins s σ H Q I hw
  refine isTrue_plain (thn (ha pins s σ H _ I hw) fun v s1 ⟨x, H1, I1, r1, q1⟩ => ?_) (he _)
  obtain ⟨p, xs, rfl, hq, q⟩ := q1
  exact tru_ok pins s1 σ H1 _ v Q I1 r1 ⟨_, Or.inl ⟨xs, hq, rfl⟩, q⟩
end
theorem map_cell {f : Str × NameKind → Str × NameKind} (hf : ∀ n k, f (n, k) = (n, k) ∨ (k = .free ∧ f (n, k) = (n, NameKind.cell))) : ∀ {names : List (Str × NameKind)} {x : Str}, names.lookup x = some .cell → (names.map f).lookup x = some .cell
  | [], _, h => by simp at h
  | (n, k) :: r, x, h => by
    have ih := @map_cell f hf r x
    rw [List.lookup_cons] at h
    rw [List.map_cons]
    cases hx : x == n with
    | true =>
      rw [hx] at h
      cases h
      rcases hf n .cell with e | ⟨z, _⟩
      · rw [e, List.lookup_cons, hx]
      · cases z
    | false =>
      rw [hx] at h
      rcases hf n k with e | ⟨_, e⟩
      · rw [e, List.lookup_cons, hx]; exact ih h
      · rw [e, List.lookup_cons, hx]; exact ih h
/-- a comprehension within a comprehension -/
theorem CompScope.re {psc : Scope} {PN : List Str} {scope : Scope} {N : List Str} {k : Nat} {caps : List Nat} (S : CompScope psc PN scope N k caps) (env : Env) : CompScope (relabel psc env) PN scope N k caps :=
  ⟨S.kind, S.loc, S.ndn, S.nd, S.len, fun x hx hf => by
    rcases S.free x hx hf with h | h
    · left
      refine map_cell (fun n k => ?_) h
      by_cases hc : (k == NameKind.free && env.scope.kind == .function && env.kindOf n == some .cell) = true
      · right
        refine ⟨?_, if_pos hc⟩
        simp only [Bool.and_eq_true, beq_iff_eq] at hc
        exact hc.1.1
      · left; exact if_neg hc
    · exact relabel_free h, S.cap⟩
end L2

namespace L2
open PySem PySem.Spec PyProof.Rows
/-! ### set(xs) of a list of texts, its length -/
section
variable {prog : Program} {w : World} {A : Around} {R : Result → Shared → Prop} {It : Addr} {fp wr : List Addr} {G : Array GenState → Array GenState → Prop} {n : Nat} {Pn : Nat → Value → Prop} {Sn : Nat → Shared → Prop}
end
section
variable {prog : Program} {w : World} {A : Around} {E : Value → Shared → Prop} {s : Shared}
end
end L2

namespace L2
open PySem PySem.Spec PyProof.Rows
section
variable {X : Cx}
end
end L2

namespace L2
open PySem PySem.Spec PyProof.Rows PySem.SeqAt

/-! ### deep data: what == tells apart -/
inductive Dt where
  | non | bl (b : Bool) | int (i : Int) | str (x : Str) | tup (l : List Dt) | lst (l : List Dt)
mutual
/-- v stands for d in the abstract heap H -/
inductive IsDt (K : PySem.W.Frag) (H : Hp) : V → Dt → Prop where
  | non : IsDt K H .non .non
  | bl (b : Bool) : IsDt K H (.bl b) (.bl b)
  | int (i : Int) : IsDt K H (.int i) (.int i)
  | str (x : Str) : IsDt K H (.str x) (.str x)
  | tup {a : Addr} {vs : List V} {ds : List Dt} (h : SqT K H a vs) (t : IsDts K H vs ds) : IsDt K H (.ref a) (.tup ds)
  | lst {a : Addr} {vs : List V} {ds : List Dt} (h : SqL K H a vs) (t : IsDts K H vs ds) : IsDt K H (.ref a) (.lst ds)
inductive IsDts (K : PySem.W.Frag) (H : Hp) : List V → List Dt → Prop where
  | nil : IsDts K H [] []
  | cons {v : V} {d : Dt} {vs : List V} {ds : List Dt} (h : IsDt K H v d) (t : IsDts K H vs ds) : IsDts K H (v :: vs) (d :: ds)
end
mutual
theorem IsDt.same {K : PySem.W.Frag} {H H' : Hp} (e : Same H H') {v : V} {d : Dt} (h : IsDt K H v d) : IsDt K H' v d := by
  cases h with
  | non => exact .non
  | bl b => exact .bl b
  | int i => exact .int i
  | str x => exact .str x
  | tup h t => exact .tup (e.seqT h) (IsDts.same e t)
  | lst h t => exact .lst (e.seq h) (IsDts.same e t)
theorem IsDts.same {K : PySem.W.Frag} {H H' : Hp} (e : Same H H') {vs : List V} {ds : List Dt} (h : IsDts K H vs ds) : IsDts K H' vs ds := by
  cases h with
  | nil => exact .nil
  | cons h t => exact .cons (IsDt.same e h) (IsDts.same e t)
end
theorem IsDts.length {K : PySem.W.Frag} {H : Hp} : ∀ {vs : List V} {ds : List Dt}, IsDts K H vs ds → vs.length = ds.length
  | _, _, .nil => rfl
  | _, _, .cons _ t => congrArg (· + 1) t.length
theorem IsDts.get {K : PySem.W.Frag} {H : Hp} : ∀ {vs : List V} {ds : List Dt} {i : Nat} {v : V}, IsDts K H vs ds → vs[i]? = some v → ∃ d, ds[i]? = some d ∧ IsDt K H v d
  | _, _, _, _, .nil, e => by simp at e
  | _, _, 0, _, .cons h _, e => by simp at e; subst e; exact ⟨_, rfl, h⟩
  | _, _, i + 1, v, .cons _ t, e => by
    obtain ⟨d, h1, h2⟩ := IsDts.get (i := i) (v := v) t (by simpa using e)
    exact ⟨d, by simpa using h1, h2⟩
theorem IsDts.get' {K : PySem.W.Frag} {H : Hp} : ∀ {vs : List V} {ds : List Dt} {i : Nat} {d : Dt}, IsDts K H vs ds → ds[i]? = some d → ∃ v, vs[i]? = some v ∧ IsDt K H v d
  | _, _, _, _, .nil, e => by simp at e
  | _, _, 0, _, .cons h _, e => by simp at e; subst e; exact ⟨_, rfl, h⟩
  | _, _, i + 1, v, .cons _ t, e => by
    obtain ⟨d, h1, h2⟩ := IsDts.get' (i := i) (d := v) t (by simpa using e)
    exact ⟨d, by simpa using h1, h2⟩
section
variable {X : Cx} {pins : List (Addr × Obj)} {σ : St} {H : Hp} {s : Shared}
theorem Inv.not_both (I : Inv X pins σ H s) {a : Addr} {xs ys : List V} (h : SqL X.K H a xs) (h' : SqT X.K H a ys) : False := by
  obtain ⟨_, _, ⟨o, n, e, c, _⟩, _⟩ := I.list h
  obtain ⟨_, _, ⟨o', e', c', _⟩, _⟩ := I.tuple h'
  rw [e] at e'; cases e'
  rw [c] at c'
  exact absurd c' (by decide)
mutual
theorem IsDt.inj (I : Inv X pins σ H s) {v : V} {d e : Dt} (h : IsDt X.K H v d) (h' : IsDt X.K H v e) : d = e := by
  cases h with
  | non => cases h'; rfl
  | bl _ => cases h'; rfl
  | int _ => cases h'; rfl
  | str _ => cases h'; rfl
  | tup h t => cases h' with
    | tup h' t' =>
      have e := I.tuple_inj h h'
      subst e
      rw [IsDts.inj I t t']
    | lst h' _ => exact (I.not_both h' h).elim
  | lst h t => cases h' with
    | lst h' t' =>
      have e := I.list_inj h h'
      subst e
      rw [IsDts.inj I t t']
    | tup h' _ => exact (I.not_both h h').elim
theorem IsDts.inj (I : Inv X pins σ H s) {vs : List V} {ds es : List Dt} (h : IsDts X.K H vs ds) (h' : IsDts X.K H vs es) : ds = es := by
  cases h with
  | nil => cases h'; rfl
  | cons h t => cases h' with
    | cons h' t' => rw [IsDt.inj I h h', IsDts.inj I t t']
end
end
/-! ### comparable to a depth -/
def Dt.kd : Dt → Nat
  | .non => 0 | .bl _ => 1 | .int _ => 2 | .str _ => 3 | .tup _ => 4 | .lst _ => 5
/-- of unlike kinds, and not a truth and an int -/
def Apart (a b : Nat) : Bool := a != b && !(a == 1 && b == 2) && !(a == 2 && b == 1)
mutual
inductive Cmp : Nat → Dt → Dt → Prop where
  | non {n : Nat} : Cmp n .non .non
  | bl {n : Nat} (a b : Bool) : Cmp n (.bl a) (.bl b)
  | int {n : Nat} (a b : Int) : Cmp n (.int a) (.int b)
  | str {n : Nat} (a b : Str) : Cmp n (.str a) (.str b)
  | tup {n : Nat} {ds es : List Dt} (t : Cmps n ds es) : Cmp (n + 1) (.tup ds) (.tup es)
  | lst {n : Nat} {ds es : List Dt} (t : Cmps n ds es) : Cmp (n + 1) (.lst ds) (.lst es)
  | apart {n : Nat} {d e : Dt} (h : Apart d.kd e.kd = true) : Cmp (n + 1) d e
inductive Cmps : Nat → List Dt → List Dt → Prop where
  | nil {n : Nat} (es : List Dt) : Cmps n [] es
  | nil' {n : Nat} (ds : List Dt) : Cmps n ds []
  | cons {n : Nat} {d e : Dt} {ds es : List Dt} (h : Cmp n d e) (t : Cmps n ds es) : Cmps n (d :: ds) (e :: es)
end
theorem Cmps.of {n : Nat} : ∀ {ds es : List Dt}, (∀ d ∈ ds, ∀ e ∈ es, Cmp n d e) → Cmps n ds es
  | [], es, _ => .nil es
  | d :: ds, [], _ => .nil' _
  | d :: ds, e :: es, h => .cons (h d (by simp) e (by simp)) (Cmps.of fun x hx y hy => h x (by simp [hx]) y (by simp [hy]))
open Classical in
/-- the truth of a proposition -/
noncomputable def dec (p : Prop) : Bool := decide p
theorem dec_true {p : Prop} (h : p) : dec p = true := @decide_eq_true p (Classical.propDecidable p) h
theorem dec_false {p : Prop} (h : ¬ p) : dec p = false := @decide_eq_false p (Classical.propDecidable p) h
theorem dec_iff {p : Prop} : dec p = true ↔ p := ⟨fun h => @of_decide_eq_true p (Classical.propDecidable p) h, dec_true⟩
theorem dec_congr {p q : Prop} (h : p ↔ q) : dec p = dec q := by rw [propext h]
theorem dec_beq {α : Type} [BEq α] [LawfulBEq α] {a b : α} {p : Prop} (h : p ↔ a = b) : (a == b) = dec p := by
  by_cases e : a = b
  · subst e; rw [dec_true (h.mpr rfl)]; exact beq_self_eq_true _
  · rw [dec_false fun q => e (h.mp q)]; exact beq_false_of_ne e
theorem list_ext_iff {ds es : List Dt} (hl : ds.length = es.length) (h : ∀ i, i < ds.length → ds[i]? = es[i]?) : ds = es := List.ext_getElem? fun i => by
  by_cases hi : i < ds.length
  · exact h i hi
  · rw [List.getElem?_eq_none (by omega), List.getElem?_eq_none (by omega)]
section
variable {X : Cx} {pins : List (Addr × Obj)} {σ : St} {H : Hp} {s : Shared}
theorem in1_units (A : Around) : A.in1.units = A.units + 1 := rfl
/-- items compared one by one -/
theorem eq_items (I : Inv X pins σ H s) {A : Around} {vs us : List V} {ds es : List Dt} {ivs ius : List Value} (rv : Vals vs ivs) (ru : Vals us ius) (tv : IsDts X.K H vs ds) (tu : IsDts X.K H us es)
    (hc : ∀ (i : Nat) (d e : Dt) (v u : V) (x y : Value), ds[i]? = some d → es[i]? = some e → RelV v x → RelV u y → IsDt X.K H v d → IsDt X.K H u e → EqAt A s x y (dec (d = e))) :
    ∀ j (h1 : j < ivs.toArray.size) (h2 : j < ius.toArray.size), EqAt A s ivs.toArray[j] ius.toArray[j] (dec (ds[j]? = es[j]?)) := by
  intro j h1 h2
  have l1 := rv.length
  have l2 := ru.length
  have h1' : j < ivs.length := by simpa using h1
  have h2' : j < ius.length := by simpa using h2
  obtain ⟨x, hx, rx⟩ := rv.get (i := j) (x := vs[j]'(by omega)) (List.getElem?_eq_getElem (by omega))
  obtain ⟨y, hy, ry⟩ := ru.get (i := j) (x := us[j]'(by omega)) (List.getElem?_eq_getElem (by omega))
  obtain ⟨d, hd, td⟩ := tv.get (i := j) (v := vs[j]'(by omega)) (List.getElem?_eq_getElem (by omega))
  obtain ⟨e, he, te⟩ := tu.get (i := j) (v := us[j]'(by omega)) (List.getElem?_eq_getElem (by omega))
  have ex : ivs.toArray[j] = x := by
    rw [List.getElem?_eq_getElem h1'] at hx
    simpa using hx
  have ey : ius.toArray[j] = y := by
    rw [List.getElem?_eq_getElem h2'] at hy
    simpa using hy
  rw [ex, ey, hd, he]
  have := hc j d e _ _ x y hd he rx ry td te
  rw [dec_congr (p := some d = some e) (q := d = e) (by simp)]
  exact this
theorem range_dec {ds es : List Dt} {n : Nat} (hn : n = ds.length) (hl : ds.length = es.length) : (List.range n).all (fun j => dec (ds[j]? = es[j]?)) = dec (ds = es) := by
  subst hn
  by_cases h : ds = es
  · subst h
    rw [dec_true rfl, List.all_eq_true]
    exact fun i _ => dec_true rfl
  · rw [dec_false h, Bool.eq_false_iff]
    intro q
    rw [List.all_eq_true] at q
    exact h (list_ext_iff hl fun i hi => dec_iff.mp (q i (List.mem_range.mpr hi)))
theorem apart_all (I : Inv X pins σ H s) {d e : Dt} {v u : V} {x y : Value} {A : Around} (h : Apart d.kd e.kd = true) (td : IsDt X.K H v d) (te : IsDt X.K H u e) (rx : RelV v x) (ry : RelV u y) (hu : A.units < cLine) : EqAt A s x y false ∧ RcAt A s x y false ∧ RcNeAt A s x y true := by
  cases td with
  | non =>
    cases rx
    cases te with
    | non => exact absurd h (by simp [Apart, Dt.kd])
    | bl b =>
      cases ry
      exact ⟨EqAt.none_bool _, RcAt.none_bool _, RcNeAt.none_bool _⟩
    | int b =>
      obtain ⟨t2, rfl⟩ := ry
      exact ⟨EqAt.none_int _ _, RcAt.none_int _ _, RcNeAt.none_int _ _⟩
    | str b =>
      obtain ⟨t2, rfl⟩ := ry
      exact ⟨EqAt.none_str _ _, RcAt.none_str _ _, RcNeAt.none_str _ _⟩
    | tup h2 t2 =>
      cases ry
      obtain ⟨_, _, p2, _⟩ := I.tuple h2
      exact ⟨EqAt.none_tuple  p2 hu, RcAt.none_tuple  p2 hu, RcNeAt.none_tuple  p2 hu⟩
    | lst h2 t2 =>
      cases ry
      obtain ⟨_, _, p2, _⟩ := I.list h2
      have p2 := p2.isList
      exact ⟨EqAt.none_list  p2 hu, RcAt.none_list  p2 hu, RcNeAt.none_list  p2 hu⟩
  | bl a =>
    cases rx
    cases te with
    | non =>
      cases ry
      exact ⟨EqAt.bool_none _, RcAt.bool_none _, RcNeAt.bool_none _⟩
    | bl b => exact absurd h (by simp [Apart, Dt.kd])
    | int b => exact absurd h (by simp [Apart, Dt.kd])
    | str b =>
      obtain ⟨t2, rfl⟩ := ry
      exact ⟨EqAt.bool_str _ _ _, RcAt.bool_str _ _ _, RcNeAt.bool_str _ _ _⟩
    | tup h2 t2 =>
      cases ry
      obtain ⟨_, _, p2, _⟩ := I.tuple h2
      exact ⟨EqAt.bool_tuple _ p2 hu, RcAt.bool_tuple _ p2 hu, RcNeAt.bool_tuple _ p2 hu⟩
    | lst h2 t2 =>
      cases ry
      obtain ⟨_, _, p2, _⟩ := I.list h2
      have p2 := p2.isList
      exact ⟨EqAt.bool_list _ p2 hu, RcAt.bool_list _ p2 hu, RcNeAt.bool_list _ p2 hu⟩
  | int a =>
    obtain ⟨t, rfl⟩ := rx
    cases te with
    | non =>
      cases ry
      exact ⟨EqAt.int_none _ _, RcAt.int_none _ _, RcNeAt.int_none _ _⟩
    | bl b => exact absurd h (by simp [Apart, Dt.kd])
    | int b => exact absurd h (by simp [Apart, Dt.kd])
    | str b =>
      obtain ⟨t2, rfl⟩ := ry
      exact ⟨EqAt.int_str _ _ _ _, RcAt.int_str _ _ _ _, RcNeAt.int_str _ _ _ _⟩
    | tup h2 t2 =>
      cases ry
      obtain ⟨_, _, p2, _⟩ := I.tuple h2
      exact ⟨EqAt.int_tuple _ _ p2 hu, RcAt.int_tuple _ _ p2 hu, RcNeAt.int_tuple _ _ p2 hu⟩
    | lst h2 t2 =>
      cases ry
      obtain ⟨_, _, p2, _⟩ := I.list h2
      have p2 := p2.isList
      exact ⟨EqAt.int_list _ _ p2 hu, RcAt.int_list _ _ p2 hu, RcNeAt.int_list _ _ p2 hu⟩
  | str a =>
    obtain ⟨t, rfl⟩ := rx
    cases te with
    | non =>
      cases ry
      exact ⟨EqAt.str_none _ _, RcAt.str_none _ _, RcNeAt.str_none _ _⟩
    | bl b =>
      cases ry
      exact ⟨EqAt.str_bool _ _ _, RcAt.str_bool _ _ _, RcNeAt.str_bool _ _ _⟩
    | int b =>
      obtain ⟨t2, rfl⟩ := ry
      exact ⟨EqAt.str_int _ _ _ _, RcAt.str_int _ _ _ _, RcNeAt.str_int _ _ _ _⟩
    | str b => exact absurd h (by simp [Apart, Dt.kd])
    | tup h2 t2 =>
      cases ry
      obtain ⟨_, _, p2, _⟩ := I.tuple h2
      exact ⟨EqAt.str_tuple _ _ p2 hu, RcAt.str_tuple _ _ p2 hu, RcNeAt.str_tuple _ _ p2 hu⟩
    | lst h2 t2 =>
      cases ry
      obtain ⟨_, _, p2, _⟩ := I.list h2
      have p2 := p2.isList
      exact ⟨EqAt.str_list _ _ p2 hu, RcAt.str_list _ _ p2 hu, RcNeAt.str_list _ _ p2 hu⟩
  | tup h1 t1 =>
    cases rx
    obtain ⟨_, _, p, _⟩ := I.tuple h1
    cases te with
    | non =>
      cases ry
      exact ⟨EqAt.tuple_none  p hu, RcAt.tuple_none  p hu, RcNeAt.tuple_none  p hu⟩
    | bl b =>
      cases ry
      exact ⟨EqAt.tuple_bool _ p hu, RcAt.tuple_bool _ p hu, RcNeAt.tuple_bool _ p hu⟩
    | int b =>
      obtain ⟨t2, rfl⟩ := ry
      exact ⟨EqAt.tuple_int _ _ p hu, RcAt.tuple_int _ _ p hu, RcNeAt.tuple_int _ _ p hu⟩
    | str b =>
      obtain ⟨t2, rfl⟩ := ry
      exact ⟨EqAt.tuple_str _ _ p hu, RcAt.tuple_str _ _ p hu, RcNeAt.tuple_str _ _ p hu⟩
    | tup h2 t2 => exact absurd h (by simp [Apart, Dt.kd])
    | lst h2 t2 =>
      cases ry
      obtain ⟨_, _, p2, _⟩ := I.list h2
      have p2 := p2.isList
      exact ⟨EqAt.tuple_list p p2 hu, RcAt.tuple_list p p2 hu, RcNeAt.tuple_list p p2 hu⟩
  | lst h1 t1 =>
    cases rx
    obtain ⟨_, _, p, _⟩ := I.list h1
    have p := p.isList
    cases te with
    | non =>
      cases ry
      exact ⟨EqAt.list_none  p hu, RcAt.list_none  p hu, RcNeAt.list_none  p hu⟩
    | bl b =>
      cases ry
      exact ⟨EqAt.list_bool _ p hu, RcAt.list_bool _ p hu, RcNeAt.list_bool _ p hu⟩
    | int b =>
      obtain ⟨t2, rfl⟩ := ry
      exact ⟨EqAt.list_int _ _ p hu, RcAt.list_int _ _ p hu, RcNeAt.list_int _ _ p hu⟩
    | str b =>
      obtain ⟨t2, rfl⟩ := ry
      exact ⟨EqAt.list_str _ _ p hu, RcAt.list_str _ _ p hu, RcNeAt.list_str _ _ p hu⟩
    | tup h2 t2 =>
      cases ry
      obtain ⟨_, _, p2, _⟩ := I.tuple h2
      exact ⟨EqAt.list_tuple p p2 hu, RcAt.list_tuple p p2 hu, RcNeAt.list_tuple p p2 hu⟩
    | lst h2 t2 => exact absurd h (by simp [Apart, Dt.kd])
theorem eq_of_rc (I : Inv X pins σ H s) {d e : Dt} {v u : V} {x y : Value} {A : Around} (td : IsDt X.K H v d) (te : IsDt X.K H u e) (rx : RelV v x) (ry : RelV u y) (h : RcAt A s x y (dec (d = e))) : EqAt A s x y (dec (d = e)) := by
  by_cases hxy : x = y
  · subst hxy
    have e1 := rx.inj ry
    subst e1
    rw [dec_true (IsDt.inj I td te)]
    exact EqAt.same _
  · intro prog w E Q hq
    unfold eqBool
    refine wpAny_holding ?_
    refine wpAny_ite_split (fun hab => absurd (eq_of_beq hab) hxy) (fun _ => ?_)
    cases td with
    | non => cases rx; exact wpAny_bind (h prog w E _ (wpAny_truthy_bool hq))
    | bl a => cases rx; exact wpAny_bind (h prog w E _ (wpAny_truthy_bool hq))
    | int a => obtain ⟨t, rfl⟩ := rx; exact wpAny_bind (h prog w E _ (wpAny_truthy_bool hq))
    | str a => obtain ⟨t, rfl⟩ := rx; exact wpAny_bind (h prog w E _ (wpAny_truthy_bool hq))
    | tup _ _ => cases rx; exact wpAny_bind (h prog w E _ (wpAny_truthy_bool hq))
    | lst _ _ => cases rx; exact wpAny_bind (h prog w E _ (wpAny_truthy_bool hq))
theorem kd_ne {d e : Dt} (h : Apart d.kd e.kd = true) : ¬ d = e := fun z => by
  subst z
  simp [Apart] at h
mutual
theorem rcD (I : Inv X pins σ H s) {n : Nat} {d e : Dt} {v u : V} {x y : Value} {A : Around} (c : Cmp n d e) (td : IsDt X.K H v d) (te : IsDt X.K H u e) (rx : RelV v x) (ry : RelV u y) (hu : A.units + n < cLine) : RcAt A s x y (dec (d = e)) ∧ RcNeAt A s x y (!dec (d = e)) := by
  cases c with
  | non =>
    cases td; cases te
    cases rx; cases ry
    rw [dec_true rfl]
    exact ⟨RcAt.none_none, RcNeAt.none_none⟩
  | bl a b =>
    cases td; cases te
    cases rx; cases ry
    rw [← dec_beq (a := a) (b := b) (by simp)]
    exact ⟨RcAt.bool_bool a b, RcNeAt.bool_bool a b⟩
  | int a b =>
    cases td; cases te
    obtain ⟨t, rfl⟩ := rx
    obtain ⟨t', rfl⟩ := ry
    rw [← dec_beq (a := a) (b := b) (by simp)]
    exact ⟨RcAt.int_int a t b t', RcNeAt.int_int a t b t'⟩
  | str a b =>
    cases td; cases te
    obtain ⟨t, rfl⟩ := rx
    obtain ⟨t', rfl⟩ := ry
    rw [← dec_beq (a := a) (b := b) (by simp)]
    exact ⟨RcAt.str_str a t b t', RcNeAt.str_str a t b t'⟩
  | @tup n ds es c =>
    cases td; cases te
    rename_i a vs h t b us h' t'
    cases rx; cases ry
    obtain ⟨its, r, p, _⟩ := I.tuple h
    obtain ⟨its', r', p', _⟩ := I.tuple h'
    have l1 := r.length
    have l2 := r'.length
    have l3 := t.length
    have l4 := t'.length
    have he := eq_items (A := A.in1) I r r' t t' (eqDs I c (by rw [in1_units]; omega))
    have e : dec (Dt.tup ds = Dt.tup es) = ((List.range (min its.toArray.size its'.toArray.size)).all (fun j => dec (ds[j]? = es[j]?)) && its.toArray.size == its'.toArray.size) := by
      rw [dec_congr (p := Dt.tup ds = Dt.tup es) (q := ds = es) (by simp)]
      simp only [List.size_toArray]
      by_cases hl : ds.length = es.length
      · rw [show (its.length == its'.length) = true from beq_iff_eq.mpr (by omega), Bool.and_true, range_dec (by omega) hl]
      · rw [show (its.length == its'.length) = false from beq_false_of_ne (by omega), Bool.and_false, dec_false fun z => hl (by rw [z])]
    rw [e]
    exact ⟨RcAt.tuples (A := A) p p' (by omega) he, RcNeAt.tuples (A := A) p p' (by omega) he⟩
  | @lst n ds es c =>
    cases td; cases te
    rename_i a vs h t b us h' t'
    cases rx; cases ry
    obtain ⟨its, r, p, _⟩ := I.list h
    obtain ⟨its', r', p', _⟩ := I.list h'
    have l1 := r.length
    have l2 := r'.length
    have l3 := t.length
    have l4 := t'.length
    by_cases hl : ds.length = es.length
    · have he := eq_items (A := A.in1) I r r' t t' (eqDs I c (by rw [in1_units]; omega))
      rw [dec_congr (p := Dt.lst ds = Dt.lst es) (q := ds = es) (by simp), ← range_dec (n := its.toArray.size) (by simp only [List.size_toArray]; omega) hl]
      exact ⟨RcAt.lists (A := A) p.isList p'.isList (by simp only [List.size_toArray]; omega) (by omega) he, RcNeAt.lists (A := A) p.isList p'.isList (by simp only [List.size_toArray]; omega) (by omega) he⟩
    · rw [dec_false (show ¬ Dt.lst ds = Dt.lst es from fun z => hl (by cases z; rfl))]
      have hz : (its.toArray.size != its'.toArray.size) = true := by simp only [List.size_toArray]; rw [bne_iff_ne]; omega
      exact ⟨RcAt.lists_lengths p.isList p'.isList hz (by omega), RcNeAt.lists_lengths p.isList p'.isList hz (by omega)⟩
  | apart h =>
    obtain ⟨_, h1, h2⟩ := apart_all (A := A) I h td te rx ry (by omega)
    rw [dec_false (kd_ne h)]
    exact ⟨h1, h2⟩
theorem eqDs (I : Inv X pins σ H s) {n : Nat} {ds es : List Dt} {A : Around} (c : Cmps n ds es) (hu : A.units + n < cLine)
    (i : Nat) (d e : Dt) (v u : V) (x y : Value) (h : ds[i]? = some d) (h' : es[i]? = some e) (rx : RelV v x) (ry : RelV u y) (td : IsDt X.K H v d) (te : IsDt X.K H u e) : EqAt A s x y (dec (d = e)) := by
  cases c with
  | nil => simp at h
  | nil' => simp at h'
  | cons c t => cases i with
    | zero =>
      simp at h h'; subst h; subst h'
      have hrc := rcD (A := A) I c td te rx ry hu
      exact eq_of_rc I td te rx ry hrc.1
    | succ i => exact eqDs I t hu i d e v u x y (by simpa using h) (by simpa using h') rx ry td te
end
theorem eqD (I : Inv X pins σ H s) {n : Nat} {d e : Dt} {v u : V} {x y : Value} {A : Around} (c : Cmp n d e) (td : IsDt X.K H v d) (te : IsDt X.K H u e) (rx : RelV v x) (ry : RelV u y) (hu : A.units + n < cLine) : EqAt A s x y (dec (d = e)) :=
  eq_of_rc I td te rx ry (rcD I c td te rx ry hu).1
end
section
variable {X : Cx}
def rNeD (K : PySem.W.Frag) : R2 := fun x y H Q => ∃ n d e, Cmp n d e ∧ n ≤ 60 ∧ IsDt K H x d ∧ IsDt K H y e ∧ Q (.bl (!dec (d = e))) H
theorem op_neD (hu : X.A.units + 64 < cLine) : OpR X (compareOp .NotEq) (rNeD X.K) := by
  intro pins s σ H x y v u Q I rx ry h
  obtain ⟨n, d, e, c, hn, td, te, q⟩ := h
  exact (rcD (A := X.A) I c td te rx ry (by omega)).2 _ _ _ _ ⟨.bl _, H, I, rfl, q⟩
def rInD (K : PySem.W.Frag) : R2 := fun x y H Q => ∃ n d ds a vs, (∀ e ∈ ds, Cmp n e d) ∧ n ≤ 60 ∧ IsDt K H x d ∧ y = .ref a ∧ SqL K H a vs ∧ IsDts K H vs ds ∧ Q (.bl (dec (d ∈ ds))) H
theorem in_items {pins : List (Addr × Obj)} {σ : St} {H : Hp} {s : Shared} (I : Inv X pins σ H s) {n : Nat} {d : Dt} {ds : List Dt} {vs : List V} {its : List Value} {v : V} {x : Value} {A : Around} (r : Vals vs its) (t : IsDts X.K H vs ds) (hc : ∀ e ∈ ds, Cmp n e d) (td : IsDt X.K H v d) (rx : RelV v x) (hu : A.units + n < cLine) :
    (∀ y, y ∈ its.toArray → EqAt A s y x (dec (∃ u, RelV u y ∧ IsDt X.K H u d))) ∧ its.toArray.any (fun y => dec (∃ u, RelV u y ∧ IsDt X.K H u d)) = dec (d ∈ ds) := by
  have ll := r.length
  have lt := t.length
  have one : ∀ y, y ∈ its → ∃ e ∈ ds, ∃ u, RelV u y ∧ IsDt X.K H u e := fun y hy => by
    obtain ⟨i, hi, e⟩ := List.mem_iff_getElem.mp hy
    obtain ⟨y', hy', ry⟩ := r.get (i := i) (x := vs[i]'(by omega)) (List.getElem?_eq_getElem (by omega))
    obtain ⟨e', he, te⟩ := t.get (i := i) (v := vs[i]'(by omega)) (List.getElem?_eq_getElem (by omega))
    rw [List.getElem?_eq_getElem hi, e] at hy'
    cases hy'
    exact ⟨e', List.mem_of_getElem? he, _, ry, te⟩
  refine ⟨fun y hy => ?_, ?_⟩
  · obtain ⟨e, he, u, ru, te⟩ := one y (by simpa using hy)
    have := eqD (A := A) I (hc e he) te td ru rx hu
    rw [dec_congr (p := ∃ u, RelV u y ∧ IsDt X.K H u d) (q := e = d) ⟨fun ⟨u', ru', te'⟩ => by
      have e1 := ru.inj ru'
      subst e1
      exact IsDt.inj I te te', fun z => ⟨u, ru, by rw [← z]; exact te⟩⟩]
    exact this
  · by_cases hm : d ∈ ds
    · rw [dec_true hm, Array.any_eq_true]
      obtain ⟨i, hi, e⟩ := List.mem_iff_getElem.mp hm
      obtain ⟨u, hu', te⟩ := t.get' (i := i) (d := d) (by rw [List.getElem?_eq_getElem hi, e])
      obtain ⟨y, hy, ry⟩ := r.get hu'
      have hi' : i < its.length := (List.getElem?_eq_some_iff.mp hy).1
      refine ⟨i, by simpa using hi', ?_⟩
      have : its.toArray[i]'(by simpa using hi') = y := by
        rw [List.getElem?_eq_getElem hi'] at hy
        simpa using hy
      rw [this]
      exact dec_true ⟨u, ry, te⟩
    · rw [dec_false hm, Bool.eq_false_iff]
      intro q
      obtain ⟨i, hi, q⟩ := Array.any_eq_true.mp q
      obtain ⟨u, ru, te⟩ := dec_iff.mp q
      obtain ⟨e, he, u', ru', te'⟩ := one (its.toArray[i]) (by simp)
      have e1 := ru.inj ru'
      subst e1
      have e2 := IsDt.inj I te te'
      subst e2
      exact hm he
theorem op_inD (hu : X.A.units + 64 < cLine) : OpR X (compareOp .In) (rInD X.K) := by
  intro pins s σ H x y v u Q I rx ry h
  obtain ⟨n, d, ds, a, vs, hc, hn, td, rfl, hq, t, q⟩ := h
  cases ry
  obtain ⟨its, r, p, _⟩ := I.list hq
  obtain ⟨h1, h2⟩ := in_items (A := X.A.in1) I r t hc td rx (by rw [in1_units]; omega)
  exact in_listAt _ p.isList h1 (by rw [h2]; exact ⟨.bl _, H, I, rfl, q⟩)
end
end L2

namespace Ord
variable {α : Type} [DecidableEq α]

/-- b comes behind a by one told pair or more -/
inductive Path (ps : List (α × α)) : α → α → Prop where
  | one {a b} : (a, b) ∈ ps → Path ps a b
  | snoc {a b c} : Path ps a b → (b, c) ∈ ps → Path ps a c

theorem Path.trans {ps : List (α × α)} {a b c : α} (h : Path ps a b) (k : Path ps b c) : Path ps a c := by
  induction k with
  | one e => exact .snoc h e
  | snoc _ e ih => exact .snoc ih e


theorem Path.snd {ps : List (α × α)} {a b : α} (h : Path ps a b) : b ∈ ps.map (·.2) := by
  cases h with
  | one e => exact List.mem_map.mpr ⟨_, e, rfl⟩
  | snoc _ e => exact List.mem_map.mpr ⟨_, e, rfl⟩

theorem Path.fst {ps : List (α × α)} {a b : α} (h : Path ps a b) : a ∈ ps.map (·.1) := by
  induction h with
  | one e => exact List.mem_map.mpr ⟨_, e, rfl⟩
  | snoc _ _ ih => exact ih

/-- the labels told as worse than a, in their order -/
def worseOf (ps : List (α × α)) (a : α) : List α := (ps.filter (fun p => decide (p.1 = a))).map (·.2)
theorem mem_worseOf {ps : List (α × α)} {a b : α} : b ∈ worseOf ps a ↔ (a, b) ∈ ps := by
  unfold worseOf
  rw [List.mem_map]
  constructor
  · rintro ⟨⟨x, y⟩, h, rfl⟩
    obtain ⟨h1, h2⟩ := List.mem_filter.mp h
    have e : x = a := of_decide_eq_true h2
    subst e; exact h1
  · intro h
    exact ⟨(a, b), List.mem_filter.mpr ⟨h, decide_eq_true rfl⟩, rfl⟩
theorem worseOf_snoc {ps : List (α × α)} {x y a : α} : worseOf (ps ++ [(x, y)]) a = if x = a then worseOf ps a ++ [y] else worseOf ps a := by
  unfold worseOf
  rw [List.filter_append]
  by_cases e : x = a
  · simp [e]
  · simp [e]

/-- what came_from is at any time: each label once, each behind a told pair from the start or from a label that came earlier -/
structure Tree (ps : List (α × α)) (st : α) (cf : List (α × α)) : Prop where
  nd : (cf.map (·.1)).Nodup
  par : ∀ (i : Nat) (p : α × α), cf[i]? = some p → (p.2, p.1) ∈ ps ∧ (p.2 = st ∨ ∃ (j : Nat) (q : α × α), j < i ∧ cf[j]? = some q ∧ q.1 = p.2)

theorem Tree.nil {ps : List (α × α)} {st : α} : Tree ps st [] := ⟨List.nodup_nil, fun i p h => by simp at h⟩

theorem nodup_snoc {l : List α} {x : α} (h : l.Nodup) (hx : x ∉ l) : (l ++ [x]).Nodup := by
  rw [List.nodup_append]
  refine ⟨h, by simp, ?_⟩
  intro a ha b hb e
  rw [List.mem_singleton] at hb
  subst hb; subst e
  exact hx ha

theorem Tree.snoc {ps : List (α × α)} {st : α} {cf : List (α × α)} (T : Tree ps st cf) {w b : α} (hw : w ∉ cf.map (·.1)) (hb : (b, w) ∈ ps) (hp : b = st ∨ b ∈ cf.map (·.1)) : Tree ps st (cf ++ [(w, b)]) := by
  refine ⟨?_, fun i p h => ?_⟩
  · rw [List.map_append]
    exact nodup_snoc T.nd hw
  · by_cases hi : i < cf.length
    · rw [List.getElem?_append_left hi] at h
      obtain ⟨h1, h2⟩ := T.par i p h
      refine ⟨h1, ?_⟩
      rcases h2 with h2 | ⟨j, q, hj, hq, e⟩
      · exact .inl h2
      · exact .inr ⟨j, q, hj, by rw [List.getElem?_append_left (by omega)]; exact hq, e⟩
    · have hi' : i = cf.length := by
        have := (List.getElem?_eq_some_iff.mp h).1
        simp at this; omega
      subst hi'
      have e : p = (w, b) := by simpa using h.symm
      subst e
      refine ⟨hb, ?_⟩
      rcases hp with hp | hp
      · exact .inl hp
      · obtain ⟨q, hq, e⟩ := List.mem_map.mp hp
        obtain ⟨j, hj, e2⟩ := List.mem_iff_getElem.mp hq
        refine .inr ⟨j, q, hj, ?_, e⟩
        rw [List.getElem?_append_left hj]
        exact List.getElem?_eq_some_iff.mpr ⟨hj, e2⟩

theorem Tree.path {ps : List (α × α)} {st : α} {cf : List (α × α)} (T : Tree ps st cf) : ∀ (n i : Nat) (p : α × α), i < n → cf[i]? = some p → Path ps st p.1 := by
  intro n
  induction n with
  | zero => intro i p h; omega
  | succ n ih =>
    intro i p hi h
    obtain ⟨h1, h2⟩ := T.par i p h
    rcases h2 with h2 | ⟨j, q, hj, hq, e⟩
    · rw [h2] at h1; exact .one h1
    · have := ih j q (by omega) hq
      rw [e] at this
      exact .snoc this h1

theorem Tree.path_mem {ps : List (α × α)} {st : α} {cf : List (α × α)} (T : Tree ps st cf) {k : α} (h : k ∈ cf.map (·.1)) : Path ps st k := by
  obtain ⟨q, hq, e⟩ := List.mem_map.mp h
  obtain ⟨j, hj, e2⟩ := List.mem_iff_getElem.mp hq
  have := T.path (j + 1) j q (by omega) (List.getElem?_eq_some_iff.mpr ⟨hj, e2⟩)
  rw [e] at this; exact this

/-- nothing is left to come to -/
def Full (ps : List (α × α)) (st : α) (cf : List (α × α)) : Prop := ∀ b, (b = st ∨ b ∈ cf.map (·.1)) → ∀ w, (b, w) ∈ ps → w ∈ cf.map (·.1)

theorem Tree.iff {ps : List (α × α)} {st : α} {cf : List (α × α)} (T : Tree ps st cf) (F : Full ps st cf) {k : α} : k ∈ cf.map (·.1) ↔ Path ps st k := by
  constructor
  · exact T.path_mem
  · intro h
    induction h with
    | one e => exact F _ (.inl rfl) _ e
    | snoc _ e ih => exact F _ (.inr ih) _ e

theorem nodup_sub_length {l m : List α} (h : l.Nodup) (hs : ∀ x ∈ l, x ∈ m) : l.length ≤ m.length := by
  induction l generalizing m with
  | nil => simp
  | cons x r ih =>
    have hx := hs x (by simp)
    have hn := (List.nodup_cons.mp h)
    have : r.length ≤ (m.erase x).length := ih hn.2 (fun y hy => by
      have hy' := hs y (by simp [hy])
      have ne : y ≠ x := fun e => hn.1 (e ▸ hy)
      exact (List.mem_erase_of_ne ne).mpr hy')
    rw [List.length_erase_of_mem hx] at this
    have hp : 0 < m.length := List.length_pos_of_mem hx
    simp; omega

theorem Tree.length {ps : List (α × α)} {st : α} {cf : List (α × α)} (T : Tree ps st cf) : cf.length ≤ ps.length := by
  have := nodup_sub_length T.nd (m := ps.map (·.2)) (fun x hx => (T.path_mem hx).snd)
  simpa using this

/-! ### the loop by layers: layer = those whose worse labels were not looked at yet -/
/-- within a layer: rest are those of the layer still to be looked at, further those that came new -/
structure Lay (ps : List (α × α)) (st : α) (cf : List (α × α)) (rest further : List α) : Prop where
  tree : Tree ps st cf
  inR : ∀ b ∈ rest, b = st ∨ b ∈ cf.map (·.1)
  inF : ∀ b ∈ further, b ∈ cf.map (·.1)
  full : ∀ b, (b = st ∨ b ∈ cf.map (·.1)) → b ∈ rest ∨ b ∈ further ∨ ∀ w, (b, w) ∈ ps → w ∈ cf.map (·.1)
theorem Lay.start {ps : List (α × α)} {st : α} : Lay ps st [] [st] [] :=
  ⟨Tree.nil, fun b hb => .inl (by simpa using hb), fun b hb => by simp at hb, fun b hb => .inl (by simpa using hb)⟩
theorem Lay.next {ps : List (α × α)} {st : α} {cf : List (α × α)} {further : List α} (L : Lay ps st cf [] further) : Lay ps st cf further [] :=
  ⟨L.tree, fun b hb => .inr (L.inF b hb), fun b hb => by simp at hb, fun b hb => by
    rcases L.full b hb with h | h | h
    · simp at h
    · exact .inl h
    · exact .inr (.inr h)⟩
theorem Lay.done {ps : List (α × α)} {st : α} {cf : List (α × α)} (L : Lay ps st cf [] []) : Full ps st cf := fun b hb => by
  rcases L.full b hb with h | h | h
  · simp at h
  · simp at h
  · exact h
/-- one label b of the layer, of whose worse labels those of pre were looked at -/
structure LayB (ps : List (α × α)) (st b : α) (pre : List α) (cf : List (α × α)) (rest further : List α) : Prop where
  tree : Tree ps st cf
  inR : ∀ c ∈ b :: rest, c = st ∨ c ∈ cf.map (·.1)
  inF : ∀ c ∈ further, c ∈ cf.map (·.1)
  pre : ∀ w ∈ pre, w ∈ cf.map (·.1)
  full : ∀ c, (c = st ∨ c ∈ cf.map (·.1)) → c = b ∨ c ∈ rest ∨ c ∈ further ∨ ∀ w, (c, w) ∈ ps → w ∈ cf.map (·.1)
theorem Lay.into {ps : List (α × α)} {st b : α} {cf : List (α × α)} {rest further : List α} (L : Lay ps st cf (b :: rest) further) : LayB ps st b [] cf rest further :=
  ⟨L.tree, L.inR, L.inF, fun w hw => by simp at hw, fun c hc => by
    rcases L.full c hc with h | h | h
    · rcases List.mem_cons.mp h with h | h
      · exact .inl h
      · exact .inr (.inl h)
    · exact .inr (.inr (.inl h))
    · exact .inr (.inr (.inr h))⟩
theorem LayB.out {ps : List (α × α)} {st b : α} {cf : List (α × α)} {rest further : List α} (L : LayB ps st b (worseOf ps b) cf rest further) : Lay ps st cf rest further :=
  ⟨L.tree, fun c hc => L.inR c (by simp [hc]), L.inF, fun c hc => by
    rcases L.full c hc with h | h | h | h
    · subst h
      exact .inr (.inr fun w hw => L.pre w (mem_worseOf.mpr hw))
    · exact .inl h
    · exact .inr (.inl h)
    · exact .inr (.inr h)⟩
theorem LayB.known {ps : List (α × α)} {st b w : α} {pre : List α} {cf : List (α × α)} {rest further : List α} (L : LayB ps st b pre cf rest further) (hw : w ∈ cf.map (·.1)) : LayB ps st b (pre ++ [w]) cf rest further :=
  ⟨L.tree, L.inR, L.inF, fun x hx => by
    rcases List.mem_append.mp hx with h | h
    · exact L.pre x h
    · rw [List.mem_singleton] at h; subst h; exact hw, L.full⟩
theorem LayB.more {ps : List (α × α)} {st b w : α} {pre : List α} {cf : List (α × α)} {rest further : List α} (L : LayB ps st b pre cf rest further) (hw : w ∉ cf.map (·.1)) (hb : (b, w) ∈ ps) :
    LayB ps st b (pre ++ [w]) (cf ++ [(w, b)]) rest (further ++ [w]) := by
  have up : ∀ c, c ∈ cf.map (·.1) → c ∈ (cf ++ [(w, b)]).map (·.1) := fun c hc => by rw [List.map_append]; exact List.mem_append_left _ hc
  have upw : w ∈ (cf ++ [(w, b)]).map (·.1) := by rw [List.map_append]; exact List.mem_append_right _ (by simp)
  refine ⟨L.tree.snoc hw hb (L.inR b (by simp)), fun c hc => (L.inR c hc).imp id (up c), fun c hc => ?_, fun c hc => ?_, fun c hc => ?_⟩
  · rcases List.mem_append.mp hc with h | h
    · exact up c (L.inF c h)
    · rw [List.mem_singleton] at h; subst h; exact upw
  · rcases List.mem_append.mp hc with h | h
    · exact up c (L.pre c h)
    · rw [List.mem_singleton] at h; subst h; exact upw
  · have hc' : c = st ∨ c ∈ cf.map (·.1) ∨ c = w := by
      rcases hc with h | h
      · exact .inl h
      · rw [List.map_append] at h
        rcases List.mem_append.mp h with h | h
        · exact .inr (.inl h)
        · exact .inr (.inr (by simpa using h))
    have old : (c = st ∨ c ∈ cf.map (·.1)) → c = b ∨ c ∈ rest ∨ c ∈ further ++ [w] ∨ ∀ x, (c, x) ∈ ps → x ∈ (cf ++ [(w, b)]).map (·.1) := fun hc => by
      rcases L.full c hc with h | h | h | h
      · exact .inl h
      · exact .inr (.inl h)
      · exact .inr (.inr (.inl (List.mem_append_left _ h)))
      · exact .inr (.inr (.inr fun x hx => up x (h x hx)))
    rcases hc' with h | h | h
    · exact old (.inl h)
    · exact old (.inr h)
    · exact .inr (.inr (.inl (by rw [h]; exact List.mem_append_right _ (by simp))))

/-! ### a chain back along came_from -/
end Ord

namespace War
/-- a way by E, what lies between below k -/
inductive Pk (E : Nat → Nat → Prop) (k : Nat) : Nat → Nat → Prop where
  | one {i j : Nat} : E i j → Pk E k i j
  | cons {i l j : Nat} : E i l → l < k → Pk E k l j → Pk E k i j
theorem Pk.split {E : Nat → Nat → Prop} {k i j : Nat} (h : Pk E (k + 1) i j) : Pk E k i j ∨ (Pk E k i k ∧ Pk E k k j) := by
  induction h with
  | one e => exact .inl (.one e)
  | cons e hl _ ih =>
    rename_i i l j _
    by_cases hlk : l = k
    · subst hlk
      rcases ih with ih | ih
      · exact .inr ⟨.one e, ih⟩
      · exact .inr ⟨.one e, ih.2⟩
    · have : l < k := by omega
      rcases ih with ih | ih
      · exact .inl (.cons e this ih)
      · exact .inr ⟨.cons e this ih.1, ih.2⟩
theorem Pk.app {E : Nat → Nat → Prop} {k i l j : Nat} (h : Pk E k i l) (hl : l < k) (h' : Pk E k l j) : Pk E k i j := by
  induction h with
  | one e => exact .cons e hl h'
  | cons e hm _ ih => exact .cons e hm (ih hl h')
theorem Pk.zero {E : Nat → Nat → Prop} {i j : Nat} (h : Pk E 0 i j) : E i j := by
  cases h with
  | one e => exact e
  | cons _ hl _ => omega
def setR (R : Nat → Nat → Bool) (i j : Nat) : Nat → Nat → Bool := fun a b => if a = i ∧ b = j then true else R a b
theorem setR_ge {R : Nat → Nat → Bool} {i j a b : Nat} (h : R a b = true) : setR R i j a b = true := by
  unfold setR
  split
  · rfl
  · exact h
theorem setR_at {R : Nat → Nat → Bool} {i j : Nat} : setR R i j i j = true := by
  unfold setR
  rw [if_pos ⟨rfl, rfl⟩]
theorem setR_of {R : Nat → Nat → Bool} {i j a b : Nat} (h : setR R i j a b = true) : (a = i ∧ b = j) ∨ R a b = true := by
  unfold setR at h
  split at h
  · rename_i hc; exact .inl hc
  · exact .inr h
theorem setR_ne {R : Nat → Nat → Bool} {i j a b : Nat} (h : a ≠ i) : setR R i j a b = R a b := by
  unfold setR
  rw [if_neg fun z => h z.1]
/-- between two turns: at stage k, ahead of (i, j) -/
structure WI (E : Nat → Nat → Prop) (m k i j : Nat) (R : Nat → Nat → Bool) : Prop where
  sound : ∀ a b, a < m → b < m → R a b = true → Pk E m a b
  comp : ∀ a b, a < m → b < m → Pk E k a b → R a b = true
  done : ∀ a b, a < m → b < m → (a < i ∨ (a = i ∧ b < j)) → Pk E (k + 1) a b → R a b = true
theorem WI.start {E : Nat → Nat → Prop} {m : Nat} {R : Nat → Nat → Bool} (h : ∀ a b, a < m → b < m → (R a b = true ↔ E a b)) : WI E m 0 0 0 R :=
  ⟨fun a b ha hb r => .one ((h a b ha hb).mp r), fun a b ha hb p => (h a b ha hb).mpr p.zero, fun a b _ _ h => by omega⟩
theorem WI.step {E : Nat → Nat → Prop} {m k i j : Nat} {R : Nat → Nat → Bool} (W : WI E m k i j R) (hk : k < m) (hi : i < m) (hj : j < m) (h1 : R i k = true) (h2 : R k j = true) : WI E m k i (j + 1) (setR R i j) := by
  refine ⟨fun a b ha hb r => ?_, fun a b ha hb p => setR_ge (W.comp a b ha hb p), fun a b ha hb hab p => ?_⟩
  · rcases setR_of r with ⟨rfl, rfl⟩ | r
    · exact (W.sound _ _ ha hk h1).app hk (W.sound _ _ hk hb h2)
    · exact W.sound a b ha hb r
  · by_cases he : a = i ∧ b = j
    · obtain ⟨rfl, rfl⟩ := he; exact setR_at
    · exact setR_ge (W.done a b ha hb (by omega) p)
theorem WI.skip {E : Nat → Nat → Prop} {m k i j : Nat} {R : Nat → Nat → Bool} (W : WI E m k i j R) (hk : k < m) (hi : i < m) (hj : j < m) (h : ¬ (R i k = true ∧ R k j = true)) : WI E m k i (j + 1) R := by
  refine ⟨W.sound, W.comp, fun a b ha hb hab p => ?_⟩
  by_cases he : a = i ∧ b = j
  · obtain ⟨rfl, rfl⟩ := he
    rcases p.split with p | ⟨p1, p2⟩
    · exact W.comp _ _ ha hb p
    · exact absurd ⟨W.comp _ _ ha hk p1, W.comp _ _ hk hb p2⟩ h
  · exact W.done a b ha hb (by omega) p
theorem WI.nexti {E : Nat → Nat → Prop} {m k i : Nat} {R : Nat → Nat → Bool} (W : WI E m k i m R) : WI E m k (i + 1) 0 R :=
  ⟨W.sound, W.comp, fun a b ha hb hab p => W.done a b ha hb (by omega) p⟩
theorem WI.nextk {E : Nat → Nat → Prop} {m k : Nat} {R : Nat → Nat → Bool} (W : WI E m k m 0 R) : WI E m (k + 1) 0 0 R :=
  ⟨W.sound, fun a b ha hb p => W.done a b ha hb (by omega) p, fun a b _ _ h => by omega⟩
theorem WI.fin {E : Nat → Nat → Prop} {m : Nat} {R : Nat → Nat → Bool} (W : WI E m m 0 0 R) {a b : Nat} (ha : a < m) (hb : b < m) : R a b = true ↔ Pk E m a b :=
  ⟨W.sound a b ha hb, W.comp a b ha hb⟩
/-- labels and places -/
theorem path_iff {α : Type} [DecidableEq α] {ps : List (α × α)} {L : List α} (hin : ∀ p ∈ ps, p.1 ∈ L ∧ p.2 ∈ L) {a b : Nat} {x y : α} (hx : L[a]? = some x) (hy : L[b]? = some y) :
    Pk (fun i j => ∃ x y, L[i]? = some x ∧ L[j]? = some y ∧ (x, y) ∈ ps) L.length a b ↔ Ord.Path ps x y := by
  constructor
  · intro h
    induction h generalizing x y with
    | one e =>
      obtain ⟨x', y', e1, e2, e3⟩ := e
      rw [hx] at e1; rw [hy] at e2; cases e1; cases e2
      exact .one e3
    | cons e _ _ ih =>
      obtain ⟨x', z, e1, e2, e3⟩ := e
      rw [hx] at e1; cases e1
      exact (Ord.Path.one e3).trans (ih e2 hy)
  · intro h
    induction h generalizing b with
    | one e => exact .one ⟨_, _, hx, hy, e⟩
    | snoc p e ih =>
      rename_i u v
      obtain ⟨l, hl, e2⟩ := List.mem_iff_getElem.mp (hin _ e).1
      have hl' : L[l]? = some u := by rw [List.getElem?_eq_getElem hl, e2]
      exact (ih hl').app hl (.one ⟨_, _, hl', hy, e⟩)
end War

namespace Ord
variable {α : Type} [DecidableEq α]
theorem look_mem {cf : List (α × α)} {w b : α} (h : cf.lookup w = some b) : (w, b) ∈ cf := by
  induction cf with
  | nil => simp at h
  | cons p r ih =>
    obtain ⟨x, y⟩ := p
    rw [List.lookup_cons] at h
    by_cases e : w = x
    · subst e
      simp at h; subst h; exact List.mem_cons_self
    · have hb : (w == x) = false := beq_false_of_ne e
      rw [hb] at h
      exact List.mem_cons_of_mem _ (ih h)
end Ord

namespace L2
open PySem PySem.Spec PyProof.Rows Ord
/-! ### pairs of texts, dicts of texts -/
abbrev prD (p : Str × Str) : Dt := .tup [.str p.1, .str p.2]
/-- a list of pairs of texts -/
def Prs (K : PySem.W.Frag) (H : Hp) (a : Addr) (ps : List (Str × Str)) : Prop := ∃ vs, SqL K H a vs ∧ IsDts K H vs (ps.map prD)
theorem cmp_pair (p q : Str × Str) : Cmp 2 (prD p) (prD q) := .tup (.cons (.str _ _) (.cons (.str _ _) (.nil _)))
theorem cmp_pairs (ps : List (Str × Str)) (q : Str × Str) : ∀ e ∈ ps.map prD, Cmp 2 e (prD q) := fun e he => by
  obtain ⟨p, _, rfl⟩ := List.mem_map.mp he
  exact cmp_pair p q
theorem prD_mem {ps : List (Str × Str)} {q : Str × Str} : prD q ∈ ps.map prD ↔ q ∈ ps := by
  rw [List.mem_map]
  constructor
  · rintro ⟨p, hp, e⟩
    have e1 : p = q := by
      simp only [prD, Dt.tup.injEq, List.cons.injEq, Dt.str.injEq, and_true] at e
      exact Prod.ext e.1 e.2
    rw [← e1]; exact hp
  · exact fun h => ⟨q, h, rfl⟩
theorem map_at {ls : List Str} {i : Nat} {x : V} (h : (ls.map V.str)[i]? = some x) : ∃ z, ls[i]? = some z ∧ x = V.str z := by
  rw [List.getElem?_map] at h
  obtain ⟨b, h1, h2⟩ := Option.map_eq_some_iff.mp h
  exact ⟨b, h1, h2.symm⟩
theorem atI_lst {α : Type} {xs : List α} {v : α} (h : xs[xs.length - 1]? = some v) : atI xs (-1) = some v := by
  have hl : xs.length - 1 < xs.length := (List.getElem?_eq_some_iff.mp h).1
  unfold atI ixN
  rw [if_neg (by decide), if_pos (by omega)]
  show xs[(-1 + (xs.length : Int)).toNat]? = some v
  rw [show (-1 + (xs.length : Int)).toNat = xs.length - 1 by omega]
  exact h
theorem one_le : ([] : List V).length + 1 ≤ sizeLine := by decide
theorem two_le : ([] : List V).length + 1 + 1 ≤ sizeLine := by decide
theorem pair_at {K : PySem.W.Frag} {H : Hp} {v : V} {p : Str × Str} (h : IsDt K H v (prD p)) : ∃ t, v = .ref t ∧ SqT K H t [.str p.1, .str p.2] := by
  cases h with
  | tup h t =>
    cases t with
    | cons h1 t =>
      cases t with
      | cons h2 t =>
        cases t
        cases h1; cases h2
        exact ⟨_, rfl, h⟩
theorem IsDts.pairs_get {K : PySem.W.Frag} {H : Hp} {vs : List V} {ps : List (Str × Str)} (h : IsDts K H vs (ps.map prD)) {i : Nat} {v : V} (hv : vs[i]? = some v) : ∃ p t, ps[i]? = some p ∧ v = .ref t ∧ SqT K H t [.str p.1, .str p.2] := by
  obtain ⟨d, hd, hi⟩ := h.get hv
  rw [List.getElem?_map] at hd
  cases e : ps[i]? with
  | none => rw [e] at hd; cases hd
  | some p =>
    rw [e] at hd
    cases hd
    obtain ⟨t, h1, h2⟩ := pair_at hi
    exact ⟨p, t, rfl, h1, h2⟩
/-- a dict from texts to things -/
abbrev kvR (ks : List (Str × Addr)) : List (Key × V) := ks.map fun p => (Sum.inr p.1, V.ref p.2)
abbrev kvS (cf : List (Str × Str)) : List (Key × V) := cf.map fun p => (Sum.inr p.1, V.str p.2)
theorem val_gen {β : Type} (g : β → V) : ∀ (ks : List (Str × β)) (k : Str), valV (ks.map fun p => ((Sum.inr p.1 : Key), g p.2)) (Sum.inr k) = (ks.lookup k).map g
  | [], _ => rfl
  | p :: r, k => by
    obtain ⟨x, y⟩ := p
    rw [List.map_cons, List.lookup_cons]
    by_cases e : k = x
    · subst e
      rw [valV_pos rfl]
      simp
    · have e' : ¬ ((Sum.inr x : Key) = Sum.inr k) := fun z => e (Sum.inr.inj z).symm
      rw [valV_neg e', val_gen g r k]
      have hb : (k == x) = false := beq_false_of_ne e
      rw [hb]
theorem val_R (ks : List (Str × Addr)) (k : Str) : valV (kvR ks) (Sum.inr k) = (ks.lookup k).map V.ref := val_gen V.ref ks k
theorem val_S (cf : List (Str × Str)) (k : Str) : valV (kvS cf) (Sum.inr k) = (cf.lookup k).map V.str := val_gen V.str cf k
theorem lookA_mem {β : Type} {ks : List (Str × β)} {k : Str} {a : β} (h : ks.lookup k = some a) : (k, a) ∈ ks := by
  induction ks with
  | nil => simp at h
  | cons p r ih =>
    obtain ⟨x, y⟩ := p
    rw [List.lookup_cons] at h
    by_cases e : k = x
    · subst e
      simp at h; subst h; exact List.mem_cons_self
    · have hb : (k == x) = false := beq_false_of_ne e
      rw [hb] at h
      exact List.mem_cons_of_mem _ (ih h)
theorem lookA_none {β : Type} {ks : List (Str × β)} {k : Str} (h : ks.lookup k = none) : k ∉ ks.map (·.1) := by
  induction ks with
  | nil => simp
  | cons p r ih =>
    obtain ⟨x, y⟩ := p
    rw [List.lookup_cons] at h
    by_cases e : k = x
    · subst e; simp at h
    · have hb : (k == x) = false := beq_false_of_ne e
      rw [hb] at h
      intro z
      rcases List.mem_cons.mp z with z | z
      · exact e z
      · exact ih h z
/-- a dict: each better label, and the list of those told as worse -/
structure WBB (H : Hp) (d : Addr) (ps : List (Str × Str)) (ks : List (Str × Addr)) : Prop where
  dict : H d = some (.dK (kvR ks))
  nd : (ks.map (·.1)).Nodup
  lst : ∀ p ∈ ks, H p.2 = some (.lst ((worseOf ps p.1).map V.str))
  all : ∀ p ∈ ps, p.1 ∈ ks.map (·.1)
  adr : (ks.map (·.2)).Nodup
theorem WBB.same {H H' : Hp} {d : Addr} {ps : List (Str × Str)} {ks : List (Str × Addr)} (e : Same H H') (W : WBB H d ps ks) : WBB H' d ps ks :=
  ⟨e _ _ W.dict, W.nd, fun p hp => e _ _ (W.lst p hp), W.all, W.adr⟩
theorem WBB.ne {H : Hp} {d : Addr} {ps : List (Str × Str)} {ks : List (Str × Addr)} (W : WBB H d ps ks) {p : Str × Addr} (hp : p ∈ ks) : p.2 ≠ d := ne_of (W.lst p hp) W.dict (by intro z; cases z)
theorem WBB.start {H : Hp} {d : Addr} (h : H d = some (.dK [])) : WBB H d [] [] := ⟨h, List.nodup_nil, fun p hp => by simp at hp, fun p hp => by simp at hp, List.nodup_nil⟩
theorem WBB.worse {H : Hp} {d : Addr} {ps : List (Str × Str)} {ks : List (Str × Addr)} (W : WBB H d ps ks) {b : Str} : (∀ a, ks.lookup b = some a → H a = some (.lst ((worseOf ps b).map V.str))) ∧ (ks.lookup b = none → worseOf ps b = []) := by
  refine ⟨fun a h => W.lst _ (lookA_mem h), fun h => ?_⟩
  cases e : worseOf ps b with
  | nil => rfl
  | cons w r =>
    have : w ∈ worseOf ps b := by rw [e]; exact List.mem_cons_self
    exact absurd (W.all _ (mem_worseOf.mp this)) (lookA_none h)
/-- one pair more, its better label known -/
theorem WBB.known {H : Hp} {d a : Addr} {ps : List (Str × Str)} {ks : List (Str × Addr)} (W : WBB H d ps ks) {b w : Str} (h : ks.lookup b = some a) : WBB (upd H a (.lst ((worseOf ps b).map V.str ++ [.str w]))) d (ps ++ [(b, w)]) ks := by
  have hm := lookA_mem h
  refine ⟨by rw [upd_ne (W.ne hm).symm]; exact W.dict, W.nd, fun p hp => ?_, fun p hp => ?_, W.adr⟩
  · rw [worseOf_snoc]
    by_cases e : b = p.1
    · rw [if_pos e]
      have ep : p = (b, a) := by
        obtain ⟨i, hi, e1⟩ := List.mem_iff_getElem.mp hp
        obtain ⟨j, hj, e2⟩ := List.mem_iff_getElem.mp hm
        have h1 : (ks.map (·.1))[i]'(by simpa using hi) = (ks.map (·.1))[j]'(by simpa using hj) := by simp [e1, e2, e]
        have h2 := (List.getElem_inj W.nd).mp h1
        subst h2
        rw [← e1, e2]
      subst ep
      rw [upd_same, List.map_append]
      rfl
    · rw [if_neg e]
      have na : p.2 ≠ a := fun z => by
        obtain ⟨i, hi, e1⟩ := List.mem_iff_getElem.mp hp
        obtain ⟨j, hj, e2⟩ := List.mem_iff_getElem.mp hm
        have h1 : (ks.map (·.2))[i]'(by simpa using hi) = (ks.map (·.2))[j]'(by simpa using hj) := by simp [e1, e2, z]
        have h2 := (List.getElem_inj W.adr).mp h1
        subst h2
        rw [e1] at e2
        exact e (by rw [e2])
      rw [upd_ne na]
      exact W.lst p hp
  · rcases List.mem_append.mp hp with hp | hp
    · exact W.all p hp
    · rw [List.mem_singleton] at hp; subst hp
      exact List.mem_map.mpr ⟨_, hm, rfl⟩
/-- .. a new one -/
theorem WBB.more {H : Hp} {d a : Addr} {ps : List (Str × Str)} {ks : List (Str × Addr)} (W : WBB H d ps ks) {b w : Str} (h : ks.lookup b = none) (ha : H a = none) : WBB (upd (upd (upd H a (.lst [])) d (.dK (putK (kvR ks) (Sum.inr b) (.ref a)))) a (.lst ([] ++ [.str w]))) d (ps ++ [(b, w)]) (ks ++ [(b, a)]) := by
  have nda : d ≠ a := ne_of_none W.dict ha
  have hn := lookA_none h
  have hv : valV (kvR ks) (Sum.inr b) = none := by rw [val_R, h]; rfl
  refine ⟨?_, ?_, fun p hp => ?_, fun p hp => ?_, ?_⟩
  · rw [upd_ne nda, upd_same, putK_new _ hv]
    simp [kvR]
  · rw [List.map_append]; exact nodup_snoc W.nd hn
  · rw [worseOf_snoc]
    rcases List.mem_append.mp hp with hp | hp
    · have e : ¬ b = p.1 := fun z => hn (z ▸ List.mem_map.mpr ⟨p, hp, rfl⟩)
      have na : p.2 ≠ a := ne_of_none (W.lst p hp) ha
      rw [if_neg e, upd_ne na, upd_ne (W.ne hp), upd_ne na]
      exact W.lst p hp
    · rw [List.mem_singleton] at hp; subst hp
      rw [if_pos rfl, W.worse.2 h, upd_same]
      rfl
  · rw [List.map_append]
    rcases List.mem_append.mp hp with hp | hp
    · exact List.mem_append_left _ (W.all p hp)
    · rw [List.mem_singleton] at hp; subst hp
      exact List.mem_append_right _ (by simp)
  · rw [List.map_append]
    refine nodup_snoc W.adr fun z => ?_
    obtain ⟨p, hp, e⟩ := List.mem_map.mp z
    exact ne_of_none (W.lst p hp) ha e
end L2
namespace L2
open PySem PySem.Spec PyProof.Rows Ord
theorem IsDts.of_get {K : PySem.W.Frag} {H : Hp} : ∀ {vs : List V} {ds : List Dt}, vs.length = ds.length → (∀ (n : Nat) v d, vs[n]? = some v → ds[n]? = some d → IsDt K H v d) → IsDts K H vs ds
  | [], [], _, _ => .nil
  | v :: vs, d :: ds, hl, h => .cons (h 0 v d rfl rfl) (IsDts.of_get (by simpa using hl) fun n x y e1 e2 => h (n + 1) x y (by simpa using e1) (by simpa using e2))
/-- tuples of two texts at the addresses ts -/
structure Tups (H : Hp) (ts : List Addr) (ps : List (Str × Str)) : Prop where
  len : ts.length = ps.length
  at_ : ∀ (n : Nat) t p, ts[n]? = some t → ps[n]? = some p → H t = some (.tup [.str p.1, .str p.2])
theorem Tups.nil {H : Hp} : Tups H [] [] := ⟨rfl, fun n t p h => by simp at h⟩
theorem Tups.same {H H' : Hp} {ts : List Addr} {ps : List (Str × Str)} (e : Same H H') (h : Tups H ts ps) : Tups H' ts ps := ⟨h.len, fun n t p h1 h2 => e _ _ (h.at_ n t p h1 h2)⟩
theorem Tups.dts {K : PySem.W.Frag} {H : Hp} {ts : List Addr} {ps : List (Str × Str)} (h : Tups H ts ps) : IsDts K H (ts.map V.ref) (ps.map prD) := by
  refine IsDts.of_get (by simpa using h.len) fun n v d e1 e2 => ?_
  rw [List.getElem?_map] at e1 e2
  obtain ⟨t, h1, rfl⟩ := Option.map_eq_some_iff.mp e1
  obtain ⟨p, h2, rfl⟩ := Option.map_eq_some_iff.mp e2
  exact .tup (SqT.of (h.at_ n t p h1 h2)) (.cons (.str _) (.cons (.str _) .nil))
theorem Tups.prs {K : PySem.W.Frag} {H : Hp} {a : Addr} {ts : List Addr} {ps : List (Str × Str)} (h : Tups H ts ps) (e : H a = some (.lst (ts.map V.ref))) : Prs K H a ps := ⟨_, SqL.of e, h.dts⟩
theorem Tups.ne {H : Hp} {a : Addr} {xs : List V} {ts : List Addr} {ps : List (Str × Str)} (h : Tups H ts ps) (e : H a = some (.lst xs)) : a ∉ ts := fun z => by
  obtain ⟨n, hn, e1⟩ := List.mem_iff_getElem.mp z
  have hn' : n < ps.length := by rw [← h.len]; exact hn
  have := h.at_ n a ps[n] (by rw [List.getElem?_eq_getElem hn, e1]) (List.getElem?_eq_getElem hn')
  rw [e] at this
  cases this
theorem Tups.upd {H : Hp} {a : Addr} {o : HO} {ts : List Addr} {ps : List (Str × Str)} (h : Tups H ts ps) (e : a ∉ ts) : Tups (upd H a o) ts ps := ⟨h.len, fun n t p h1 h2 => by
  have ne : t ≠ a := fun z => by
    subst z
    exact e (List.mem_of_getElem? h1)
  rw [L2.upd_ne ne]
  exact h.at_ n t p h1 h2⟩
theorem Tups.snoc {H : Hp} {t : Addr} {ts : List Addr} {ps : List (Str × Str)} {p : Str × Str} (h : Tups H ts ps) (e : H t = some (.tup [.str p.1, .str p.2])) : Tups H (ts ++ [t]) (ps ++ [p]) := by
  refine ⟨by rw [List.length_append, List.length_append, h.len]; rfl, fun n t' p' h1 h2 => ?_⟩
  by_cases hn : n < ts.length
  · rw [List.getElem?_append_left hn] at h1
    rw [List.getElem?_append_left (by rw [← h.len]; exact hn)] at h2
    exact h.at_ n t' p' h1 h2
  · have hn2 : n = ts.length := by
      have := (List.getElem?_eq_some_iff.mp h1).1
      rw [List.length_append, List.length_singleton] at this; omega
    subst hn2
    rw [List.getElem?_append_right (Nat.le_refl _)] at h1
    rw [List.getElem?_append_right (by rw [h.len]; exact Nat.le_refl _)] at h2
    simp at h1
    simp [h.len] at h2
    subst h1; subst h2
    exact e
theorem getD_mem {ls : List Str} {i : Nat} (h : i < ls.length) : ls.getD i default ∈ ls := by
  rw [List.getD_eq_getElem?_getD, List.getElem?_eq_getElem h]
  exact List.getElem_mem h
theorem getD_at {ls : List Str} {i : Nat} (h : i < ls.length) : (ls.map V.str)[i]? = some (.str (ls.getD i default)) := by
  rw [List.getElem?_map, List.getD_eq_getElem?_getD, List.getElem?_eq_getElem h]; rfl
theorem mod_at {ls : List Str} {c m : Int} (h0 : 0 < m) (hm : m ≤ ls.length) : atI (ls.map V.str) (c % m) = some (.str (ls.getD (c % m).toNat default)) := by
  have k0 := Int.emod_nonneg c (show m ≠ 0 by omega)
  have k1 := Int.emod_lt_of_pos c h0
  have := atI_nat (getD_at (ls := ls) (i := (c % m).toNat) (by omega))
  rwa [Int.toNat_of_nonneg k0] at this
theorem mod_in {ls : List Str} {c m : Int} (h0 : 0 < m) (hm : m ≤ ls.length) : ls.getD (c % m).toNat default ∈ ls := by
  have k0 := Int.emod_nonneg c (show m ≠ 0 by omega)
  have k1 := Int.emod_lt_of_pos c h0
  exact getD_mem (by omega)
end L2

namespace L2
open PySem PySem.Spec PyProof.Rows
theorem at0 {α : Type} {xs : List α} {i : Nat} {v : α} (h : xs[i]? = some v) : atI xs (0 + (i : Int)) = some v := by
  rw [Int.zero_add]
  exact atI_nat h
theorem ixN0 {n i : Nat} (h : i < n) : ixN n (0 + (i : Int)) = some i := by
  rw [Int.zero_add, ixN_in (by omega) (by omega), Int.toNat_natCast]
/-- over a list that stays, no test, by an invariant of the items so far -/
theorem comp_listI {K : PySem.W.Frag} {a : Addr} {xs : List V} {k : Nat} {caps : List Nat} {g : TG} {te : TE} {σ : St} {H1 : Hp} {Q : Addr → Hp → Prop} (Pv : Addr → Nat → List V → Hp → Prop)
    (h0 : ∀ D, H1 D = none → Pv D 0 [] (upd H1 D (.lst []))) (hq : ∀ D i ys H2, Pv D i ys H2 → SqL K H2 a xs)
    (hs : ∀ D i x ys H2 (R : VK), H1 D = none → xs[i]? = some x → Pv D i ys H2 → (∀ y H6, H6 D = some (.lst ys) → ys.length < sizeLine → Pv D (i + 1) (ys ++ [y]) (upd H6 D (.lst (ys ++ [y]))) → R y H6) → g x (compSt k caps σ) H2 fun σ4 H4 => te σ4 H4 R)
    (hd : ∀ D ys H2, H1 D = none → Pv D xs.length ys H2 → Q D H2) :
    ∀ D, H1 D = none → ∃ W : Nat → Nat → List V → Hp → Prop, (∃ m, W 0 m [] (upd H1 D (.lst []))) ∧ ∀ i m ys H2, W i m ys H2 →
      ((Itl K a).stop i H2 ∧ Q D H2) ∨ ((Itl K a).go i H2 ∧ ∀ x H3, (Itl K a).yld i H2 x H3 → g x (compSt k caps σ) H3 fun σ4 H4 => tYes σ4 H4 fun b H5 =>
        if b = true then te σ4 H5 fun y H6 => H6 D = some (.lst ys) ∧ ys.length < sizeLine ∧ ∃ m', m' < m ∧ W (i + 1) m' (ys ++ [y]) (upd H6 D (.lst (ys ++ [y]))) else ∃ m', m' < m ∧ W (i + 1) m' ys H5) := by
  intro D hD
  refine ⟨fun i m ys H2 => m = xs.length - i ∧ i ≤ xs.length ∧ Pv D i ys H2, ⟨xs.length, rfl, Nat.zero_le _, h0 D hD⟩, ?_⟩
  rintro i m ys H2 ⟨rfl, hi, p⟩
  have q2 := hq D i ys H2 p
  by_cases hlt : i < xs.length
  · refine .inr ⟨⟨xs, xs[i], q2, by simp [hlt]⟩, fun x H3 y => ?_⟩
    obtain ⟨rfl, y⟩ := y
    have hx := y xs q2
    refine hs D i x ys H3 _ hD hx p fun v H6 e6 hz p6 => ?_
    exact ⟨e6, hz, xs.length - (i + 1), by omega, rfl, hlt, p6⟩
  · have e : i = xs.length := by omega
    subst e
    exact .inl ⟨⟨xs, q2, Nat.le_refl _⟩, hd D ys H2 hD p⟩
end L2

namespace L2
open PySem PySem.Spec PyProof.Rows
theorem ObjOk.ex {P : Program} {w : World} {H : Hp} {h : Heap} {a : Addr} {o : HO} (x : ObjOk P w H h a o) : ∃ u, h.get? a = some u := by
  cases o with
  | lst xs => obtain ⟨_, _, _, _, e⟩ := x; exact ⟨_, e⟩
  | tup xs => obtain ⟨_, _, _, u, e, _⟩ := x; exact ⟨u, e⟩
  | dK kvs => obtain ⟨_, _, _, _, u, _, _, e, _⟩ := x; exact ⟨u, e⟩
  | dT kvs => obtain ⟨_, _, _, _, u, _, _, e, _⟩ := x; exact ⟨u, e⟩
  | set S n => obtain ⟨u, _, _, _, e, _⟩ := x; exact ⟨u, e⟩
  | ins C dx fs => obtain ⟨_, _, _, e, _⟩ := x; exact ⟨_, e⟩
  | own y => exact x
  | xd fs => obtain ⟨_, ⟨u, _, _, e, _⟩, _⟩ := x; exact ⟨u, e⟩
  | rng lo hi => obtain ⟨_, _, _, e⟩ := x; exact ⟨_, e⟩
  | frz ob u => obtain ⟨e, _⟩ := x; exact ⟨_, e⟩
  | tbl ps => exact ⟨_, (show h.get? a = some _ from x)⟩
  | met f y => exact ⟨_, (show h.get? a = some _ from x)⟩
  | ext φ => exact x.2.1
theorem Inv.freshN {X : Cx} {pins : List (Addr × Obj)} {σ : L2.St} {H : Hp} {s : Shared} {a : Addr} (I : Inv X pins σ H s) (hne : ∀ b u, s.heap.get? b = some u → b ≠ a) : H a = none := by
  cases e : H a with
  | none => rfl
  | some o =>
    obtain ⟨u, hu⟩ := (I.hok a o e).ex
    exact absurd rfl (hne a u hu)
/-- a new object laid at an address where nothing stood -/
theorem Inv.laidN {X : Cx} {pins : List (Addr × Obj)} {σ : L2.St} {H : Hp} {s : Shared} {h' : Heap} {a : Addr} {o : HO} {t' : Nat} (I : Inv X pins σ H s) (k : ∀ b u, s.heap.get? b = some u → h'.get? b = some u) (hne : ∀ b u, s.heap.get? b = some u → b ≠ a) (new : ObjOk X.prog X.w (upd H a o) h' a o) :
    Inv X pins σ (upd H a o) { s with heap := h', toks := t' } := by
  have hn := I.freshN hne
  refine I.un ⟨fun b u q _ _ _ => k b u q, fun b u q _ _ _ => ⟨u.slots, k b u q⟩, fun b u q n _ => by rw [upd_ne (hne b u q)]; exact n, fun b u q _ => ⟨u, k b u q⟩, fun b xs q => by rw [upd_ne (ne_of_none q hn)]; exact q, fun b u xs q => by rw [upd_ne (ne_of_none q hn)]; exact q, fun b ps q => ⟨#[], by rw [upd_ne (ne_of_none q hn), q]; simp⟩⟩ fun b u e => ?_
  by_cases hb : b = a
  · subst hb; rw [upd_same] at e; cases e; exact new
  · rw [upd_ne hb] at e
    exact (I.hok b u e).stay (fun c v _ q => k c v q) (fun c q => by rw [upd_ne (ne_of_none q hn)]; exact q) fun c xs q => by rw [upd_ne (ne_of_none q hn)]; exact q
/-! ### sorted(d) of a dict whose keys are texts -/
/-- the order of texts -/
def ltS (a b : Str) : Prop := a.cps.toList < b.cps.toList
theorem ltS_trans {a b c : Str} (h : ltS a b) (k : ltS b c) : ltS a c := List.lt_trans h k
theorem ltS_total {a b : Str} (h : ¬ ltS b a) (ne : a ≠ b) : ltS a b := by
  have h1 : a.cps.toList ≤ b.cps.toList := List.not_lt.mp h
  rcases Classical.em (a.cps.toList < b.cps.toList) with h2 | h2
  · exact h2
  · have h3 : b.cps.toList ≤ a.cps.toList := List.not_lt.mp h2
    exact absurd (ext_toList (List.le_antisymm h1 h3)) ne
theorem rising_pw : ∀ (l : List Str) (p : Str), risingS p l = true → (p :: l).Nodup → (p :: l).Pairwise ltS
  | [], p, _, _ => by simp
  | q :: r, p, h, hn => by
    have h' : (!ltCps q.cps.toList p.cps.toList && risingS q r) = true := by simpa [risingS] using h
    rw [Bool.and_eq_true] at h'
    have hn2 := (List.nodup_cons.mp hn)
    have ih := rising_pw r q h'.2 hn2.2
    have hpq : ltS p q := ltS_total (fun z => by
      have := h'.1
      rw [ltCps_eq, decide_eq_true (show q.cps.toList < p.cps.toList from z)] at this
      cases this) fun z => hn2.1 (by rw [z]; exact List.mem_cons_self)
    refine List.pairwise_cons.mpr ⟨fun x hx => ?_, ih⟩
    rcases List.mem_cons.mp hx with e | hx
    · rw [e]; exact hpq
    · exact ltS_trans hpq ((List.pairwise_cons.mp ih).1 x hx)
theorem sorted_pw {l : List Str} (h : sortedS l = true) (hn : l.Nodup) : l.Pairwise ltS := by
  cases l with
  | nil => exact List.Pairwise.nil
  | cons p r => exact rising_pw r p h hn
theorem vals_of_strs : ∀ {vs : List Value} {ss : List Str}, StrsAre vs ss → Vals (ss.map V.str) vs
  | _, _, .nil => .nil
  | _, _, .cons _ _ h => .cons ⟨_, rfl⟩ (vals_of_strs h)
theorem strs_of {ss : List Str} : ∀ {vs : List Value}, vs.length = ss.length → (∀ (i : Nat) (v : Value), vs[i]? = some v → ∃ t, v = .str (ss.getD i default) t) → StrsAre vs ss := by
  induction ss with
  | nil => intro vs hl _; cases vs with
    | nil => exact .nil
    | cons _ _ => simp at hl
  | cons x r ih =>
    intro vs hl h
    cases vs with
    | nil => simp at hl
    | cons v vs =>
      obtain ⟨t, e⟩ := h 0 v rfl
      have e' : v = .str x t := e
      subst e'
      exact .cons _ _ (ih (by simpa using hl) fun i u hu => h (i + 1) u (by simpa using hu))
section
variable {prog : Program} {w : World} {A : Around} {E : Value → Shared → Prop} {s : Shared}
theorem sorted_dictS {d : Addr} {kvs : List (Key × Value)} {ss : List Str} {Q : Value → Shared → Prop} (hh : A.handled = none) (dd : s.heap.DictOf (mixKind prog w) d kvs) (lo : (d == sysModules) = false)
    (hk : kvs.map (·.1) = ss.map Sum.inr) (h64 : ss.length < 64)
    (h : ∀ (D : Addr) (h' : Heap) (tk n : Nat) (out : List Value) (ss' : List Str), (∀ b o, s.heap.get? b = some o → h'.get? b = some o) → (∀ b o, s.heap.get? b = some o → b ≠ D) → h'.get? D = some { cls := .type "list", data := .seq out.toArray n } → Vals (ss'.map V.str) out → ss'.Perm ss → sortedS ss' = true → Q (.ref D) { s with heap := h', toks := tk }) :
    wpAny (model prog w) A (call (.builtin "sorted") [.ref d]) Q E s := by
  have hlk : kvs.length = ss.length := by have := congrArg List.length hk; simpa using this
  have hn : kvs.length ≤ sizeLine := Nat.le_of_lt (small1000 (by omega))
  obtain ⟨ep, hat⟩ := dd.dictAt
  refine Calls.call_function_entry kind_sorted plain_sorted entry_sorted (args_sorted1 _) ?_
  unfold Builtin.«sorted»
  refine wpAny_bind (m := checkCount "sorted" 1 1 _) (wpAny_pure ?_)
  refine wpAny_bind (PySem.W.kdu_collect (A := A.in1) (PySem.W.kdl_dict (knd := mixKind prog w) (kvs := kvs) (ep := ep) lo) hh hat hn fun h1 tk acc k1 hacc => ?_)
  have la : acc.toList.length = ss.length := by rw [Array.length_toList, hacc.1, hlk]
  have hS : StrsAre acc.toList ss := strs_of la fun i v hv => by
    obtain ⟨k, x, e1, e2⟩ := hacc.2 i v (by rw [← Array.getElem?_toList]; exact hv)
    have e3 : (kvs.map (·.1))[i]? = some k := by rw [List.getElem?_map, e1]; rfl
    rw [hk, List.getElem?_map] at e3
    obtain ⟨z, e4, e5⟩ := Option.map_eq_some_iff.mp e3
    have e2' : keyIs k v = true := e2
    rw [← e5] at e2'
    obtain ⟨t, e6⟩ := Value.isStrOf_shape e2'
    exact ⟨t, by rw [e6, List.getD_eq_getElem?_getD, e4]; rfl⟩
  refine wpAny_bind (wpAny_newList ?_ (by rw [la]; exact Nat.le_of_lt (small1000 (by omega))))
  have hoL : (h1.push { cls := .type "list", data := .seq acc.toList.toArray }).get? h1.objs.size = some (seqObj "list" acc.toList.toArray 0) := Heap.get?_push_size _ rfl
  refine wpAny_bind (wpAny_holding (wpAny_call_entry slot_list_sort ⟨_, hoL, rfl⟩ entry_list_sort (list_sort_treeK strKind_oneLt hoL hS.keysOf (fun v₁ v₂ rest e => keyKind_strs (by rw [← e]; exact hS)) (by rw [la]; exact h64) fun st' a1 a2 => ⟨_, rfl, ?_⟩) (args_list_sort _)))
  obtain ⟨ss', b1, b2, b3⟩ := sorted_out_str hS a1 a2
  obtain ⟨n, hg⟩ := sortedHeap_at (vs := acc.toList) (out := (arrOf st').map (·.2)) hoL
  have szle : ∀ b o, s.heap.get? b = some o → b ≠ h1.objs.size := fun b o e => Nat.ne_of_lt (Heap.lt_size (k1 b o e))
  refine wpAny_pure ⟨_, rfl, h h1.objs.size _ tk n _ ss' (fun b o e => ?_) szle (by rw [Array.toArray_toList]; exact hg) (vals_of_strs b1) b2 b3⟩
  have hb := Heap.lt_size (k1 b o e)
  rw [sortedHeap_old (Nat.ne_of_lt hb) (by rw [Heap.size_push]; exact Nat.lt_succ_of_lt hb)]
  exact Heap.get?_push_of_some _ (k1 b o e)
end
section
variable {X : Cx}
def rSortD : List V → Hp → VK → Prop := fun vs H Q => ∃ (d : Addr) (kvs : List (Key × V)) (ss : List Str), vs = [.ref d] ∧ H d = some (.dK kvs) ∧ kvs.map (·.1) = ss.map Sum.inr ∧ ss.length < 64 ∧ ∀ D ss', ss'.Perm ss → sortedS ss' = true → H D = none → Q (.ref D) (upd H D (.lst (ss'.map V.str)))
theorem call_sortD (hc : X.calm = true) : CallR X (.builtin "sorted") rSortD := by
  intro pins s σ H vs us Q I r h
  obtain ⟨d, kvs, ss, rfl, hd, hk, h64, q⟩ := h
  obtain ⟨u, rfl, ru⟩ := vals1 r
  obtain rfl : u = Value.ref d := ru
  obtain ⟨z, hm, ws, rel, dd⟩ := dk_of I.hok hd
  refine sorted_dictS (I.ok.hd hc) dd hm (ss := ss) (by rw [← rel.keys]; exact hk) h64 fun D h' tk n out ss' kk hD hg rv hp hs => ?_
  have hlen : (ss'.map V.str).length ≤ sizeLine := by rw [List.length_map, hp.length_eq]; exact Nat.le_of_lt (small1000 (by omega))
  exact ⟨.ref D, upd H D (.lst (ss'.map V.str)), I.laidN (t' := tk) kk hD ⟨hlen, out, n, rv, hg⟩, rfl, q D ss' hp hs (I.freshN hD)⟩
end
end L2

namespace HT
open PySem PyProof.Rows



section
open PySem.SeqAt
open PySem.AutoSeq1 (wpAny_loadPart')
open PySem.MeetsSeq PySem.MeetsSeq2 PySem.MeetsSeq3

end

section
variable {prog : Program} {w : World} {A : Around} {E : Value → Shared → Prop} {s : Shared}


end
end HT
namespace L2
open PySem PySem.Spec PyProof.Rows
section
variable {X : Cx}
end
end L2

namespace L2
end L2

namespace KasM
open PySem PySem.W PyProof.Rows
set_option autoImplicit false

section
variable {O : KeyOrd} {key : Nat → O.α} {n : Nat}





end
end KasM

namespace L2
open PySem PySem.Spec PyProof.Rows
section
variable {prog : Program} {w : World} {A : Around} {E : Value → Shared → Prop} {s : Shared}

end
end L2

namespace L2
open PySem PySem.Spec PyProof.Rows

section
variable {prog : Program} {w : World} {A : Around} {E : Value → Shared → Prop} {s : Shared}
end
section
variable {X : Cx}

end
end L2

namespace L2
open PySem PySem.Spec PyProof.Rows Ord
/-! ### states of tables -/

section
variable {X : Cx}
end






end L2

namespace L2
open PySem PySem.Spec PyProof.Rows Ord
/-! ### what stays where only some lists are changed -/
section
variable {K : PySem.W.Frag} {M : Addr → Prop} {H H' : Hp}
end
/-! ### the usual table -/
end L2

namespace L2
open PySem PySem.Spec PyProof.Rows Ord
section
variable {X : Cx}
end
/-! ### answers, questions -/
section
variable {K : PySem.W.Frag} {H H' : Hp} {a : Addr}
end
/-! ### what is in a thing -/
end L2

namespace L2
open PySem PySem.Spec PyProof.Rows Ord
/-! ### rows of tuples of texts and ints -/
section
variable {α : Type} {f : α → List V} {H H' : Hp} {ts : List Addr} {rs : List α}
end
/-! ### scopes -/
/-! ### where a step goes -/
end L2

namespace L2
open PySem PySem.Spec PyProof.Rows Ord
section
variable {X : Cx}
end
end L2

namespace L2
open PySem PySem.Spec PyProof.Rows
/-! ### enumerate of a list, with a pair of targets -/
end L2

namespace L2
open PySem PySem.Spec PyProof.Rows PySem.SeqAt
open PySem.AutoSeq1 (wpAny_loadPart')
open PySem.MeetsSeq PySem.MeetsSeq2 PySem.MeetsSeq3
/-! ### < of deep data -/




section
variable {A : Around} {s : Shared}
end
/-! ### orders of lists -/
/-! ### what is told as deep data, and its order -/
section
variable {X : Cx} {pins : List (Addr × Obj)} {σ : St} {H : Hp} {s : Shared}
end
section
variable {X : Cx} {pins : List (Addr × Obj)} {σ : St} {H : Hp} {s : Shared}
end
end L2

namespace L2
open PySem PySem.Spec PyProof.Rows PySem.SeqAt
section
variable {X : Cx}
end
end L2

namespace L2
open PySem PySem.Spec PyProof.Rows Ord
/-! ### ways: the mathematics -/
/-! ### how many beginnings there may be -/
/-! ### ways in the heap -/
end L2

namespace L2
open PySem PySem.Spec PyProof.Rows Ord
/-! ### found ways -/
/-! ### owed ways -/
end L2

namespace L2
open PySem PySem.Spec PyProof.Rows Ord
/-! ### one way hides another -/
/-! ### the marks of ways -/
end L2

namespace PySem
section
variable {prog : Program} {w : World} {K : Type} [DecidableEq K] {knd : HeapKind prog w K} {A : Around} {E : Value → Shared → Prop} {s : Shared}
end
section
variable {prog : Program} {w : World} {A : Around} {E : Value → Shared → Prop} {s : Shared}
end
end PySem
namespace L2
open PySem PySem.Spec PyProof.Rows
section
variable {X : Cx}
end
end L2

namespace PySem
section
variable {prog : Program} {w : World} {A : Around} {E : Value → Shared → Prop} {s : Shared}
theorem keys_miss {a : Addr} {o : Obj} {xs : Array Value} {k : Nat} {Q : Option Value → Shared → Prop}
    (hx : s.heap.get? a = some o) (hc : o.cls = .type "list") (hdat : o.data = .seq xs k) (hd : o.dict = none) (hA : A.handled = none)
    (h : ∀ h' tk, (∀ b o, s.heap.get? b = some o → h'.get? b = some o) → Q none { s with heap := h', toks := tk }) : wpAny (model prog w) A (getAttr? (.ref a) "keys") Q E s := by
  obtain ⟨c, dct, dat, sl⟩ := o
  simp only at hc hdat hd
  subst hc hdat hd
  obtain ⟨hp, g, d, tk, os⟩ := s
  have hT : ∀ tk', (⟨hp, g, d, tk', os⟩ : Shared).TypeIs (.ref a) "list" := fun _ => ⟨_, hx, rfl⟩
  have f1 := sub_AttributeError
  have f3 := F.slot_list_getattribute.lookup
  have f4 := F.slot_list_getattribute.bind (.ref a)
  have f5 := am_list_getattr_none
  have hmiss : typeLookup (.type "list") "keys" = pure none := by rw [typeLookup_type, builtinLookup_eq_fast]; kernel_rfl
  unfold getAttr? getAttrBy? getAttrBy
  repeat (any_goals (first | assumption | exact hT _ | ((with_reducible show wpAny _ _ (call (Value.builtin "list.__getattribute__") _ _) _ _ _); refine call_meets F.slot_list_getattribute (hT _) am_entry_list_getattribute (F.args_list_getattribute_2 _ _) (meets_getattribute_miss_list a xs k sl "keys" _ hmiss (by decide) (by size_fits)) ⟨hx, hA, fun h' tk' e hx' => ?_⟩) | wp_step))
  obtain ⟨t', u', he⟩ := hx'.there
  show wpAny _ _ (getattributeRaised _ _ _ _ _ _ _) _ _ _
  unfold getattributeRaised
  repeat (any_goals (first | assumption | wp_step))
  exact h _ _ hx'.keeps
namespace F
theorem entry_upd_loop : entryFor table "dict.update.loop" = some Builtin.«dict.update.loop» := entryFor_of_tree (by kernel_rfl)
theorem plain_upd_loop : plainId "dict.update.loop" = true := by decide +kernel
end F
variable {R : Result → Shared → Prop} {I : Addr} {fp wr : List Addr} {n : Nat} {P : Nat → Value → Prop} {St : Nat → Heap → Prop}
end
end PySem

namespace L2
open PySem PySem.Spec PyProof.Rows
section
variable {X : Cx}
/-! ### dict() of a list of pairs, the keys tuples -/
def mergeT (acc : List (List Key × V)) (ps : List (List Key × V)) : List (List Key × V) := ps.foldl (fun a kv => putK a kv.1 kv.2) acc
/-- the items of the list are these pairs -/
def PrsAt (H : Hp) (xs : List V) (ps : List (List Key × V)) : Prop := Paired (fun x (p : List Key × V) => ∃ t b, x = .ref t ∧ H t = some (.tup [.ref b, p.2]) ∧ H b = some (.tup (p.1.map kV))) xs ps
theorem upd_loop {pins : List (Addr × Obj)} {σ : St} {A : Around} {R : Result → Shared → Prop} {H : Hp} {p l it : Addr} (hu : A.units + 1 < cLine) (hh : A.in1.handled = none) (hp : H p = none) (hpi : it ≠ p) :
    ∀ (xs : List V) (ps : List (List Key × V)) (pre : List V) (acc : List (List Key × V)) (s : Shared), PrsAt H xs ps → H l = some (.lst (pre ++ xs)) → acc.length + xs.length ≤ sizeLine → Inv X pins σ (upd H p (.dT acc)) s →
    s.heap.IsListIter it l pre.length → FpOk X pins H it → (∀ s', Inv X pins σ (upd H p (.dT (mergeT acc ps))) s' → R (.ok (.ret .none)) s') → ∀ n : Int,
    codeAny (model X.prog X.w) A (.builtin "dict.update.loop" ⟨[.ref p, .ref it, rawInt n, .none], []⟩) R s := by
  intro xs ps pre acc s hx
  induction hx generalizing pre acc s with
  | nil =>
    intro hl hz I st hf hR n
    have hl' : upd H p (.dT acc) l = some (.lst (pre ++ [])) := (upd_ne (ne_of_none hl hp)).trans hl
    obtain ⟨f0, f1, f2, f3, f4, f5⟩ := hf
    have f0' : upd H p (.dT acc) it = none := (upd_ne hpi).trans f0
    obtain ⟨z, its, c, rv, e⟩ := (show ObjOk X.prog X.w _ s.heap l (.lst (pre ++ [])) from I.hok l _ hl')
    have hlen := rv.length
    rw [List.append_nil] at hlen
    refine codeAny_builtin PySem.F.entry_upd_loop ?_
    rw [Around.under_plainId PySem.F.plain_upd_loop _]
    show wpAny _ A.in1 (pyNext (.ref it) >>= _) _ _ s
    refine wpAny_bind (wpAny_pyNext_list_end hh st ⟨_, e, rfl, c, rfl⟩ (by simp; omega) fun h' eb => ?_)
    exact wpAny_bind (wpAny_pure (wpAny_pure (hR _ (I.turned (t' := s.toks) (fun b o hb e => eb b o hb e) f0' f1 f3 f4 f5))))
  | @cons x q xs ps hq tl ih =>
    intro hl hz I st hf hR n
    obtain ⟨t, b, rfl, ht, hb⟩ := hq
    have hl' : upd H p (.dT acc) l = some (.lst (pre ++ .ref t :: xs)) := (upd_ne (ne_of_none hl hp)).trans hl
    have ht' : upd H p (.dT acc) t = some (.tup [.ref b, q.2]) := (upd_ne (ne_of_none ht hp)).trans ht
    have hb' : upd H p (.dT acc) b = some (.tup (q.1.map kV)) := (upd_ne (ne_of_none hb hp)).trans hb
    obtain ⟨f0, f1, f2, f3, f4, f5⟩ := id hf
    have f0' : upd H p (.dT acc) it = none := (upd_ne hpi).trans f0
    obtain ⟨z, its, c, rv, e⟩ := (show ObjOk X.prog X.w _ s.heap l (.lst (pre ++ .ref t :: xs)) from I.hok l _ hl')
    obtain ⟨u, hu1, ru⟩ := rv.get (i := pre.length) (x := .ref t) (by simp)
    cases ru
    refine codeAny_builtin PySem.F.entry_upd_loop ?_
    rw [Around.under_plainId PySem.F.plain_upd_loop _]
    show wpAny _ A.in1 (pyNext (.ref it) >>= _) _ _ s
    refine wpAny_bind (wpAny_pyNext_list_item st (⟨_, e, rfl, c, rfl⟩ : s.heap.IsList l its.toArray) (x := .ref t) (by simpa using hu1) fun h' st' sb => ?_)
    have I1 : Inv X pins σ (upd H p (.dT acc)) { s with heap := h' } := I.turned (t' := s.toks) (fun b o hb e => (sb.2 b hb).trans e) f0' f1 f3 f4 f5
    obtain ⟨_, ts, rt, ot, et, ct, nt, dt⟩ := (show ObjOk X.prog X.w _ h' t (.tup [.ref b, q.2]) from I1.hok t _ ht')
    obtain ⟨u1, u2, rfl, r1, r2⟩ := vals2 rt
    cases (show u1 = Value.ref b from r1)
    obtain ⟨zd, hm, es, rel, dd⟩ := dt_of I1.hok (upd_same (H := H) (a := p) (o := .dT acc))
    have hl2 : es.length ≤ sizeLine := by rw [← Paired.length rel]; exact zd
    have hacc : (putK acc q.1 q.2).length ≤ acc.length + 1 := length_putK acc q.1 q.2
    rw [List.length_cons] at hz
    refine wpAny_bind (wpAny_holding (wpAny_bind (wpAny_tryCatch ?_)))
    show wpAny _ A.in1 (Builtin.Dict.pairItems (.ref t)) _ _ _
    unfold Builtin.Dict.pairItems
    refine wpAny_bind (wpAny_typeOf (s := { s with heap := h' }) (T := "tuple") ⟨ot, et, ct⟩ ?_)
    rw [if_pos (by decide)]
    refine wpAny_bind (wpAny_seqItems (s := { s with heap := h' }) et dt (wpAny_pure ?_))
    show wpAny _ A.in1 (holding [Value.ref b, u2] (dictSet p (.ref b) u2)) _ _ _
    refine wpAny_holding (wpAny_dictSet_heap (hsz := hl2) (knd := tupleKind (mixKind X.prog X.w)) (tupleKind_room_in1 hu) (key_of I1.hok hb') dd fun h2 dd' hs => ?_)
    obtain ⟨oo, es2, ep2, g1, g2, g3, g4, _, g5⟩ := dd'
    have I2 : Inv X pins σ (upd H p (.dT (putK acc q.1 q.2))) { s with heap := h2, toks := s.toks + (tupleKind (mixKind X.prog X.w)).draws q.1 } := by
      have := d_write (t' := s.toks + (tupleKind (mixKind X.prog X.w)).draws q.1) (ob := .dT (putK acc q.1 q.2)) I1 (by rw [upd_same]; exact True.intro) hs ⟨oo, g1⟩ ⟨by omega, hm, _, (rel.put q.1 hb' r2).keeps fun c ys ec => ?_, oo, es2, ep2, g1, g2, g3, g4, g5⟩
      · rw [upd_upd] at this; exact this
      · rw [upd_ne (ne_of ec upd_same (fun z => nomatch z))]; exact ec
    refine wpAny_pure ⟨plainId_quiet PySem.F.plain_upd_loop _, ?_⟩
    have := ih (pre ++ [.ref t]) (putK acc q.1 q.2) _ (by rw [List.append_assoc]; exact hl) (by omega) I2 (by rw [List.length_append]; exact st'.at fun o e => (hs.2 it hpi).trans e) hf hR (n + 1)
    exact this
/-- dict(l), l a list of pairs -/
def rDictOf : List V → Hp → VK → Prop := fun vs H Q => ∃ l xs ps, vs = [.ref l] ∧ H l = some (.lst xs) ∧ xs.length < sizeLine ∧ PrsAt H xs ps ∧ ∀ p, H p = none → Q (.ref p) (upd H p (.dT (mergeT [] ps)))
theorem call_dictOf (hc : X.calm = true) (hu : X.A.units + 2 < cLine) : CallR X (.type "dict") rDictOf := by
  intro pins s σ H vs us Q I r h
  obtain ⟨l, xs, ps, rfl, hl, hz, hp, q⟩ := h
  obtain ⟨u, rfl, rx⟩ := vals1 r
  cases rx
  have hn : H s.heap.objs.size = none := I.hok.fresh (Nat.le_refl _)
  refine callType_codes (Q₁ := fun obj s₁ => obj = .ref s.heap.objs.size ∧ s₁ = { s with heap := s.heap.push { cls := .type "dict", data := .dict #[] } }) PySem.F.kt_called_dict (PySem.F.kt_typeCall_dict_1 _) PySem.F.entry_dict_init (kt_code_dict_new _ ⟨rfl, rfl⟩) ?_
  rintro obj s₁ ⟨rfl, rfl⟩
  have I1 := I.laid (a := s.heap.objs.size) (o := .dT []) (t' := s.toks) (h' := s.heap.push { cls := .type "dict", data := .dict #[] }) (fun _ _ q => Heap.get?_push_of_some _ q) (Nat.le_refl _) (dt_empty s.heap I.big)
  obtain ⟨z, its, c, rv, e⟩ := (show ObjOk X.prog X.w _ s.heap l (.lst xs) from I.hok l _ hl)
  have e' := Heap.get?_push_of_some { cls := .type "dict", data := .dict #[] } e
  have hT : Shared.TypeIs { s with heap := s.heap.push { cls := .type "dict", data := .dict #[] } } (.ref s.heap.objs.size) "dict" := ⟨_, Heap.get?_push_size _ rfl, rfl⟩
  refine ⟨hT, PySem.F.args_dict_init_2 _ _, ?_⟩
  unfold Builtin.«dict.__init__»
  refine wpAny_bind ?_
  unfold Builtin.Dict.selfAndRest
  refine wpAny_bind (wpAny_notOrdered_dict hT ?_)
  show wpAny _ _ (pure (s.heap.objs.size, [Value.ref l])) _ _ _
  refine wpAny_pure ?_
  show wpAny _ _ (Builtin.Dict.updateFrom "dict.__init__" s.heap.objs.size (.ref l) [] .none) _ _ _
  unfold Builtin.Dict.updateFrom
  refine wpAny_bind (wpAny_typeOf (T := "list") ⟨_, e', rfl⟩ ?_)
  rw [if_pos (by decide)]
  refine wpAny_bind (keys_miss e' rfl rfl rfl (I.ok.hd hc) fun h1 tk k1 => ?_)
  rw [if_pos (show (none : Option Value).isNone = true from rfl)]
  have I2 := I1.kept (t' := tk) k1
  refine wpAny_bind (wpAny_rule (wpAny_bind (wpAny_pyIter_list (s := { s with heap := h1, toks := tk }) ⟨_, k1 _ _ e', rfl, c, rfl⟩ ?_)))
  have I3 := I2.kept (t' := tk) (h' := h1.push { cls := .type "list_iterator", data := .fields #[.ref l, .int 0 0] }) fun b o e => Heap.get?_push_of_some _ e
  obtain ⟨f0, fr⟩ := I2.fpOk (Nat.le_refl h1.objs.size) (I2.hok.fresh (Nat.le_refl _))
  have hne : h1.objs.size ≠ s.heap.objs.size := fun z => by rw [z, upd_same] at f0; cases f0
  refine wpAny_pure ⟨plainId_quiet PySem.F.plain_upd_loop _, upd_loop (A := X.A.in1) (X := X) (pins := pins) (σ := σ) (l := l) (H := H) hu (I.ok.hd hc) hn hne xs ps [] [] _ hp hl (by rw [List.length_nil]; omega) I3 ⟨_, Heap.get?_push_size _ rfl, rfl, rfl⟩ ⟨(upd_ne hne).symm.trans f0, fr⟩ (fun s' I' => ⟨rfl, .ref _, _, I', rfl, q _ hn⟩) 0⟩
end
end L2

namespace L2
open PySem PySem.Spec PyProof.Rows Ord
/-! ### any, of a list of truths -/
end L2

namespace L2
open PySem PySem.Spec PyProof.Rows Ord
section
variable {prog : Program} {w : World} {A : Around} {E : Value → Shared → Prop} {s : Shared}
end
section
variable {X : Cx}
end
end L2

/-! The mathematics of a tree of ways: what stands behind each beginning of a way, and who hides a way first. -/
namespace TreeM
variable {α : Type} [DecidableEq α]
section
variable (bet : α → α → Bool)
end
variable {bet : α → α → Bool}
end TreeM

namespace L2
open PySem PySem.Spec PyProof.Rows Ord TreeM
theorem hu2_of {A : Around} {k : Nat} (hr : Room k A) : A.units + 2 < cLine := Nat.lt_of_le_of_lt (Nat.add_le_add_left (by decide : 2 ≤ 64) _) hr.units
/-! ### the tree of ways in the heap -/
end L2
namespace L2
open PySem PySem.Spec PyProof.Rows Ord TreeM
/-! ### the order as a dict -/
abbrev keyP (p : Str × Str) : List Key := [.inr p.1, .inr p.2]
theorem PrsAt.tups {H H' : Hp} (e : ∀ b xs, H b = some (.tup xs) → H' b = some (.tup xs)) : ∀ {xs : List V} {ps : List (List Key × V)}, PrsAt H xs ps → PrsAt H' xs ps := fun h =>
  Paired.mapP h fun _ _ ⟨t, b, h1, h2, h3⟩ => ⟨t, b, h1, e _ _ h2, e _ _ h3⟩
theorem merge_some {k : List Key} : ∀ {ps acc : List (List Key × V)}, (valV (mergeT acc ps) k).isSome = true ↔ (valV acc k).isSome = true ∨ k ∈ ps.map (·.1)
  | [], acc => by simp [mergeT]
  | p :: ps, acc => by
    show (valV (mergeT (putK acc p.1 p.2) ps) k).isSome = true ↔ _
    rw [merge_some, valV_put, List.map_cons, List.mem_cons]
    by_cases h : k = p.1
    · rw [if_pos h]; simp [h]
    · rw [if_neg h]; simp [h]
/-- the dict of the order -/
def BetD (H : Hp) (p : Addr) (ord : List (Str × Str)) : Prop := ∃ kvs, H p = some (.dT kvs) ∧ ∀ a b, (valV kvs (keyP (a, b))).isSome = dec ((a, b) ∈ ord)
theorem bet_dict {ord : List (Str × Str)} (a b : Str) : (valV (mergeT [] (ord.map fun p => (keyP p, V.bl true))) (keyP (a, b))).isSome = dec ((a, b) ∈ ord) := by
  have : (valV (mergeT [] (ord.map fun p => (keyP p, V.bl true))) (keyP (a, b))).isSome = true ↔ (a, b) ∈ ord := by
    rw [merge_some]
    constructor
    · rintro (h | h)
      · simp [valV] at h
      · rw [List.map_map] at h
        obtain ⟨q, hq, e⟩ := List.mem_map.mp h
        obtain ⟨q1, q2⟩ := q
        simp at e
        rw [← e.1, ← e.2]; exact hq
    · intro h
      refine .inr ?_
      rw [List.map_map]
      exact List.mem_map.mpr ⟨_, h, rfl⟩
  by_cases h : (a, b) ∈ ord
  · rw [dec_true h]; exact this.mpr h
  · rw [dec_false h]
    cases e : (valV (mergeT [] (ord.map fun p => (keyP p, V.bl true))) (keyP (a, b))).isSome with
    | false => rfl
    | true => exact absurd (this.mp e) h
/-! ### ways with their numbers -/
end L2
namespace L2
open PySem PySem.Spec PyProof.Rows Ord TreeM
end L2

namespace L2
open PySem PySem.Spec PyProof.Rows

/-! ### a def within a def: the code's table, the new function, its closure's cell -/
/-- what making a def within the def whose code is c wants of the base: the code and its table's place, the built-ins' module -/
structure Nst (mg : Str → Option Value) (base : Heap) (c T : Addr) : Prop where
  hd : PySem.W.CodeHd base c T
  bm : ∃ bm ob, mg "__builtins__" = some (.ref bm) ∧ bm ≠ builtinsNs ∧ bm ≠ mainGlobals ∧ base.get? bm = some ob ∧ ob.cls = .type "module" ∧ ob.dict = some builtinsNs ∧ ob.data = .plain
/-- a cell that holds a reference; a code object by its name; a function that was made in a def -/
def CellO (c p : Addr) : HO := .ext fun h => h.IsCell c (some (.ref p))
def CodeO (c : Addr) (q : Str) : HO := .ext fun h => h.CodeRec (.ref c) q
def FnO (f : Addr) (st : Stmt) (qual : Str) (name : Str) (clos : List (Str × Addr)) (c' : Addr) : HO :=
  .ext fun h => ∃ doc pm ctv, h.get? f = some (PySem.W.fnMade name qual (defArgs st) (defBody st) (defScope st) clos doc pm c' ctv)
theorem cellO_stay {c p : Addr} (h1 h2 : Heap) (x : h1.IsCell c (some (.ref p))) (k : ∀ o, h1.get? c = some o → h2.get? c = some o) : h2.IsCell c (some (.ref p)) :=
  let ⟨o, e, d⟩ := x; ⟨o, k o e, d⟩
theorem codeO_stay {c : Addr} {q : Str} (h1 h2 : Heap) (x : h1.CodeRec (.ref c) q) (k : ∀ o, h1.get? c = some o → h2.get? c = some o) : h2.CodeRec (.ref c) q := by
  obtain ⟨c2, oc, vs, t, e, a, b⟩ := x
  cases e
  exact ⟨c, oc, vs, t, rfl, k _ a, b⟩
theorem fnO_stay {f c' : Addr} {st : Stmt} {qual name : Str} {clos : List (Str × Addr)} (h1 h2 : Heap) (x : ∃ doc pm ctv, h1.get? f = some (PySem.W.fnMade name qual (defArgs st) (defBody st) (defScope st) clos doc pm c' ctv)) (k : ∀ o, h1.get? f = some o → h2.get? f = some o) :
    ∃ doc pm ctv, h2.get? f = some (PySem.W.fnMade name qual (defArgs st) (defBody st) (defScope st) clos doc pm c' ctv) :=
  let ⟨d, p, c, e⟩ := x; ⟨d, p, c, k _ e⟩

section
variable {P : Program} {w : World} {H : Hp} {h h' : Heap} {a : Addr} {o : HO}
/-- an object that stands already is tracked from now on -/
theorem HOk.track (x : HOk P w H h) (hn : H a = none) (new : ObjOk P w (upd H a o) h a o) : HOk P w (upd H a o) h := fun b u e => by
  by_cases hb : b = a
  · subst hb; rw [upd_same] at e; cases e; exact new
  · rw [upd_ne hb] at e
    exact (x b u e).stay (fun c v _ q => q) (fun c q => by rw [upd_ne (ne_of_none q hn)]; exact q) fun c xs q => by rw [upd_ne (ne_of_none q hn)]; exact q
/-- what is known of one object is forgotten -/
def drop1 (H : Hp) (a : Addr) : Hp := fun b => if b = a then none else H b
theorem drop1_same : drop1 H a a = none := if_pos rfl
theorem drop1_ne {b : Addr} (hb : b ≠ a) : drop1 H a b = H b := if_neg hb
theorem drop1_none {b : Addr} (h : H b = none) : drop1 H a b = none := by
  unfold drop1; split
  · rfl
  · exact h
theorem HOk.drop (x : HOk P w H h) {φ : Heap → Prop} (ha : H a = some (.ext φ)) : HOk P w (drop1 H a) h := fun b u e => by
  by_cases hb : b = a
  · subst hb; rw [drop1_same] at e; cases e
  · rw [drop1_ne hb] at e
    exact (x b u e).stay (fun c v _ q => q) (fun c q => by rw [drop1_ne (ne_of q ha (fun z => nomatch z))]; exact q) fun c xs q => by rw [drop1_ne (ne_of q ha (fun z => nomatch z))]; exact q
end

section
variable {X : Cx}
/-- what a def within a def leaves: a new function; the first time its code and the table's entry too -/
def tDef (T : Addr) (i : Nat) (st : Stmt) (pos : Pos) (name qual : Str) (clos : List (Str × Addr)) : TS := fun D σ H =>
  (H T = some (.tbl #[]) ∧ ∀ f c', H f = none → H c' = none → c' ≠ f →
    D.nx (σ.set i (some (.ref f))) (upd (upd (upd H T (.tbl #[rawInt pos.line, rawInt pos.col, .ref c'])) c' (CodeO c' qual)) f (FnO f st qual name clos c'))) ∨
  (∃ c', H T = some (.tbl #[rawInt pos.line, rawInt pos.col, .ref c']) ∧ ∀ f, H f = none → D.nx (σ.set i (some (.ref f))) (upd H f (FnO f st qual name clos c')))
theorem Inv.bats {pins : List (Addr × Obj)} {σ : St} {H : Hp} {s : Shared} {c T : Addr} {ps : Array Value} (I : Inv X pins σ H s) (NS : Nst X.mg X.base c T) (hT : H T = some (.tbl ps)) : s.heap.BuiltinsAt X.mg T := by
  obtain ⟨bm, ob, b1, b2, b3, b4, b5, b6, b7⟩ := NS.bm
  refine ⟨bm, ob, b1, b2, b3, ?_, I.bk _ _ b4, b5, b6, b7⟩
  intro z
  have := (I.bs _ _ b4).2
  rw [z, hT] at this; cases this
theorem ps_def {c T : Addr} {i : Nat} {name : Str} {params : Arguments} {body : List Stmt} {scope : Scope} {pos : Pos} {clos : List (Str × Addr)} {qual : Str} {st : Stmt} (est : st = .FunctionDef name params body [] none [] scope none name pos)
    (NS : Nst X.mg X.base c T) (hN : X.N.Nodup) (hi : X.N[i]? = some name) (hx : X.env.scope.names.lookup name = some .local) (hcode : X.env.code = .ref c) (hcl : closureFor scope X.env = pure clos)
    (hq : qualnameIn X.env name name = qual) (hd0 : params.defaults = []) (hk0 : params.kw_defaults = []) (ha : annTrees params none X.env = []) : PS X st (tDef T i st pos name qual clos) := by
  subst est
  intro pins s σ H D I h
  refine PySem.W.nestDef_K hd0 hk0 ha ?_
  rw [hq]
  have gl : s.heap.Ns mainGlobals X.mg := I.mod.glob.keeps I.bk
  have CH : PySem.W.CodeHd s.heap c T := NS.hd.keeps I.bk
  rcases h with ⟨hT, k⟩ | ⟨c', hT, k⟩
  · have eT : s.heap.get? T = some (PySem.W.tabObj #[]) := I.hok T _ hT
    have gT : mainGlobals ≠ T := fun z => by
      obtain ⟨o, es, ep, e, d, _⟩ := gl
      rw [z, eT] at e; cases e; cases d
    refine PySem.W.makeFunction_K hcl I.ok.glob gl hcode CH eT trivial rfl gT (I.bats NS hT) fun c' ctv doc h' tk hx' hge hlt hrec htb => ?_
    have nT : ∀ b, H b = none → b ≠ T := fun b hb z => by rw [z, hT] at hb; cases hb
    have hcT : c' ≠ T := fun z => Nat.lt_irrefl _ (Nat.lt_of_lt_of_le (Heap.lt_size eT) (z ▸ hge))
    have hfT : h'.objs.size ≠ T := fun z => Nat.lt_irrefl _ (Nat.lt_of_lt_of_le (Heap.lt_size eT) (z ▸ Nat.le_trans hge (Nat.le_of_lt hlt)))
    have hcn : H c' = none := I.hok.fresh hge
    have hfn : H h'.objs.size = none := I.hok.fresh (Nat.le_trans hge (Nat.le_of_lt hlt))
    have hcf : c' ≠ h'.objs.size := Nat.ne_of_lt hlt
    have old : ∀ b u, H b ≠ some (.tbl #[]) ∨ b ≠ T → s.heap.get? b = some u → (h'.push (PySem.W.fnMade name qual params body scope clos doc ((X.mg "__name__").getD .none) c' ctv)).get? b = some u := fun b u hb e =>
      Heap.get?_push_of_some _ (hx' b u (fun z => by rcases hb with hb | hb; exact hb (z ▸ hT); exact hb z) e)
    have at3 : ∀ b u, b ≠ T → H b = some u → (upd (upd (upd H T (.tbl #[rawInt pos.line, rawInt pos.col, .ref c'])) c' (CodeO c' qual)) h'.objs.size (FnO h'.objs.size (.FunctionDef name params body [] none [] scope none name pos) qual name clos c')) b = some u := fun b u hb e => by
      rw [upd_ne (ne_of_none e hfn), upd_ne (ne_of_none e hcn), upd_ne hb]; exact e
    have hT3 : (upd (upd (upd H T (.tbl #[rawInt pos.line, rawInt pos.col, .ref c'])) c' (CodeO c' qual)) h'.objs.size (FnO h'.objs.size (.FunctionDef name params body [] none [] scope none name pos) qual name clos c')) T = some (.tbl #[rawInt pos.line, rawInt pos.col, .ref c']) := by
      rw [upd_ne (Ne.symm hfT), upd_ne (Ne.symm hcT), upd_same]
    refine store_ok (H := upd (upd (upd H T (.tbl #[rawInt pos.line, rawInt pos.col, .ref c'])) c' (CodeO c' qual)) h'.objs.size (FnO h'.objs.size (.FunctionDef name params body [] none [] scope none name pos) qual name clos c')) (v := .ref h'.objs.size) ?_ hN hi (.inl hx) rfl (fun s2 I2 => ⟨_, _, I2, k _ c' hfn hcn hcf⟩) (.inr hx)
    refine I.step (g' := s.gens) (d' := s.drawn) (ch := []) (fun _ z => nomatch z) (fun b o _ _ _ e n => old b o (.inr (nT b n)) e) (fun b o _ _ _ e n => ⟨o.slots, old b o (.inr (nT b n)) e⟩) (fun b o _ e n => ?_) (fun b o _ e => ?_) (fun b xs e => ?_) (fun b o u e => ?_) (fun b ps e => ?_) (fun m hm => ?_) (fun b u e => ?_) I.bare
    · have hb := Nat.lt_of_lt_of_le (Heap.lt_size e) hge
      rw [upd_ne (Nat.ne_of_lt (Nat.lt_trans hb hlt)), upd_ne (Nat.ne_of_lt hb), upd_ne (nT b n)]; exact n
    · by_cases hb : b = T
      · exact ⟨_, by rw [hb]; exact Heap.get?_push_of_some _ htb⟩
      · exact ⟨o, old b o (.inr hb) e⟩
    · exact at3 b _ (ne_of e hT (fun z => nomatch z)) e
    · exact at3 b _ (ne_of e hT (fun z => nomatch z)) e
    · by_cases hb : b = T
      · subst hb
        rw [hT] at e; cases e
        exact ⟨#[rawInt pos.line, rawInt pos.col, .ref c'], by rw [hT3]; simp⟩
      · exact ⟨#[], by rw [at3 b _ hb e]; simp⟩
    · obtain ⟨o, es, ep, ho, r⟩ := hm
      exact ⟨o, es, ep, old _ o (.inr (nT _ I.free)) ho, r⟩
    · by_cases hf : b = h'.objs.size
      · subst hf; rw [upd_same] at e; cases e
        exact ⟨⟨doc, _, ctv, Heap.get?_push_size _ rfl⟩, ⟨_, Heap.get?_push_size _ rfl⟩, fnO_stay⟩
      · rw [upd_ne hf] at e
        by_cases hc : b = c'
        · subst hc; rw [upd_same] at e; cases e
          have q : (h'.push (PySem.W.fnMade name qual params body scope clos doc ((X.mg "__name__").getD .none) b ctv)).CodeRec (.ref b) qual := codeO_stay _ _ hrec fun o z => Heap.get?_push_of_some _ z
          refine ⟨q, ?_, codeO_stay⟩
          obtain ⟨c2, oc, _, _, z, a, _⟩ := q
          cases z
          exact ⟨oc, a⟩
        · rw [upd_ne hc] at e
          by_cases hb : b = T
          · subst hb; rw [upd_same] at e; cases e
            show Heap.get? _ _ = _
            exact Heap.get?_push_of_some _ htb
          · rw [upd_ne hb] at e
            refine (I.hok b u e).stay (fun d v hd q => ?_) (fun d q => at3 d _ (ne_of q hT (fun z => nomatch z)) q) fun d xs q => at3 d _ (ne_of q hT (fun z => nomatch z)) q
            refine old d v (.inr ?_) q
            rcases hd with rfl | hd
            · exact hb
            · exact ne_of hd hT (fun z => nomatch z)
  · have eT : s.heap.get? T = some (PySem.W.tabObj #[rawInt pos.line, rawInt pos.col, .ref c']) := I.hok T _ hT
    refine PySem.W.makeFunction_hit (cv := .ref c') hcl I.ok.glob gl hcode CH eT (by simp [TriplesOk, rawInt]) (by simp [codeAmong, rawInt]) (I.bats NS hT) fun ctv doc h' tk hk hsz => ?_
    have hfn : H h'.objs.size = none := I.hok.fresh hsz
    refine store_ok (H := upd H h'.objs.size (FnO h'.objs.size (.FunctionDef name params body [] none [] scope none name pos) qual name clos c')) (v := .ref h'.objs.size) ?_ hN hi (.inl hx) rfl (fun s2 I2 => ⟨_, _, I2, k _ hfn⟩) (.inr hx)
    exact I.laid (fun b u e => Heap.get?_push_of_some _ (hk b u e)) hsz ⟨⟨doc, _, ctv, Heap.get?_push_size _ rfl⟩, ⟨_, Heap.get?_push_size _ rfl⟩, fnO_stay⟩
end
end L2

namespace L2
open PySem PySem.Spec PyProof.Rows

/-! ### a call of a function with one captured name -/
section
variable {fs ex : List Addr} {H H' : Hp} {h h' : Heap} {c : Addr} {o : HO} {φ : Heap → Prop}
theorem Un.retrack (u : Un fs ex (drop1 H c) H' h h') (hc : H c = some (.ext φ)) : Un fs ex H (upd H' c o) h h' where
  keep := fun b ob q n hb hx => u.keep b ob q (drop1_none n) hb hx
  slot := fun b ob q n hb hx => u.slot b ob q (drop1_none n) hb hx
  free := fun b ob q n hx => by rw [upd_ne (Ne.symm (ne_of_none hc n))]; exact u.free b ob q (drop1_none n) hx
  there := u.there
  tups := fun b xs q => by
    have nb : b ≠ c := ne_of q hc (fun z => nomatch z)
    rw [upd_ne nb]; exact u.tups b xs (by rw [drop1_ne nb]; exact q)
  frzs := fun b ob v q => by
    have nb : b ≠ c := ne_of q hc (fun z => nomatch z)
    rw [upd_ne nb]; exact u.frzs b ob v (by rw [drop1_ne nb]; exact q)
  tbls := fun b ps q => by
    have nb : b ≠ c := ne_of q hc (fun z => nomatch z)
    rw [upd_ne nb]; exact u.tbls b ps (by rw [drop1_ne nb]; exact q)
theorem Un.track (u : Un fs ex H H' h h') (hg : h.objs.size ≤ c) (hn : H' c = none) : Un fs ex H (upd H' c o) h h' where
  keep := u.keep
  slot := u.slot
  free := fun b ob q n hx => by rw [upd_ne (Nat.ne_of_lt (Nat.lt_of_lt_of_le (Heap.lt_size q) hg))]; exact u.free b ob q n hx
  there := u.there
  tups := fun b xs q => by have e := u.tups b xs q; rw [upd_ne (ne_of_none e hn)]; exact e
  frzs := fun b ob v q => by have e := u.frzs b ob v q; rw [upd_ne (ne_of_none e hn)]; exact e
  tbls := fun b ps q => by obtain ⟨m, e⟩ := u.tbls b ps q; exact ⟨m, by rw [upd_ne (ne_of_none e hn)]; exact e⟩
end

def cxClo (X : Cx) (N : List Str) (qual : Str) (scope : Scope) (f c' : Addr) (clos : List (Str × Addr)) (s : Shared) (H : Hp) : Cx where
  prog := X.prog
  w := X.w
  K := X.K
  mg := X.mg
  base := X.base
  A := X.A.deeper (PySem.W.envX qual scope s.heap.objs.size f (.ref c') clos)
  N := N
  s₀ := s
  H₀ := H
  env := PySem.W.envX qual scope s.heap.objs.size f (.ref c') clos
  outer := X.stack
  stack := PySem.W.envX qual scope s.heap.objs.size f (.ref c') clos :: X.stack
  ex := []
  fn := fun _ => false
  calm := true
  pn := []
  xe := fun _ _ => False

/-- names of such a function: the parameters, then the captured one -/
structure CloScope (ps : List Str) (y : Str) (sc : Scope) : Prop where
  kind : sc.kind = .function
  co : sc.isCoroutine = false
  gen : sc.isGenerator = false
  nd : (ps ++ [y]).Nodup
  nocell : ∀ x ∈ sc.names, x.2 ≠ .cell
  par : ∀ x ∈ ps, sc.names.lookup x = some .local
  cap : sc.names.lookup y = some .free
  one : ∀ x ∈ sc.names, x.2 = .free → x.1 = y

theorem rev_zip_none : ∀ {ps : List Str} {us : List Value} {x : Str}, x ∉ ps → (ps.zip us).reverse.lookup x = none
  | [], _, _, _ => rfl
  | _ :: _, [], _, _ => rfl
  | p :: ps, w :: us, x, h => by
    have e : ((p :: ps).zip (w :: us)).reverse = (ps.zip us).reverse ++ [(p, w)] := by simp
    rw [e, List.lookup_append, rev_zip_none fun m => h (List.mem_cons_of_mem _ m)]
    have hb : (x == p) = false := beq_eq_false_iff_ne.mpr fun z => h (z ▸ List.mem_cons_self)
    simp [List.lookup, hb]
theorem rev_zip_get : ∀ {ps : List Str} {us : List Value} {i : Nat} {x : Str} {u : Value}, ps.Nodup → ps[i]? = some x → us[i]? = some u → (ps.zip us).reverse.lookup x = some u
  | [], _, _, _, _, _, h, _ => by simp at h
  | _ :: _, [], _, _, _, _, _, h => by simp at h
  | p :: ps, w :: us, 0, x, u, nd, h1, h2 => by
    simp at h1 h2
    subst h1; subst h2
    have e : ((p :: ps).zip (w :: us)).reverse = (ps.zip us).reverse ++ [(p, w)] := by simp
    rw [e, List.lookup_append, rev_zip_none (List.nodup_cons.mp nd).1]
    simp [List.lookup]
  | p :: ps, w :: us, i + 1, x, u, nd, h1, h2 => by
    have e : ((p :: ps).zip (w :: us)).reverse = (ps.zip us).reverse ++ [(p, w)] := by simp
    rw [e, List.lookup_append, rev_zip_get (List.nodup_cons.mp nd).2 (by simpa using h1) (by simpa using h2)]
    rfl

section
variable {X : Cx} {pins : List (Addr × Obj)} {σ : St} {H : Hp} {s : Shared}
theorem inv_clo {ps : List Str} {y qual : Str} {sc : Scope} {f c c' p : Addr} {us : List Value} {vs : List V} {h1 : Heap} {tk : Nat} (S : CloScope ps y sc) (I : Inv X pins σ H s) (hd : X.A.handled = none) (hc : H c = some (CellO c p))
    (r : Vals vs us) (hl : vs.length = ps.length) (hns : h1.Ns s.heap.objs.size fun x => (ps.zip us).reverse.lookup x) (hk : ∀ b o, s.heap.get? b = some o → h1.get? b = some o) :
    Inv (cxClo X (ps ++ [y]) qual sc f c' [(y, c)] s (drop1 H c)) [] (vs.map some ++ [some (.ref p)]) (drop1 H c) { s with heap := h1, toks := tk } := by
  have noA : ∀ b : Addr, b ∉ (cxClo X (ps ++ [y]) qual sc f c' [(y, c)] s (drop1 H c)).ex := fun b z => absurd (show b ∈ ([] : List Addr) from z) (by simp)
  have only : ∀ x d, ([(y, c)] : List (Str × Addr)).lookup x = some d → x = y ∧ d = c := fun x d e => by
    have := PySem.mem_of_lookup e
    simp at this
    exact this
  have self : ([(y, c)] : List (Str × Addr)).lookup y = some c := by simp
  obtain ⟨hcell, _, _⟩ := (show ObjOk X.prog X.w H s.heap c (CellO c p) from I.hok c _ hc)
  have hcell1 : h1.IsCell c (some (.ref p)) := cellO_stay _ _ hcell fun o e => hk _ _ e
  have ndP : ps.Nodup := S.nd.sublist (List.sublist_append_left _ _)
  refine ⟨⟨I.ok.mod, S.kind, rfl, rfl, Nat.le_refl _, fun x z d e1 e2 => (only x d e1).1.trans (only z d e2).1.symm, fun x hx => ?_, fun _ _ z => (nomatch z), fun _ => hd, Around.frames_deeper I.ok.frames, .inr ⟨rfl, rfl⟩, fun b z => absurd z (noA b), fun b o e => ⟨I.bk b o e, drop1_none (I.bs b o e).2⟩, Nat.le_trans I.ok.bsz I.sz, fun b _ _ => noA b, fun b z => absurd z (noA b), I.stack, fun b hb => drop1_none (I.stkFree b hb)⟩,
    rfl, I.bare, Un.kept hk, ⟨_, hns, fun i x v h1' h2 h3 => ?_⟩, fun x d e => ?_, I.hok.drop hc |>.fresh (Nat.le_refl _), fun x d e => ?_, fun p hp => absurd (show p ∈ ([] : List (Addr × Obj)) from hp) (by simp), (I.hok.drop hc).kept hk, ?_⟩
  · have hx : sc.names.lookup x = some .cell ∨ sc.names.lookup x = some .free := hx
    rcases hx with hx | hx
    · exact absurd rfl (S.nocell _ (PySem.mem_of_lookup hx))
    · have : x = y := S.one _ (PySem.mem_of_lookup hx) rfl
      subst this
      exact ⟨c, self⟩
  · have h1' : (ps ++ [y])[i]? = some x := h1'
    by_cases hi : i < ps.length
    · have hx : ps[i]? = some x := by rw [← h1', List.getElem?_append_left hi]
      have hv : vs[i]? = some v := by
        rw [List.getElem?_append_left (by rw [List.length_map]; omega), List.getElem?_map] at h2
        cases e : vs[i]? with
        | none => rw [e] at h2; cases h2
        | some a => rw [e] at h2; cases h2; rfl
      obtain ⟨u, hu, rv⟩ := r.get hv
      exact ⟨u, rv, .inl ⟨S.par x (List.mem_of_getElem? hx), rev_zip_get ndP hx hu⟩⟩
    · rw [List.getElem?_append_right (by omega)] at h1'
      rw [List.getElem?_append_right (by rw [List.length_map]; omega), List.length_map, hl] at h2
      cases hj : i - ps.length with
      | zero =>
        rw [hj] at h1' h2
        cases h1'
        cases h2
        exact ⟨.ref p, rfl, .inr ⟨.inr S.cap, c, self, hcell1⟩⟩
      | succ j => rw [hj] at h1'; simp at h1'
  · obtain ⟨rfl, rfl⟩ := only x d e
    exact ⟨_, hcell1⟩
  · obtain ⟨rfl, rfl⟩ := only x d e
    exact drop1_same
  · show _ = (ps ++ [y]).length
    rw [List.length_append, List.length_append, List.length_map, hl]; rfl

/-- the name that stands in the i-th slot is a function that captured y: the arguments, then its body's one expression -/
def tClo (i n : Nat) (st : Stmt) (qual name y : Str) (te : TE) (t : TA) : TE := fun σ H Q => tVar i σ H fun x H1 => ∃ f c c', x = .ref f ∧ H1 f = some (FnO f st qual name [(y, c)] c') ∧
  t σ H1 fun vs H2 => ∃ p, H2 f = some (FnO f st qual name [(y, c)] c') ∧ H2 c' = some (CodeO c' qual) ∧ H2 c = some (CellO c p) ∧ vs.length = n ∧ te (vs.map some ++ [some (.ref p)]) (drop1 H2 c) fun v H' => H' c = none → Q v (upd H' c (CellO c p))
theorem pe_clo {i : Nat} {x : Str} {st : Stmt} {qual name y : Str} {ps : List Str} {e b : Expr} {es : List Expr} {te : TE} {t : TA} {p pos bpos : Pos} {n k : Nat} (hN : X.N[i]? = some x) (hv : Vis X.env.scope x) (S : CloScope ps y (defScope st)) (hb : defBody st = [.Return (some b) bpos]) (hr : Room k X.A) (hlen : ps.length = n)
    (hbind : ∀ (clos : List (Str × Addr)) (c' : Addr) (doc pm ctv : Value) (us : List Value), us.length = ps.length → bindArgs (PySem.W.fnX name qual (defArgs st) (defBody st) (defScope st) clos .none .none doc pm none (.ref c') ctv) ⟨us, []⟩ = pure (ps.zip us))
    (he : ∀ f c c' s H, PE (cxClo X (ps ++ [y]) qual (defScope st) f c' [(y, c)] s H) b te) (ha : PA X (e :: es) t)
    (hd : (x == ("__debug__" : Str)) = false := by decide) (hcd : (x == ("__classdict__" : Str)) = false := by decide) (hst : starEach (e :: es) X.env = (false, eval e X.env) :: starEach es X.env := by rfl) (hpl : (backTo pos (starEach es X.env)).any (·.1) = false := by rfl) :
    PE X (.Call (.Name x p) (e :: es) [] pos) (tClo i n st qual name y te t) := by
  intro pins s σ H Q I h
  refine wpAny_Call_Name_kw (thn (pe_var hN hv hd hcd pins s σ H _ I h) fun u s0 ⟨v, H0, I0, rv, f, c, c', ev, ef, q0⟩ => ?_)
  subst ev
  obtain rfl : u = Value.ref f := rv
  have fnAt : ∀ {σ : St} {H : Hp} {s : Shared}, Inv X pins σ H s → H f = some (FnO f st qual name [(y, c)] c') → PySem.W.FnAt f s.heap := fun J z => by
    obtain ⟨⟨doc, pm, ctv, e⟩, _⟩ := (show ObjOk _ _ _ _ f (FnO f st qual name [(y, c)] c') from J.hok f _ z)
    exact ⟨_, _, _, _, e⟩
  refine PySem.W.callWith_F (fnAt I0 ef) (thn (ha pos pins s0 σ H0 _ I0 q0) fun us s1 ⟨vs, H1, I1, r, p, ef1, ec'1, ec1, hvl, q⟩ => ⟨fnAt I1 ef1, ?_⟩) hst hpl
  have hvp : vs.length = ps.length := hvl.trans hlen.symm
  have hup : us.length = ps.length := r.length.symm.trans hvp
  obtain ⟨⟨doc, pm, ctv, eo⟩, _⟩ := (show ObjOk _ _ _ _ f (FnO f st qual name [(y, c)] c') from I1.hok f _ ef1)
  obtain ⟨hrec, _, _⟩ := (show ObjOk _ _ _ _ c' (CodeO c' qual) from I1.hok c' _ ec'1)
  refine wpAny_call (codeAny_mono (R := fun r s' => ∃ u, r = .ok (.ret u) ∧ CE X.stack X.prog X.w H1 s1 Q u s') ?_ fun r s' ⟨u, e, hq⟩ => ?_)
  · refine codeAny_call_def (fd := PySem.W.fnX name qual (defArgs st) (defBody st) (defScope st) [(y, c)] .none .none doc pm none (.ref c') ctv) (body := defBody st) (binds := ps.zip us) hr.depth eo rfl I1.nolimit hrec rfl (.of_eq (hbind _ _ _ _ _ us hup)) S.nocell (fun z hz => S.par z.1 (List.of_mem_zip (a := z.1) (b := z.2) hz).1) (fun h₀ hns hk => ?_) S.co S.gen S.kind
    have J := inv_clo (qual := qual) (f := f) (c' := c') (tk := s1.toks + (ps.zip us).length) S I1 hr.hd ec1 r hvp hns hk
    rw [hb]
    refine wpAny_mono (wpAny_execs_cons (wpAny_Return_some (thn (he f c c' s1 (drop1 H1 c) [] _ _ _ _ J q) fun u s2 ⟨v, H2, J2, r2, q2⟩ => ?_))) (fun fl s2 hs => hs) fun e s2 hs => (hs : False).elim
    refine ⟨u, rfl, v, upd H2 c (CellO c p), J2.os, J2.bare, ?_, ?_, r2, ?_⟩
    · exact Un.retrack J2.base ec1
    · have hn : H2 c = none := J2.freeC y c (by show ([(y, c)] : List (Str × Addr)).lookup y = some c; simp)
      obtain ⟨m, _, hlk⟩ := J2.loc
      obtain ⟨u2, ru, lk⟩ := hlk ps.length y (.ref p) (by show (ps ++ [y])[ps.length]? = some y; simp) (by rw [← hvp]; simp) (.inr (.inr S.cap))
      obtain rfl : u2 = Value.ref p := ru
      have hce : s2.heap.IsCell c (some (.ref p)) := by
        rcases lk with ⟨k, _⟩ | ⟨_, d, e1, e2⟩
        · have k : (defScope st).names.lookup y = some .local := k
          rw [S.cap] at k; cases k
        · have e1 : ([(y, c)] : List (Str × Addr)).lookup y = some d := e1
          simp at e1
          subst e1
          exact e2
      refine J2.hok.track hn ⟨hce, ?_, cellO_stay⟩
      obtain ⟨o, e, _⟩ := hce
      exact ⟨o, e⟩
    · exact q2 (J2.freeC y c (by show ([(y, c)] : List (Str × Addr)).lookup y = some c; simp))
  · subst e
    exact I1.after hq
end

/-! ### a def whose end knows its frame -/
theorem fn_ofR {P : Program} {w : World} {K : PySem.W.Frag} {mg : Str → Option Value} {base : Heap} {k : Nat} {f : Addr} {x qual : Str} {st : Stmt} {fd : FuncData} {N ps : List Str} {sp : Sp} (F : Fun K x qual st f fd) (S : FnScope N ps (defScope st)) (len : ∀ vs H Q E, sp vs H Q E → vs.length = ps.length)
    (hbody : ∀ (A : Around) (outer : List Env) (s s1 : Shared) (H : Hp) (vs : List V) (Q : VK) (E : XK), Room k (A.deeper (envOfC qual (defScope st) s.heap.objs.size f fd.code)) → sp vs H Q E → Inv (cxOf CX0 P w K mg base N qual (defScope st) f fd.code A outer s H E).nox [] (start N vs) H s1 →
      wpAny (model P w) (A.deeper (envOfC qual (defScope st) s.heap.objs.size f fd.code)) (execs (defBody st) (envOfC qual (defScope st) s.heap.objs.size f fd.code)) (fun fl s' => ∃ u, fl = .ret u ∧ CE outer P w H s Q u s') (fun _ _ => False) s1) :
    FnOk P w K mg base CX0 (k + 1) f fd ps sp := by
  obtain ⟨oc, od, kV, doc, pm, an, cdv, ct, osl, rfl, lk, hcd⟩ := F.ex
  refine ⟨len, fun A outer s H args us vs Q E hr e0 hb r hsp => ?_⟩
  have hl := len _ _ _ _ hsp
  have KX : K.In s.heap := e0.mod.kin.keeps fun b o e => (e0.bs b o e).1
  have lim : s.heap.NoLimit := e0.mod.nolimit.keeps fun b o e => (e0.bs b o e).1
  have hkind : ∀ y ∈ ps.zip us, (defScope st).names.lookup y.1 = some .local ∨ ((defScope st).names.lookup y.1 = some .cell ∧ ((cellsFrom (s.heap.objs.size + 1) (defScope st).names []).lookup y.1).isSome = true) := fun ⟨n, v⟩ hy => by
    rcases S.par n (List.of_mem_zip hy).1 with q | q
    · exact .inl q
    · exact .inr ⟨q, PySem.W.cellsFrom_some _ _ _ (.inl q)⟩
  refine codeAny_call_function hr.depth (KX _ _ lk) rfl S.co S.gen rfl (PySem.W.codeRec_of KX hcd) (hb _ _ _ _ ?_)
  refine wpAny_newFunctionEnv_cells S.kind hkind fun env he s1 x => ?_
  subst he
  refine ⟨lim.keeps x.toInCall.keep, codeAny_func ?_⟩
  have I : Inv (cxOf CX0 P w K mg base N qual (defScope st) f cdv A outer s H E) [] (start N vs) H s1 := inv_start S hr.hd e0 hl r x
  refine wpAny_mono (hbody A outer s s1 H vs Q E (hr.deeper _) hsp (I.wish _)) (fun fl s' ⟨u, e, hs⟩ => ?_) fun e s' hs => (hs : False).elim
  subst e
  exact hs
/-- two statements and a return -/
theorem psr {X : Cx} {body : List Stmt} {s1 s2 : Stmt} {e : Expr} {pos : Pos} {t1 t2 : TS} {te : TE} (hb : body = [s1, s2, .Return (some e) pos]) (h1 : PS X s1 t1) (h2 : PS X s2 t2) (h3 : PE X e te) {pins : List (Addr × Obj)} {s : Shared} {σ : St} {H : Hp} {R : St → VK} (I : Inv X pins σ H s)
    (h : t1 { nx := fun σ1 H1 => t2 { nx := fun σ2 H2 => te σ2 H2 (R σ2), rt := fun _ _ => False } σ1 H1, rt := fun _ _ => False } σ H) :
    wpAny (model X.prog X.w) X.A (execs body X.env) (fun fl s' => ∃ u v σ' H', fl = .ret u ∧ Inv X pins σ' H' s' ∧ RelV v u ∧ R σ' v H') X.xe s := by
  subst hb
  refine wpAny_execs_cons (thn (h1 pins s σ H _ I h) fun f s1 q => ?_)
  cases f with
  | next =>
    obtain ⟨σ1, H1, I1, q⟩ := q
    refine wpAny_execs_cons (thn (h2 pins s1 σ1 H1 _ I1 q) fun f s2 q => ?_)
    cases f with
    | next =>
      obtain ⟨σ2, H2, I2, q⟩ := q
      exact wpAny_execs_cons (wpAny_Return_some (thn (h3 pins s2 σ2 H2 _ I2 q) fun u s3 ⟨v, H3, I3, r, q3⟩ => ⟨u, v, σ2, H3, rfl, I3, r, q3⟩))
    | ret v => obtain ⟨_, _, _, _, _, q⟩ := q; exact (q : False).elim
    | brk => obtain ⟨_, _, _, q⟩ := q; exact (q : False).elim
    | cont => obtain ⟨_, _, _, q⟩ := q; exact (q : False).elim
  | ret v => obtain ⟨_, _, _, _, _, q⟩ := q; exact (q : False).elim
  | brk => obtain ⟨_, _, _, q⟩ := q; exact (q : False).elim
  | cont => obtain ⟨_, _, _, q⟩ := q; exact (q : False).elim
end L2

namespace L2
open PySem PySem.Spec PyProof.Rows

/-! ### the head, where a def that the law comes to makes a def: the table of its code is tracked from the entry on -/
def tabT (K : PySem.W.Frag) (x : Str) : Addr := match PySem.W.tabIn K x with
  | some q => q.2
  | none => 0
theorem tabT_of {K : PySem.W.Frag} {x : Str} {c T : Addr} (h : PySem.W.tabIn K x = some (c, T)) : PySem.W.tabIn K x = some (c, tabT K x) := by
  unfold tabT; rw [h]
theorem tabIn_of {K : PySem.W.Frag} {x : Str} {f c T : Addr} {oc : Value} {od : Option Addr} {fd : FuncData} {sl : Array (Option Value)} {oc2 : Value} {od2 : Option Addr} {vs : Array Value} {sl2 : Array (Option Value)} (a : PySem.W.nsIn K mainGlobals x = some (some (.ref f))) (l : K.lookup f = some ⟨oc, od, .func fd, sl⟩) (hc : fd.code = .ref c)
    (l2 : K.lookup c = some ⟨oc2, od2, .fields vs, sl2⟩) (hv : (vs[11]? : Option Value) = some (.ref T)) : PySem.W.tabIn K x = some (c, T) := by
  unfold PySem.W.tabIn
  rw [a]
  show (match K.lookup f with
    | some ⟨_, _, .func fd, _⟩ => _
    | _ => none) = _
  rw [l]
  show (match fd.code with
    | .ref c => _
    | _ => none) = _
  rw [hc]
  show (match K.lookup c with
    | some ⟨_, _, .fields vs, _⟩ => _
    | _ => none) = _
  rw [l2]
  show (match (vs[11]? : Option Value) with
    | some (.ref P) => some (c, P)
    | _ => none) = _
  rw [hv]
def OnlyT (T : Addr) (H : Hp) : Prop := H T = some (.tbl #[]) ∧ ∀ b, b ≠ T → H b = none ∨ ∃ o xs, H b = some (.frz o (.lst xs))

theorem law_callT {P : Program} {w : World} {K : PySem.W.Frag} {mg mb : Str → Option Value} {CX : CXT} {k : Nat} {fa a c T : Addr} {fd : FuncData} {x : Str} {sp : Sp} {s₁ : Shared} {vs : List Value} {ns : List Int}
    (KX : K.In s₁.heap) (hns : s₁.heap.Ns mainGlobals mg) (hb : s₁.heap.Ns builtinsNs mb) (hbb : ∀ x : Str, x ≠ "__name__" → mb x = bootBuiltins x) (hlim : s₁.heap.NoLimit) (hg : s₁.gens = #[])
    (ha : s₁.heap.get? a = some { cls := .type "list", data := .seq vs.toArray }) (hi : IntsAre vs ns) (hl : ns.length ≤ sizeLine) (hr : Room k callerA)
    (CH : PySem.W.CodeHd s₁.heap c T) (hT : s₁.heap.get? T = some (PySem.W.tabObj #[])) (hKT : PySem.W.noTabs K = true)
    (bm : ∃ bm ob, mg "__builtins__" = some (.ref bm) ∧ bm ≠ builtinsNs ∧ s₁.heap.get? bm = some ob ∧ ob.cls = .type "module" ∧ ob.dict = some builtinsNs ∧ ob.data = .plain)
    (F : ∀ base : Heap, K.In base → base.Ns mainGlobals mg → Nst mg base c T → FnOk P w K mg base CX k fa fd [x] sp) (hbind : ∀ (s : Shared) (u : Value), BindsTo s fd ⟨[u], []⟩ [(x, u)])
    (hsp : ∀ H : Hp, OnlyT T H → SqL K H a (ns.map V.int) → sp [.ref a] H (fun v _ => v = .bl true) fun _ _ _ => False)
    (hCX : ∀ H e s', CX [] H s₁ (fun _ _ _ => False) e s' → False) :
    codeAny (model P w) callerA (.call (.ref fa) ⟨[.ref a], []⟩) (fun r s' => r = .ok (.ret (.bool true)) ∧ OldK s₁.heap s'.heap ∧ s'.os = s₁.os ∧ AllBare s'.gens) s₁ := by
  have rv := vals_ints hi
  have lenV := hi.length
  have nTa : a ≠ T := fun z => by rw [z, hT] at ha; cases ha
  have KT : K.lookup T = none := by
    cases e : K.lookup T with
    | none => rfl
    | some o =>
      have e1 := KX T o e
      rw [hT] at e1; cases e1
      exact absurd (List.all_eq_true.mp hKT (T, _) (PySem.W.mem_of_lookupK e)) (by simp)
  have core : ∀ H : Hp, OnlyT T H → SqL K H a (ns.map V.int) → HOk P w H s₁.heap → (∀ b, H b ≠ none → b = a ∨ b = T) → (H a ≠ none → K.lookup a = none) →
      codeAny (model P w) callerA (.call (.ref fa) ⟨[.ref a], []⟩) (fun r s' => r = .ok (.ret (.bool true)) ∧ OldK s₁.heap s'.heap ∧ s'.os = s₁.os ∧ AllBare s'.gens) s₁ := by
    intro H hO hS hok hA hK
    have base_of : ∀ {b : Addr} {o : Obj}, s₁.heap.get? b = some o → H b = none → (hidT s₁.heap H).get? b = some o := fun e n => hidT_get e n
    have noB : ∀ {b : Addr} {o : Obj}, s₁.heap.get? b = some o → o ≠ { cls := .type "list", data := .seq vs.toArray } → o ≠ PySem.W.tabObj #[] → H b = none := fun {b o} e d1 d2 => by
      cases q : H b with
      | none => rfl
      | some u =>
        rcases hA b (by rw [q]; simp) with e' | e'
        · subst e'; rw [ha] at e; cases e; exact absurd rfl d1
        · subst e'; rw [hT] at e; cases e; exact absurd rfl d2
    have noA : ∀ {b : Addr} {o : Obj} {es : Array DictEntry} {ep : Nat}, s₁.heap.get? b = some o → o.data = .dict es ep → H b = none := fun {b o es ep} e d =>
      noB e (fun z => by rw [z] at d; cases d) fun z => by rw [z] at d; cases d
    have nsK : ∀ {b : Addr} {m : Str → Option Value}, s₁.heap.Ns b m → (hidT s₁.heap H).Ns b m := fun {b m} ⟨o, es, ep, e, d, r⟩ => ⟨o, es, ep, base_of e (noA e d), d, r⟩
    have hKb : K.In (hidT s₁.heap H) := fun b o e => base_of (KX b o e) (by
      cases q : H b with
      | none => rfl
      | some u =>
        rcases hA b (by rw [q]; simp) with e' | e'
        · subst e'
          rw [hK (by rw [q]; simp)] at e; cases e
        · subst e'
          rw [KT] at e; cases e)
    have hM : Mod K mg (hidT s₁.heap H) := ⟨hKb, nsK hns, ⟨mb, nsK hb, hbb⟩, let ⟨mc, h1, h2⟩ := hlim; ⟨mc, nsK h1, h2⟩⟩
    have hN : Nst mg (hidT s₁.heap H) c T := by
      refine ⟨?_, ?_⟩
      · obtain ⟨o, vs', file, tf, flags, tg, inF, text, tt, e1, r1, r2⟩ := CH
        exact ⟨o, vs', file, tf, flags, tg, inF, text, tt, base_of e1 (noB e1 (fun z => by rw [z] at r1; simp at r1) fun z => by rw [z] at r1; cases r1), r1, r2⟩
      · obtain ⟨b, ob, b1, b2, b3, b4, b5, b6⟩ := bm
        refine ⟨b, ob, b1, b2, fun z => ?_, base_of b3 (noB b3 (fun z => by rw [z] at b4; simp at b4) fun z => by rw [z] at b4; cases b4), b4, b5, b6⟩
        obtain ⟨o, es, ep, e, d, _⟩ := hns
        rw [z, e] at b3; cases b3; rw [d] at b6; cases b6
    have e0 : Env0 P w K mg (hidT s₁.heap H) callerA [] s₁ H := ⟨rfl, hM, fun b o e => of_hidT e, Nat.le_of_eq (hidT_size _ _), trivial, fun b hb => absurd (show b ∈ ([] : List Addr) from hb) (by simp), hok, .of_eq hg⟩
    refine codeAny_mono ((F _ hKb (nsK hns) hN).run callerA [] s₁ H ⟨[.ref a], []⟩ [.ref a] [.ref a] _ _ hr e0 (hbind s₁ (.ref a)) (.cons rfl .nil) (hsp H hO hS)) fun r s' h => ?_
    cases r with
    | error e => exact (hCX H e s' h).elim
    | ok fl =>
      cases fl with
      | next => exact False.elim h
      | brk => exact False.elim h
      | cont => exact False.elim h
      | ret u =>
        obtain ⟨v, H', os, bare, un, hok', r', q⟩ := h
        have q' : v = .bl true := q
        subst q'
        obtain rfl : u = Value.bool true := r'
        have keep : ∀ b o, b ≠ T → s₁.heap.get? b = some o → s'.heap.get? b = some o := fun b o hbT e => by
          cases q : H b with
          | none => exact un.keep b o e q (by intro z; exact absurd (show b ∈ ([] : List Addr) from z) (by simp)) (by simp)
          | some u =>
            rcases hO.2 b hbT with z | ⟨ob, xs, z⟩
            · rw [q] at z; cases z
            · have z2 := un.frzs b ob _ z
              obtain ⟨e1, _⟩ := hok b _ z
              obtain ⟨e2, _⟩ := hok' b _ z2
              rw [e] at e1; cases e1
              exact e2
        obtain ⟨more, hm⟩ := un.tbls T _ hO.1
        have hT' : s'.heap.get? T = some (PySem.W.tabObj (#[] ++ more)) := hok' T _ hm
        refine ⟨rfl, ⟨fun b o e => ?_, fun b o e => ?_⟩, os, bare⟩
        · by_cases hbT : b = T
          · subst hbT
            rw [hT] at e; cases e
            exact .inr (.inl ⟨(CH.tab hT).isCodeTable, rfl, #[], more, rfl, hT'⟩)
          · exact .inl (keep b o hbT e)
        · by_cases hbT : b = T
          · subst hbT; exact ⟨_, hT'⟩
          · exact ⟨o, keep b o hbT e⟩
  cases hk : K.lookup a with
  | some o =>
    have e := KX a o hk
    rw [ha] at e
    cases e
    refine core (fun b => if b = T then some (.tbl #[]) else none) ⟨if_pos rfl, fun b hb => .inl (if_neg hb)⟩ (.inr ⟨_, vs.toArray, _, hk, rfl, rfl, rfl, by rw [List.size_toArray, lenV]; exact hl, by simpa using rv⟩) (fun b u z => ?_) (fun b z => ?_) fun z => absurd (if_neg nTa) z
    · by_cases hb : b = T
      · have z' := (if_pos hb).symm.trans z
        cases z'
        subst hb
        exact hT
      · have z' := (if_neg hb).symm.trans z
        cases z'
    · by_cases hb : b = T
      · exact .inr hb
      · exact absurd (if_neg hb) z
  | none =>
    refine core (fun b => if b = T then some (.tbl #[]) else if b = a then some (.frz { cls := .type "list", data := .seq vs.toArray } (.lst (ns.map V.int))) else none) ⟨if_pos rfl, fun b hb => ?_⟩ (.inl (.inr ⟨{ cls := .type "list", data := .seq vs.toArray }, (if_neg nTa).trans (if_pos rfl)⟩)) (fun b u z => ?_) (fun b z => ?_) fun _ => hk
    · by_cases hb' : b = a
      · exact .inr ⟨_, _, (if_neg hb).trans (if_pos hb')⟩
      · exact .inl ((if_neg hb).trans (if_neg hb'))
    · by_cases hb : b = T
      · have z' := (if_pos hb).symm.trans z
        cases z'
        subst hb
        exact hT
      · have z1 := (if_neg hb).symm.trans z
        by_cases hb' : b = a
        · have z' := (if_pos hb').symm.trans z1
          cases z'
          subst hb'
          exact ⟨ha, by rw [List.length_map]; exact hl, vs, _, rv, ha⟩
        · have z' := (if_neg hb').symm.trans z1
          cases z'
    · by_cases hb : b = T
      · exact .inr hb
      · by_cases hb' : b = a
        · exact .inl hb'
        · exact absurd ((if_neg hb).trans (if_neg hb')) z

theorem walk_ofT {l : PySem.W.OpenLaw} {n k : Nat} {q : Program} {loose : List Str} {XP : (Str → Option Value) → Heap → Prop} {YP : World → Heap → Prop} {d : DefRec} {K : Params → PySem.W.Frag} {CX : World → CXT} {sp : World → Sp} {x j : Str}
    (hn : l.most = some n) (hn2 : n ≤ sizeLine) (hdf : d.params.defaults = []) (hr : Room k callerA)
    (hY : ∀ (w : World) (h : Heap), YP w h → (K w.params).In h) (hK : ∀ w : World, PySem.W.noTabs (K w.params) = true) (hj : ((recsOf q).find? fun e => e.name == j).isSome = true)
    (F : ∀ (w : World) (mg : Str → Option Value) (fa : Addr) (h : Heap), (K w.params).In h → h.Ns mainGlobals mg → mg d.name = some (.ref fa) →
      ∃ fd : FuncData, (∀ (s : Shared) (u : Value), BindsTo s fd ⟨[u], []⟩ [(x, u)]) ∧ ∃ c, PySem.W.tabIn (K w.params) j = some (c, tabT (K w.params) j) ∧
        ∀ base : Heap, (K w.params).In base → base.Ns mainGlobals mg → Nst mg base c (tabT (K w.params) j) → FnOk l.prog w (K w.params) mg base (CX w) k fa fd [x] (sp w))
    (hsp : ∀ (w : World) (H : Hp) (a : Addr) (ns : List Int), ns.length ≤ n → OnlyT (tabT (K w.params) j) H → SqL (K w.params) H a (ns.map V.int) → sp w [.ref a] H (fun v _ => v = .bl true) fun _ _ _ => False)
    (hCX : ∀ (w : World) (H : Hp) (s : Shared) (e : Value) (s' : Shared), CX w [] H s (fun _ _ _ => False) e s' → False) :
    PySem.W.WalkO q loose XP YP l.row.toRowW d [] (fun f vs => PySem.call f vs) := by
  refine Att.attach_call hn hdf fun w s₀ s₁ mg mb fa o pm cd doc a vs ns G Y ho hd hcd hmg hobj hints hlen hg => ?_
  have KX := hY w _ Y
  obtain ⟨fd, hb, c, ht, hF⟩ := F w mg fa _ KX G.T.g hmg
  obtain ⟨dj, hdj⟩ := Option.isSome_iff_exists.mp hj
  obtain ⟨CH, hT⟩ := PySem.W.tab_of G.T KX hdj ht
  exact law_callT KX G.T.g G.T.b G.T.builtins G.T.nolimit hg hobj hints (Nat.le_trans hlen hn2) hr CH hT (hK w) G.T.bmain hF hb (fun H hO hS => hsp w H a ns hlen hO hS) fun H e s' => hCX w H s₁ e s'
end L2

namespace K05
open PySem PySem.Spec PyProof.Rows L2 Ord
def top (i : Nat) : Stmt := PySem.Challenge.pw_namepaths_k05_judges.main.body.getD i (.Pass ⟨0, 0, 0, 0⟩)
abbrev s__law_labels : Stmt := top 7
theorem sc__law_labels : FnScope ["_law_cell", "_law_many", "_law_letters", "_law_size", "_law_base", "_law_labels_here", "_law_k", "_law_here"] ["_law_cell", "_law_many"] (defScope s__law_labels) := ⟨rfl, rfl, rfl, by decide +kernel, rfl, by decide +kernel, by decide +kernel⟩
theorem _law_labels_cs1 : CompScope (defScope s__law_labels) ["_law_cell", "_law_many", "_law_letters", "_law_size", "_law_base", "_law_labels_here", "_law_k", "_law_here"] { kind := PySem.ScopeKind.function, names := [ (PySem.Str.ofString ".0", PySem.NameKind.local), (PySem.Str.ofString "_law_k", PySem.NameKind.local), (PySem.Str.ofString "_law_cell", PySem.NameKind.free), (PySem.Str.ofString "_law_letters", PySem.NameKind.free)], isGenerator := false, isCoroutine := false, more := [] : PySem.Scope } ["_law_k", "_law_letters", "_law_cell"] 1 [2, 0] := ⟨rfl, by decide +kernel, by decide +kernel, by decide +kernel, rfl, by decide +kernel, by decide +kernel⟩
theorem _law_labels_cs2 : CompScope (defScope s__law_labels) ["_law_cell", "_law_many", "_law_letters", "_law_size", "_law_base", "_law_labels_here", "_law_k", "_law_here"] { kind := PySem.ScopeKind.function, names := [ (PySem.Str.ofString ".0", PySem.NameKind.local), (PySem.Str.ofString "_law_k", PySem.NameKind.local), (PySem.Str.ofString "_law_base", PySem.NameKind.free)], isGenerator := false, isCoroutine := false, more := [] : PySem.Scope } ["_law_k", "_law_base"] 1 [4] := ⟨rfl, by decide +kernel, by decide +kernel, by decide +kernel, rfl, by decide +kernel, by decide +kernel⟩
abbrev s__law_cell_at : Stmt := top 6
theorem sc__law_cell_at : FnScope ["_law_script", "_law_k"] ["_law_script", "_law_k"] (defScope s__law_cell_at) := ⟨rfl, rfl, rfl, by decide +kernel, rfl, by decide +kernel, by decide +kernel⟩
abbrev s_worse_by_better : Stmt := top 3
theorem sc_worse_by_better : FnScope ["pairs", "worse_labels", "better", "worse"] ["pairs"] (defScope s_worse_by_better) := ⟨rfl, rfl, rfl, by decide +kernel, rfl, by decide +kernel, by decide +kernel⟩
abbrev s_reached : Stmt := top 4
theorem sc_reached : FnScope ["worse_labels", "start", "came_from", "layer", "further", "better", "worse"] ["worse_labels", "start"] (defScope s_reached) := ⟨rfl, rfl, rfl, by decide +kernel, rfl, by decide +kernel, by decide +kernel⟩
abbrev s_all_that_follows : Stmt := top 2
theorem sc_all_that_follows : FnScope ["pairs", "worse_labels", "order", "better", "worse"] ["pairs"] (defScope s_all_that_follows) := ⟨rfl, rfl, rfl, by decide +kernel, rfl, by decide +kernel, by decide +kernel⟩
abbrev s_judge : Stmt := top 1
theorem sc_judge : FnScope ["pairs", "known", "is_better"] ["pairs"] (defScope s_judge) := ⟨rfl, rfl, rfl, by decide +kernel, rfl, by decide +kernel, by decide +kernel⟩
theorem judge_cs1 : CompScope (defScope s_judge) ["pairs", "known", "is_better"] { kind := PySem.ScopeKind.function, names := [(PySem.Str.ofString ".0", PySem.NameKind.local), (PySem.Str.ofString "pair", PySem.NameKind.local)], isGenerator := false, isCoroutine := false, more := [] : PySem.Scope } ["pair"] 1 [] := ⟨rfl, by decide +kernel, by decide +kernel, by decide +kernel, rfl, by decide +kernel, by decide +kernel⟩
abbrev s__law_rows : Stmt := top 8
theorem sc__law_rows : FnScope ["_law_pairs", "_law_labels_here", "_law_many", "_law_rows_here", "_law_k", "_law_i", "_law_j"] ["_law_pairs", "_law_labels_here"] (defScope s__law_rows) := ⟨rfl, rfl, rfl, by decide +kernel, rfl, by decide +kernel, by decide +kernel⟩
theorem _law_rows_cs1 : CompScope (defScope s__law_rows) ["_law_pairs", "_law_labels_here", "_law_many", "_law_rows_here", "_law_k", "_law_i", "_law_j"] { kind := PySem.ScopeKind.function, names := [ (PySem.Str.ofString ".0", PySem.NameKind.local), (PySem.Str.ofString "_law_one", PySem.NameKind.cell), (PySem.Str.ofString "_law_labels_here", PySem.NameKind.free), (PySem.Str.ofString "_law_pairs", PySem.NameKind.free)], isGenerator := false, isCoroutine := false, more := [] : PySem.Scope } ["_law_one", "_law_pairs", "_law_labels_here"] 1 [0, 1] := ⟨rfl, by decide +kernel, by decide +kernel, by decide +kernel, rfl, by decide +kernel, by decide +kernel⟩
theorem _law_rows_cs2 : CompScope ({ kind := PySem.ScopeKind.function, names := [ (PySem.Str.ofString ".0", PySem.NameKind.local), (PySem.Str.ofString "_law_one", PySem.NameKind.cell), (PySem.Str.ofString "_law_labels_here", PySem.NameKind.free), (PySem.Str.ofString "_law_pairs", PySem.NameKind.free)], isGenerator := false, isCoroutine := false, more := [] : PySem.Scope }) ["_law_one", "_law_pairs", "_law_labels_here"] { kind := PySem.ScopeKind.function, names := [ (PySem.Str.ofString ".0", PySem.NameKind.local), (PySem.Str.ofString "_law_other", PySem.NameKind.local), (PySem.Str.ofString "_law_one", PySem.NameKind.free), (PySem.Str.ofString "_law_pairs", PySem.NameKind.free)], isGenerator := false, isCoroutine := false, more := [] : PySem.Scope } ["_law_other", "_law_pairs", "_law_one"] 1 [1, 0] := ⟨rfl, by decide +kernel, by decide +kernel, by decide +kernel, rfl, by decide +kernel, by decide +kernel⟩
abbrev s__law_told : Stmt := top 9
theorem sc__law_told : FnScope ["_law_found", "_law_due"] ["_law_found", "_law_due"] (defScope s__law_told) := ⟨rfl, rfl, rfl, by decide +kernel, rfl, by decide +kernel, by decide +kernel⟩
abbrev s_law : Stmt := top 10
theorem sc_law : FnScope ["_law_script", "_law_some", "_law_many", "_law_cells", "_law_cut", "_law_ones", "_law_others", "_law_handed", "_law_first", "_law_second", "_law_rows_here", "_law_beside", "_law_i", "_law_j"] ["_law_script"] (defScope s_law) := ⟨rfl, rfl, rfl, by decide +kernel, rfl, by decide +kernel, by decide +kernel⟩
theorem law_cs1 : CompScope (defScope s_law) ["_law_script", "_law_some", "_law_many", "_law_cells", "_law_cut", "_law_ones", "_law_others", "_law_handed", "_law_first", "_law_second", "_law_rows_here", "_law_beside", "_law_i", "_law_j"] { kind := PySem.ScopeKind.function, names := [ (PySem.Str.ofString ".0", PySem.NameKind.local), (PySem.Str.ofString "_law_cell", PySem.NameKind.local), (PySem.Str.ofString "_law_many", PySem.NameKind.free), (PySem.Str.ofString "_law_some", PySem.NameKind.free)], isGenerator := false, isCoroutine := false, more := [] : PySem.Scope } ["_law_cell", "_law_some", "_law_many"] 1 [1, 2] := ⟨rfl, by decide +kernel, by decide +kernel, by decide +kernel, rfl, by decide +kernel, by decide +kernel⟩
theorem law_cs2 : CompScope (defScope s_law) ["_law_script", "_law_some", "_law_many", "_law_cells", "_law_cut", "_law_ones", "_law_others", "_law_handed", "_law_first", "_law_second", "_law_rows_here", "_law_beside", "_law_i", "_law_j"] { kind := PySem.ScopeKind.function, names := [ (PySem.Str.ofString ".0", PySem.NameKind.local), (PySem.Str.ofString "_law_cell", PySem.NameKind.local), (PySem.Str.ofString "_law_many", PySem.NameKind.free), (PySem.Str.ofString "_law_some", PySem.NameKind.free)], isGenerator := false, isCoroutine := false, more := [] : PySem.Scope } ["_law_cell", "_law_some", "_law_many"] 1 [1, 2] := ⟨rfl, by decide +kernel, by decide +kernel, by decide +kernel, rfl, by decide +kernel, by decide +kernel⟩
structure Blt (mg : Str → Option Value) : Prop where
  b_bool : mg "bool" = none
  b_dict : mg "dict" = none
  b_isinstance : mg "isinstance" = none
  b_len : mg "len" = none
  b_list : mg "list" = none
  b_range : mg "range" = none
  b_sorted : mg "sorted" = none
theorem len_1 {us : List Value} (h : us.length = 1) : ∃ x0, us = [x0] := by
  cases us with
  | nil => cases h
  | cons x0 t => exact ⟨x0, by rw [List.length_eq_zero_iff.mp (Nat.succ.inj h)]⟩
theorem len_2 {us : List Value} (h : us.length = 2) : ∃ x0 x1, us = [x0, x1] := by
  cases us with
  | nil => cases h
  | cons x0 t =>
    obtain ⟨x1, rfl⟩ := len_1 (Nat.succ.inj h)
    exact ⟨x0, x1, rfl⟩
theorem len_3 {us : List Value} (h : us.length = 3) : ∃ x0 x1 x2, us = [x0, x1, x2] := by
  cases us with
  | nil => cases h
  | cons x0 t =>
    obtain ⟨x1, x2, rfl⟩ := len_2 (Nat.succ.inj h)
    exact ⟨x0, x1, x2, rfl⟩
theorem len_4 {us : List Value} (h : us.length = 4) : ∃ x0 x1 x2 x3, us = [x0, x1, x2, x3] := by
  cases us with
  | nil => cases h
  | cons x0 t =>
    obtain ⟨x1, x2, x3, rfl⟩ := len_3 (Nat.succ.inj h)
    exact ⟨x0, x1, x2, x3, rfl⟩
theorem len_5 {us : List Value} (h : us.length = 5) : ∃ x0 x1 x2 x3 x4, us = [x0, x1, x2, x3, x4] := by
  cases us with
  | nil => cases h
  | cons x0 t =>
    obtain ⟨x1, x2, x3, x4, rfl⟩ := len_4 (Nat.succ.inj h)
    exact ⟨x0, x1, x2, x3, x4, rfl⟩
theorem len_6 {us : List Value} (h : us.length = 6) : ∃ x0 x1 x2 x3 x4 x5, us = [x0, x1, x2, x3, x4, x5] := by
  cases us with
  | nil => cases h
  | cons x0 t =>
    obtain ⟨x1, x2, x3, x4, x5, rfl⟩ := len_5 (Nat.succ.inj h)
    exact ⟨x0, x1, x2, x3, x4, x5, rfl⟩
theorem len_7 {us : List Value} (h : us.length = 7) : ∃ x0 x1 x2 x3 x4 x5 x6, us = [x0, x1, x2, x3, x4, x5, x6] := by
  cases us with
  | nil => cases h
  | cons x0 t =>
    obtain ⟨x1, x2, x3, x4, x5, x6, rfl⟩ := len_6 (Nat.succ.inj h)
    exact ⟨x0, x1, x2, x3, x4, x5, x6, rfl⟩
theorem len_8 {us : List Value} (h : us.length = 8) : ∃ x0 x1 x2 x3 x4 x5 x6 x7, us = [x0, x1, x2, x3, x4, x5, x6, x7] := by
  cases us with
  | nil => cases h
  | cons x0 t =>
    obtain ⟨x1, x2, x3, x4, x5, x6, x7, rfl⟩ := len_7 (Nat.succ.inj h)
    exact ⟨x0, x1, x2, x3, x4, x5, x6, x7, rfl⟩
section
variable {P : Program} {w : World} {K : PySem.W.Frag} {mg : Str → Option Value} {base : Heap}
theorem letter_at (c : Int) : atI ("abcdefghijklmnopqrstuvwxyz" : Str).cps.toList (c % 26) = some (97 + (c % 26).toNat) := by
  have h0 := Int.emod_nonneg c (by decide : (26 : Int) ≠ 0)
  have h1 := Int.emod_lt_of_pos c (by decide : (0 : Int) < 26)
  generalize c % 26 = i at h0 h1 ⊢
  obtain ⟨n, rfl⟩ := Int.eq_ofNat_of_zero_le h0
  have hn : n < 26 := by omega
  refine atI_nat ?_
  have : ∀ n, n < 26 → ("abcdefghijklmnopqrstuvwxyz" : Str).cps.toList[n]? = some (97 + n) := by decide +kernel
  rw [Int.toNat_natCast]
  exact this n hn
theorem sq_bound : ∀ n : Nat, n < 8 → 0 < (0 + (n : Int)) * (0 + (n : Int)) + 3 ∧ (0 + (n : Int)) * (0 + (n : Int)) + 3 < 1073741824 := by
  intro n hn
  have : ∀ n, n < 8 → 0 < (0 + ((n : Nat) : Int)) * (0 + ((n : Nat) : Int)) + 3 ∧ (0 + ((n : Nat) : Int)) * (0 + ((n : Nat) : Int)) + 3 < 1073741824 := by decide
  exact this n hn
theorem nodup_map {α β : Type} {f : α → β} {l : List α} (hl : l.Nodup) (h : ∀ a ∈ l, ∀ b ∈ l, f a = f b → a = b) : (l.map f).Nodup := by
  unfold List.Nodup at *
  rw [List.pairwise_map]
  exact hl.imp_of_mem fun {a b} ha hb hne e => hne (h a ha b hb e)
theorem nodup_pre {bs : List Nat} {m : Nat} (hm : m ≤ bs.length) : ((List.range m).map fun k => tx (bs.take (k + 1))).Nodup := by
  refine nodup_map List.nodup_range fun a ha b hb e => ?_
  rw [List.mem_range] at ha hb
  have := congrArg List.length (tx_inj e)
  rw [List.length_take, List.length_take] at this
  omega
theorem nodup_one {bs : List Nat} {p m : Nat} {c : Int} (hp : p < bs.length) (hm : m ≤ 26) : ((List.range m).map fun k : Nat => tx (bs.set p (97 + ((c + (0 + (k : Int))) % 26).toNat))).Nodup := by
  refine nodup_map List.nodup_range fun a ha b hb e => ?_
  rw [List.mem_range] at ha hb
  have e2 := congrArg (fun l => l[p]?) (tx_inj e)
  simp only [List.getElem?_set_self hp] at e2
  have e3 := Option.some.inj e2
  omega
theorem map_sing (cs : List Nat) : (cs.map fun c => V.str ⟨#[c]⟩) = (cs.map fun c => (⟨#[c]⟩ : Str)).map V.str := by rw [List.map_map]; rfl
theorem joinOk_sing {cs : List Nat} (h : cs.length ≤ 8) : JoinOk (Str.ofString "") (cs.map fun c => (⟨#[c]⟩ : Str)) = true := by
  refine joinOk_small (fun y hy => ?_) (by rw [List.length_map]; omega)
  obtain ⟨c, _, rfl⟩ := List.mem_map.mp hy
  show 1 ≤ 8
  decide

def sp__law_labels (_ : PySem.W.Frag) : Sp := fun vs H Q _ => ∃ c m, vs = [.int c, .int m] ∧ 0 ≤ m ∧ m ≤ 8 ∧ ∀ (ls : List Str) (p : Addr) (H' : Hp), ls.length = m.toNat → ls.Nodup → (∀ x ∈ ls, x.length ≤ 8) → H p = none → Same H H' → H' p = some (.lst (ls.map V.str)) → Q (.ref p) H'
set_option maxHeartbeats 4000000 in
seal L2.PE L2.PA L2.PS L2.PSs L2.PT L2.PW L2.PC L2.PG L2.PGs L2.PI L2.PF L2.PSet L2.OpR L2.UnR L2.CallR L2.MtR L2.IxR L2.SlR L2.PO in
theorem ok__law_labels {f : Addr} {fd : FuncData} (B : Blt mg)  (F : Fun K "_law_labels" "_law_labels" s__law_labels f fd) : FnOk P w K mg base CX0 1 f fd ["_law_cell", "_law_many"] (sp__law_labels K) := by
  refine F.ok sc__law_labels (fun vs H Q E h => ?_) (fun cdv A outer s H vs Q E hr h => ?_)
  · obtain ⟨c, m, rfl, _⟩ := h
    rfl
  · obtain ⟨c, m, rfl, hm0, hm8, q⟩ := h
    have z0 : 0 ≤ c % 10 ^ Int.toNat 9 := Int.emod_nonneg _ (by decide)
    refine ⟨_, (pss_cons (ps_set (i := 2) sc__law_labels.nd pe_str)
      (pss_cons (ps_set (i := 0) sc__law_labels.nd (pe_op op_mod (pv 0) (pe_op op_pow pe_int pe_int)))
      (pss_cons (ps_set (i := 3) sc__law_labels.nd (pe_op op_add pe_int (pe_op op_mod (pv 0) pe_int)))
      (pss_cons (ps_set (i := 4) sc__law_labels.nd (pe_comp (te := tOp (rIx K) (tVar 1) (tOp xMod (tOp xDiv (tVar 2) (tOp xAdd (tOp xMul (tVar 0) (tVar 0)) (tC (.int 3)))) (tC (.int 26)))) rfl _law_labels_cs1 (pi_range1 rfl B.b_range (pa_cons pe_int pa_nil)) (fun _ _ _ _ _ => (pg_name (i := 0) _law_labels_cs1.nd)) (fun _ _ _ _ _ => pf_nil) (fun _ _ _ _ _ => (pe_ix ix_seq (pv 1) (pe_op op_mod (pe_op op_fdiv (pv 2) (pe_op op_add (pe_op op_mul (pv 0) (pv 0)) pe_int)) pe_int)))))
      (pss_cons (ps_if (pt_cmpR op_eq (pe_op op_mod (pe_op op_fdiv (pv 0) pe_int) pe_int) pe_int (nomark _)) (pss_one (ps_ret (pe_comp (te := tBM K "str" (rJoin K) (tC (.str "")) (tCons (tSl (rSlL K) (tVar 1) tNoPart (tPart (tOp (rI0 fun i j => .int (i + j)) (tVar 0) (tC (.int 1))))) tNil)) rfl _law_labels_cs2 (pi_range1 rfl B.b_range (pa_cons (pv 1) pa_nil)) (fun _ _ _ _ _ => (pg_name (i := 0) _law_labels_cs2.nd)) (fun _ _ _ _ _ => pf_nil) (fun _ _ _ _ _ => (pe_bm PySem.F.plainAttrs_str PySem.F.slot_str_join PySem.F.type_str_join mt_join pe_str (pa_cons (pe_slice sl_list (pv 1) po_none (po_some (pe_op op_add (pv 0) pe_int))) pa_nil)))))) pss_nil)
      (pss_cons (ps_set (i := 5) sc__law_labels.nd (pe_lst pa_nil))
      (pss_cons (ps_for PassesOwn.never rfl (pi_range1 rfl B.b_range (pa_cons (pv 1) pa_nil)) (pg_name (i := 6) sc__law_labels.nd) (pss_cons (ps_set (i := 7) sc__law_labels.nd (pe_slice sl_list (pv 4) po_none (po_some (pv 3))))
        (pss_cons (ps_asg (pe_ix ix_seq (pv 2) (pe_op op_mod (pe_op op_add (pe_op op_fdiv (pv 0) pe_int) (pv 6)) pe_int)) (pg_sub (pv 7) (pe_op op_mod (pe_op op_fdiv (pv 0) pe_int) (pv 3)) set_list))
        (pss_one (ps_expr (pe_bm PySem.F.plainAttrs_list PySem.F.slot_list_append PySem.F.type_list_append mr_append (pv 5) (pa_cons (pe_bm PySem.F.plainAttrs_str PySem.F.slot_str_join PySem.F.type_str_join mt_join pe_str (pa_cons (pv 7) pa_nil)) pa_nil)))))))
      (pss_one (ps_ret (pv 5)))))))))), ?_⟩
    refine seq_setC ?_
    try dsimp only
    refine ⟨_, rfl, _, _, rfl, rfl, ⟨by decide, by decide, by decide⟩, _, _, rfl, rfl, (by show (0 : Int) < 10 ^ Int.toNat 9; decide), ?_⟩
    try dsimp only
    generalize c % 10 ^ Int.toNat 9 = cc at z0 ⊢
    refine ⟨_, rfl, _, _, rfl, rfl, (by show (0 : Int) < 8; decide), _, _, rfl, rfl, ?_⟩
    have s0 := Int.emod_nonneg cc (by decide : (8 : Int) ≠ 0)
    have s1 := Int.emod_lt_of_pos cc (by decide : (0 : Int) < 8)
    try dsimp only
    generalize cc % 8 = r8 at s0 s1 ⊢
    -- the base
    refine ⟨_, rfl, by decide, by decide, comp_range (fun i => V.str ⟨#[97 + (cc / ((0 + (i : Int)) * (0 + (i : Int)) + 3) % 26).toNat]⟩) (by decide) (fun i H2 D R hi s2 hD k => ?_) (fun H1 Db t1 hDb e1 => ?_)⟩
    · have hi8 : i < 8 := hi
      obtain ⟨b0, b1⟩ := sq_bound i hi8
      exact ⟨_, rfl, _, rfl, _, rfl, _, rfl, _, _, rfl, rfl, Or.inl ⟨by omega, by omega⟩, _, _, rfl, rfl, _, _, rfl, rfl, ⟨b0, b1⟩, _, _, rfl, rfl, (by show (0 : Int) < 26; decide), Or.inr (Or.inr ⟨_, _, _, rfl, rfl, by decide +kernel, letter_at _, k H2 (Same.refl _)⟩)⟩
    obtain ⟨bs, ebs⟩ : ∃ bs : List Nat, bs = (List.range 8).map fun i : Nat => 97 + (cc / ((0 + (i : Int)) * (0 + (i : Int)) + 3) % 26).toNat := ⟨_, rfl⟩
    have e1 : H1 Db = some (.lst (bs.map fun c => V.str ⟨#[c]⟩)) := by rw [ebs, List.map_map]; exact e1
    have lbs : bs.length = 8 := by rw [ebs, List.length_map, List.length_range]
    clear ebs
    refine ⟨_, rfl, _, _, rfl, rfl, ⟨by decide, by decide⟩, _, _, rfl, rfl, (by show (0 : Int) < 3; decide), rfl, _, rfl, ?_⟩
    refine ite2 (fun _ => ?_) (fun _ => ?_)
    · -- each the beginning of the next
      refine ⟨_, rfl, _, rfl, by omega, by omega, comp_range (fun k => V.str (tx (bs.take (k + 1)))) (Nat.le_trans (show m.toNat ≤ 8 by omega) (by decide)) (fun i H2 D R hi s2 hD k => ?_) (fun H2 L t2 hL e2 => ?_)⟩
      · refine ⟨rfl, _, rfl, _, rfl, _, _, rfl, rfl, _, rfl, Db, _, rfl, SqL.of (s2 _ _ e1), fun p hp => ?_⟩
        have ec : cutV (bs.map fun c => V.str ⟨#[c]⟩) none (some (0 + (i : Int) + 1)) = ((bs.take (i + 1)).map fun c => (⟨#[c]⟩ : Str)).map V.str := by
          rw [show 0 + (i : Int) + 1 = ((i + 1 : Nat) : Int) by omega, cutV_take, ← List.map_take, map_sing]
        rw [ec]
        refine ⟨Str.ofString "", p, _, rfl, rfl, SqL.of upd_same, joinOk_sing (by rw [List.length_take]; omega), ?_⟩
        rw [join_sing]
        exact k _ (same_new hp)
      · refine q ((List.range m.toNat).map fun k => tx (bs.take (k + 1))) L H2 (by simp) (nodup_pre (by omega)) (fun x hx => ?_) (t1.free hL) (t1.trans t2) (by rw [e2, List.map_map]; rfl)
        obtain ⟨k, _, rfl⟩ := List.mem_map.mp hx
        rw [tx_len, List.length_take]; omega
    · -- one place apart
      refine ⟨by decide, fun L hL => ?_⟩
      have hLH : H L = none := t1.free hL
      have p0 := Int.emod_nonneg (cc / 8) (show 1 + r8 ≠ 0 by omega)
      have p1 := Int.emod_lt_of_pos (cc / 8) (show 0 < 1 + r8 by omega)
      have lt8 : (bs.take (1 + r8).toNat).length = (1 + r8).toNat := by rw [List.length_take, lbs]; omega
      refine ⟨_, rfl, _, rfl, by omega, by omega, for_range (lo := 0) (n := m.toNat) (fun i σ H' => ∃ u6 u7, σ = [some (.int cc), some (.int m), some (.str "abcdefghijklmnopqrstuvwxyz"), some (.int (1 + r8)), some (.ref Db), some (.ref L), u6, u7] ∧ Same H1 H' ∧
          H' L = some (.lst (((List.range i).map fun k : Nat => tx ((bs.take (1 + r8).toNat).set (cc / 8 % (1 + r8)).toNat (97 + ((cc / 5 + (0 + (k : Int))) % 26).toNat))).map V.str))) ⟨none, none, rfl, same_new hL, upd_same⟩ ?_ ?_⟩
      · rintro i σ H2 hi ⟨u6, u7, rfl, t2, e2⟩
        refine ⟨_, rfl, _, rfl, _, rfl, Db, _, rfl, SqL.of (t2 _ _ e1), fun p hp => ?_⟩
        have ec : cutV (bs.map fun c => V.str ⟨#[c]⟩) none (some (1 + r8)) = (bs.take (1 + r8).toNat).map fun c => V.str ⟨#[c]⟩ := by
          obtain ⟨n8, e8⟩ : ∃ n8 : Nat, 1 + r8 = (n8 : Int) := ⟨(1 + r8).toNat, by omega⟩
          rw [e8, cutV_take, ← List.map_take, Int.toNat_natCast]
        rw [ec]
        have npL : L ≠ p := ne_of_none e2 hp
        refine ⟨_, rfl, _, rfl, _, _, rfl, rfl, ⟨by decide, by decide⟩, _, rfl, _, _, rfl, rfl, _, _, rfl, rfl, (by show (0 : Int) < 26; decide), Or.inr (Or.inr ⟨_, _, _, rfl, rfl, by decide +kernel, letter_at _, ?_⟩)⟩
        refine ⟨_, rfl, _, rfl, _, _, rfl, rfl, ⟨by decide, by decide⟩, _, rfl, _, _, rfl, rfl, (by omega), p, _, _, (cc / 8 % (1 + r8)).toNat, rfl, rfl, upd_same, ixN_in p0 (by rw [List.length_map, lt8]; omega), ?_⟩
        rw [upd_upd, ← List.map_set]
        generalize hG : upd H2 p _ = G
        have g1 : G p = some (.lst (((bs.take (1 + r8).toNat).set (cc / 8 % (1 + r8)).toNat (97 + ((cc / 5 + (0 + (i : Int))) % 26).toNat)).map fun c => V.str ⟨#[c]⟩)) := by rw [← hG, upd_same]
        have g2 : G L = some (.lst (((List.range i).map fun k : Nat => tx ((bs.take (1 + r8).toNat).set (cc / 8 % (1 + r8)).toNat (97 + ((cc / 5 + (0 + (k : Int))) % 26).toNat))).map V.str)) := by rw [← hG, upd_ne npL]; exact e2
        have g3 : Same H1 G := by rw [← hG]; exact t2.trans (same_new hp)
        refine ⟨_, rfl, Or.inl ⟨rfl, _, SqL.of g2⟩, rfl, _, rfl, Str.ofString "", p, _, rfl, rfl, SqL.of (by rw [g1, map_sing]), joinOk_sing (by rw [List.length_set, lt8]; omega), ?_⟩
        rw [join_sing]
        refine ⟨L, _, _, rfl, rfl, g2, ?_, ?_⟩
        · rw [List.length_map, List.length_map, List.length_range]
          exact small1000 (by omega)
        · refine ⟨_, _, rfl, fun b o e => ?_, ?_⟩
          · rw [upd_ne (ne_of_none e hL)]; exact g3 b o e
          · rw [upd_same, List.range_succ, List.map_append, List.map_append]; rfl
      · rintro σ H2 ⟨u6, u7, rfl, t2, e2⟩
        refine ⟨_, rfl, ?_⟩
        refine q _ L H2 (by simp) (nodup_one (by rw [lt8]; omega) (by omega)) (fun x hx => ?_) hLH (t1.trans t2) e2
        obtain ⟨k, _, rfl⟩ := List.mem_map.mp hx
        rw [tx_len, List.length_set, lt8]; omega
theorem call__law_labels {f : Addr} {fd : FuncData} (B : Blt mg)  (F : Fun K "_law_labels" "_law_labels" s__law_labels f fd) (hm : mg "_law_labels" = some (.ref f)) : Callee P w K mg base "_law_labels" 1 ["_law_cell", "_law_many"] (sp__law_labels K) :=
  ⟨f, fd, ok__law_labels B  F, hm, F.kp, F.binds fun _ _ _ _ _ _ us hl => (by obtain ⟨x0, x1, rfl⟩ := len_2 hl; rfl)⟩
theorem cell_some {ns : List Int} {k : Int} (hk : 0 ≤ k) (hlt : k < ns.length) : atI (ns.map V.int) k = some (V.int (cellAt ns k)) := by
  obtain ⟨n, rfl⟩ := Int.eq_ofNat_of_zero_le hk
  have hn : n < ns.length := by omega
  refine atI_nat ?_
  rw [List.getElem?_map, List.getElem?_eq_getElem hn]
  show some (V.int ns[n]) = some (V.int ((ns[((n : Int)).toNat]?).getD 0))
  rw [Int.toNat_natCast, List.getElem?_eq_getElem hn]
  rfl
theorem cell_none {ns : List Int} {k : Int} (hk : 0 ≤ k) (hlt : ¬ k < ns.length) : cellAt ns k = 0 := by
  unfold cellAt
  rw [List.getElem?_eq_none (by omega)]
  rfl

def sp__law_cell_at (K : PySem.W.Frag) : Sp := fun vs H Q _ => ∃ a ns k, vs = [.ref a, .int k] ∧ 0 ≤ k ∧ SqL K H a (ns.map V.int) ∧ Q (.int (cellAt ns k)) H
set_option maxHeartbeats 4000000 in
seal L2.PE L2.PA L2.PS L2.PSs L2.PT L2.PW L2.PC L2.PG L2.PGs L2.PI L2.PF L2.PSet L2.OpR L2.UnR L2.CallR L2.MtR L2.IxR L2.SlR L2.PO in
theorem ok__law_cell_at {f : Addr} {fd : FuncData} (B : Blt mg)  (F : Fun K "_law_cell_at" "_law_cell_at" s__law_cell_at f fd) : FnOk P w K mg base CX0 1 f fd ["_law_script", "_law_k"] (sp__law_cell_at K) := by
  refine F.ok sc__law_cell_at (fun vs H Q E h => ?_) (fun cdv A outer s H vs Q E hr h => ?_)
  · obtain ⟨a, ns, k, rfl, _⟩ := h
    rfl
  · obtain ⟨a, ns, k, rfl, hk, hS, q⟩ := h
    refine ⟨_, (pss_cons (ps_if (pt_cmpR op_lt (pv 1) (pe_callB call_len B.b_len (pa_cons (pv 0) pa_nil)) (nomark _)) (pss_one (ps_ret (pe_ix ix_seq (pv 0) (pv 1)))) pss_nil)
      (pss_one (ps_ret pe_int))), ?_⟩
    refine ⟨_, rfl, _, rfl, _, _, rfl, Or.inl ⟨_, hS, rfl⟩, _, _, rfl, rfl, _, rfl, ?_⟩
    rw [List.length_map]
    refine ite2 (fun hlt => ?_) (fun hge => ?_)
    · have hlt := of_decide_eq_true hlt
      exact ⟨_, rfl, _, rfl, Or.inl ⟨_, _, _, _, rfl, rfl, hS, cell_some hk hlt, q⟩⟩
    · have hge : ¬ k < (ns.length : Int) := fun z => hge (decide_eq_true z)
      show Q (.int 0) H
      rw [cell_none hk hge] at q
      exact q
theorem call__law_cell_at {f : Addr} {fd : FuncData} (B : Blt mg)  (F : Fun K "_law_cell_at" "_law_cell_at" s__law_cell_at f fd) (hm : mg "_law_cell_at" = some (.ref f)) : Callee P w K mg base "_law_cell_at" 1 ["_law_script", "_law_k"] (sp__law_cell_at K) :=
  ⟨f, fd, ok__law_cell_at B  F, hm, F.kp, F.binds fun _ _ _ _ _ _ us hl => (by obtain ⟨x0, x1, rfl⟩ := len_2 hl; rfl)⟩

def sp_worse_by_better (K : PySem.W.Frag) : Sp := fun vs H Q _ => ∃ p ps, vs = [.ref p] ∧ Prs K H p ps ∧ ps.length ≤ 100 ∧ ∀ d ks H', H d = none → Same H H' → WBB H' d ps ks → ks.length ≤ ps.length → Q (.ref d) H'
set_option maxHeartbeats 4000000 in
seal L2.PE L2.PA L2.PS L2.PSs L2.PT L2.PW L2.PC L2.PG L2.PGs L2.PI L2.PF L2.PSet L2.OpR L2.UnR L2.CallR L2.MtR L2.IxR L2.SlR L2.PO in
theorem ok_worse_by_better {f : Addr} {fd : FuncData} (B : Blt mg)  (F : Fun K "worse_by_better" "worse_by_better" s_worse_by_better f fd) : FnOk P w K mg base CX0 1 f fd ["pairs"] (sp_worse_by_better K) := by
  refine F.ok sc_worse_by_better (fun vs H Q E h => ?_) (fun cdv A outer s H vs Q E hr h => ?_)
  · obtain ⟨p, ps, rfl, _⟩ := h
    rfl
  · obtain ⟨p, ps, rfl, ⟨vs, hS, hD⟩, hlen, q⟩ := h
    have lvs : vs.length = ps.length := by have := hD.length; rw [List.length_map] at this; exact this
    refine ⟨_, (pss_cons (ps_set (i := 1) sc_worse_by_better.nd pe_dnewK)
      (pss_cons (ps_for PassesOwn.never rfl (pi_list (pv 0)) (pg_tup (n := 2) rfl (pgs_cons (pg_name (i := 2) sc_worse_by_better.nd) (pgs_cons (pg_name (i := 3) sc_worse_by_better.nd) pgs_nil))) (pss_one (ps_expr (pe_bm PySem.F.plainAttrs_list PySem.F.slot_list_append PySem.F.type_list_append mr_append (pe_bm PySem.F.plainAttrs_dict PySem.F.slot_dict_setdefault PySem.F.type_dict_setdefault mt_setdefault (pv 1) (pa_cons (pv 2) (pa_cons (pe_lst pa_nil) pa_nil))) (pa_cons (pv 3) pa_nil)))))
      (pss_one (ps_ret (pv 1))))), ?_⟩
    intro d hd
    refine ⟨_, rfl, p, rfl, ⟨vs, (same_new hd).seq hS⟩, for_list (xs := vs) (fun i σ H' => ∃ u2 u3 ks, σ = [some (.ref p), some (.ref d), u2, u3] ∧ Same H H' ∧ WBB H' d (ps.take i) ks ∧ (∀ q ∈ ks, H q.2 = none) ∧ ks.length ≤ i) ⟨none, none, [], rfl, same_new hd, WBB.start upd_same, fun q hq => by simp at hq, Nat.le_refl _⟩ (fun i σ H' _ ⟨_, _, _, _, s2, _⟩ => s2.seq hS) ?_ ?_⟩
    · rintro i x σ H2 hx ⟨u2, u3, ks, rfl, s2, W, hk, hkl⟩
      obtain ⟨pr, t, hp, rfl, ht⟩ := hD.pairs_get hx
      have hil : i < ps.length := (List.getElem?_eq_some_iff.mp hp).1
      have etk : ps.take (i + 1) = ps.take i ++ [(pr.1, pr.2)] := by rw [List.take_succ, hp]; rfl
      have wl : ∀ b, (worseOf (ps.take i) b).length ≤ 100 := fun b => by
        unfold worseOf
        rw [List.length_map]
        refine Nat.le_trans (List.length_filter_le _ _) ?_
        rw [List.length_take]; omega
      refine ⟨t, _, rfl, s2.seqT ht, rfl, _, _, rfl, _, _, rfl, rfl, ?_⟩
      refine ⟨_, rfl, Or.inr (Or.inr (Or.inl ⟨rfl, Or.inl ⟨_, W.dict⟩⟩)), _, rfl, by decide, fun a ha => ?_⟩
      have nda : d ≠ a := ne_of_none W.dict ha
      have haH : H a = none := s2.free ha
      refine ⟨d, kvR ks, Sum.inr pr.1, .ref a, rfl, rfl, by rw [upd_ne nda]; exact W.dict, small1000 (by rw [List.length_map]; omega), fun v hv => ?_, fun hn => ?_⟩
      · rw [val_R] at hv
        obtain ⟨a0, h0, rfl⟩ := Option.map_eq_some_iff.mp hv
        have W1 : WBB (upd H2 a (.lst [])) d (ps.take i) ks := W.same (same_new ha)
        have hl := W1.worse.1 a0 h0
        refine ⟨Or.inl ⟨rfl, _, SqL.of hl⟩, _, rfl, a0, _, _, rfl, rfl, hl, small1000 (by rw [List.length_map]; exact Nat.le_trans (wl _) (by decide)), ?_⟩
        refine ⟨_, _, ks, rfl, fun b o e => ?_, by rw [etk]; exact W1.known h0, hk, Nat.le_succ_of_le hkl⟩
        have n0 : b ≠ a0 := ne_of_none e (hk _ (lookA_mem h0))
        rw [upd_ne n0, upd_ne (ne_of_none e haH)]
        exact s2 b o e
      · rw [val_R] at hn
        have h0 : ks.lookup pr.1 = none := by
          cases e : ks.lookup pr.1 with
          | none => rfl
          | some z => rw [e] at hn; cases hn
        have hl : (upd (upd H2 a (.lst [])) d (.dK (putK (kvR ks) (Sum.inr pr.1) (.ref a)))) a = some (.lst []) := by rw [upd_ne nda.symm, upd_same]
        refine ⟨Or.inl ⟨rfl, _, SqL.of hl⟩, _, rfl, a, _, _, rfl, rfl, hl, small1000 (by decide), ?_⟩
        refine ⟨_, _, ks ++ [(pr.1, a)], rfl, fun b o e => ?_, by rw [etk]; exact W.more h0 ha, fun z hz => ?_, by rw [List.length_append]; exact Nat.add_le_add_right hkl 1⟩
        · rw [upd_ne (ne_of_none e haH), upd_ne (ne_of_none e hd), upd_ne (ne_of_none e haH)]
          exact s2 b o e
        · rcases List.mem_append.mp hz with hz | hz
          · exact hk z hz
          · rw [List.mem_singleton] at hz; subst hz; exact haH
    · rintro σ H2 ⟨u2, u3, ks, rfl, s2, W, hk, hkl⟩
      rw [lvs, List.take_length] at W
      rw [lvs] at hkl
      exact ⟨_, rfl, q d ks H2 hd s2 W hkl⟩
theorem call_worse_by_better {f : Addr} {fd : FuncData} (B : Blt mg)  (F : Fun K "worse_by_better" "worse_by_better" s_worse_by_better f fd) (hm : mg "worse_by_better" = some (.ref f)) : Callee P w K mg base "worse_by_better" 1 ["pairs"] (sp_worse_by_better K) :=
  ⟨f, fd, ok_worse_by_better B  F, hm, F.kp, F.binds fun _ _ _ _ _ _ us hl => (by obtain ⟨x0, rfl⟩ := len_1 hl; rfl)⟩

def sp_reached (_ : PySem.W.Frag) : Sp := fun vs H Q _ => ∃ d ks ps st, vs = [.ref d, .str st] ∧ WBB H d ps ks ∧ ps.length ≤ 100 ∧ ∀ c cf H', H c = none → Same H H' → H' c = some (.dK (kvS cf)) → Tree ps st cf → Full ps st cf → Q (.ref c) H'
set_option maxHeartbeats 4000000 in
seal L2.PE L2.PA L2.PS L2.PSs L2.PT L2.PW L2.PC L2.PG L2.PGs L2.PI L2.PF L2.PSet L2.OpR L2.UnR L2.CallR L2.MtR L2.IxR L2.SlR L2.PO in
theorem ok_reached {f : Addr} {fd : FuncData} (B : Blt mg)  (F : Fun K "reached" "reached" s_reached f fd) : FnOk P w K mg base CX0 1 f fd ["worse_labels", "start"] (sp_reached K) := by
  refine F.ok sc_reached (fun vs H Q E h => ?_) (fun cdv A outer s H vs Q E hr h => ?_)
  · obtain ⟨d, ks, ps, st, rfl, _⟩ := h
    rfl
  · obtain ⟨d, ks, ps, st, rfl, W, hlen, q⟩ := h
    refine ⟨_, (pss_cons (ps_set (i := 2) sc_reached.nd pe_dnewK)
      (pss_cons (ps_set (i := 3) sc_reached.nd (pe_lst (pa_cons (pv 1) pa_nil)))
      (pss_cons (ps_while PassesOwn.never (pt_list (pv 3)) (pss_cons (ps_set (i := 4) sc_reached.nd (pe_lst pa_nil))
        (pss_cons (ps_for PassesOwn.never rfl (pi_list (pv 3)) (pg_name (i := 5) sc_reached.nd) (pss_one (ps_for PassesOwn.never rfl (pi_list (pe_bm PySem.F.plainAttrs_dict PySem.F.slot_dict_get PySem.F.type_dict_get (mt_get (hu_of hr)) (pv 0) (pa_cons (pv 5) (pa_cons (pe_lst pa_nil) pa_nil)))) (pg_name (i := 6) sc_reached.nd) (pss_one (ps_if (pt_cmpR (op_notinDict (hu_of hr)) (pv 6) (pv 2) (by with_unfolding_all rfl)) (pss_cons (ps_asg (pv 5) (pg_sub (pv 2) (pv 6) (set_dict (hu_of hr))))
              (pss_one (ps_expr (pe_bm PySem.F.plainAttrs_list PySem.F.slot_list_append PySem.F.type_list_append mr_append (pv 4) (pa_cons (pv 6) pa_nil))))) pss_nil)))))
        (pss_one (ps_set (i := 3) sc_reached.nd (pv 4))))))
      (pss_one (ps_ret (pv 2)))))), ?_⟩
    intro c hc
    refine ⟨_, rfl, one_le, fun l hl => ?_⟩
    have hlH : H l = none := (same_new hc).free hl
    have ncl : c ≠ l := ne_of_none upd_same hl
    refine ⟨fun m σ H' => ∃ u4 u5 u6 cf ly la, σ = [some (.ref d), some (.str st), some (.ref c), some (.ref la), u4, u5, u6] ∧ Same H H' ∧ H la = none ∧ H' c = some (.dK (kvS cf)) ∧ H' la = some (.lst (ly.map V.str)) ∧ Lay ps st cf ly [] ∧ m = 2 * (ps.length - cf.length) + (if ly.length = 0 then 0 else 1), ⟨_, none, none, none, [], [st], l, rfl, (same_new hc).trans (same_new hl), hlH, ?_, upd_same, Lay.start, rfl⟩, ?_⟩
    · rw [upd_ne ncl, upd_same]; rfl
    rintro m σ H1 ⟨u4, u5, u6, cf, ly, la, rfl, s1, hlaH, ec, ela, L, em⟩
    refine ⟨_, rfl, la, _, rfl, SqL.of ela, ?_⟩
    cases ly with
    | nil => exact iteF ⟨_, rfl, q c cf H1 hc s1 ec L.tree L.done⟩
    | cons b0 ly0 =>
      refine iteT ?_
      generalize hly : b0 :: ly0 = ly at *
      have hlp : 0 < ly.length := by rw [← hly]; exact Nat.succ_pos _
      -- the turn's end
      refine ⟨fun σ' H' => ∃ u5 u6 cf' fu fa, σ' = [some (.ref d), some (.str st), some (.ref c), some (.ref fa), some (.ref fa), u5, u6] ∧ Same H H' ∧ H fa = none ∧ H' c = some (.dK (kvS cf')) ∧ H' fa = some (.lst (fu.map V.str)) ∧ Lay ps st cf' fu [] ∧ cf'.length = cf.length + fu.length, ?_, ?_⟩
      · rintro σ' H' ⟨u5, u6, cf', fu, fa, rfl, s2, hfa, ec2, efa, L2, el⟩
        refine ⟨_, ?_, _, u5, u6, cf', fu, fa, rfl, s2, hfa, ec2, efa, L2, rfl⟩
        have h1 := L2.tree.length
        rw [em, if_neg (show ¬ ly.length = 0 by omega)]
        by_cases hf0 : fu.length = 0
        · rw [if_pos hf0]; omega
        · rw [if_neg hf0]; omega
      -- further = []
      refine ⟨by decide, fun fa hfa => ?_⟩
      have hfaH : H fa = none := s1.free hfa
      have ncf : c ≠ fa := ne_of_none ec hfa
      have nlf : la ≠ fa := ne_of_none ela hfa
      have ncla : c ≠ la := ne_of ec ela (by intro z; cases z)
      -- for better in layer
      refine ⟨_, rfl, la, rfl, ⟨_, SqL.of (by rw [upd_ne nlf]; exact ela)⟩, for_list (xs := ly.map V.str) (fun i σ H' => ∃ u5 u6 cf' fu, σ = [some (.ref d), some (.str st), some (.ref c), some (.ref la), some (.ref fa), u5, u6] ∧ Same H H' ∧ H' la = some (.lst (ly.map V.str)) ∧ H' c = some (.dK (kvS cf')) ∧ H' fa = some (.lst (fu.map V.str)) ∧ Lay ps st cf' (ly.drop i) fu ∧ cf'.length = cf.length + fu.length)
        ⟨_, _, cf, [], rfl, s1.trans (same_new hfa), by rw [upd_ne nlf]; exact ela, by rw [upd_ne ncf]; exact ec, upd_same, L, rfl⟩ (fun i σ H' _ ⟨_, _, _, _, _, _, e, _⟩ => SqL.of e) ?_ ?_⟩
      · rintro i x σ H2 hx ⟨u5, u6, cf', fu, rfl, s2, ela2, ec2, efa2, L2, el⟩
        obtain ⟨b, hb, rfl⟩ : ∃ b, ly[i]? = some b ∧ x = V.str b := by
          rw [List.getElem?_map] at hx
          obtain ⟨b, h1, h2⟩ := Option.map_eq_some_iff.mp hx
          exact ⟨b, h1, h2.symm⟩
        have hil : i < ly.length := (List.getElem?_eq_some_iff.mp hb).1
        have edr : ly.drop i = b :: ly.drop (i + 1) := by
          rw [List.drop_eq_getElem_cons hil]
          rw [List.getElem?_eq_getElem hil] at hb
          rw [Option.some.inj hb]
        rw [edr] at L2
        have W2 := W.same s2
        -- worse_labels.get(better, [])
        refine ⟨_, rfl, Or.inr (Or.inr (Or.inl ⟨rfl, Or.inl ⟨_, W2.dict⟩⟩)), _, rfl, by decide, fun na hna => ?_⟩
        have hnaH : H na = none := s2.free hna
        have s3 := s2.trans (same_new (o := .lst []) hna)
        have nac : c ≠ na := ne_of_none ec2 hna
        have naf : fa ≠ na := ne_of_none efa2 hna
        have nal : la ≠ na := ne_of_none ela2 hna
        have W3 := W.same s3
        obtain ⟨wa, hwa, ewa, nwc, nwf, nwl⟩ : ∃ wa, ((ks.lookup b).map V.ref).getD (.ref na) = .ref wa ∧ (upd H2 na (.lst [])) wa = some (.lst ((worseOf ps b).map V.str)) ∧ wa ≠ c ∧ wa ≠ fa ∧ wa ≠ la := by
          cases e : ks.lookup b with
          | none => exact ⟨na, rfl, by rw [upd_same, W.worse.2 e]; rfl, nac.symm, naf.symm, nal.symm⟩
          | some a0 =>
            have h0 := W.worse.1 a0 e
            exact ⟨a0, rfl, s3 _ _ h0, ne_of_none h0 hc, ne_of_none h0 hfaH, ne_of_none h0 hlaH⟩
        refine ⟨d, _, _, ((ks.lookup b).map V.ref), rfl, rfl, by rw [← val_R]; exact DGet.k (k := Sum.inr b) W3.dict, ?_⟩
        rw [hwa]
        refine ⟨wa, rfl, ⟨_, SqL.of ewa⟩, for_list (xs := (worseOf ps b).map V.str) (fun j σ H' => ∃ u6 cf' fu, σ = [some (.ref d), some (.str st), some (.ref c), some (.ref la), some (.ref fa), some (.str b), u6] ∧ Same H H' ∧ H' wa = some (.lst ((worseOf ps b).map V.str)) ∧ H' la = some (.lst (ly.map V.str)) ∧ H' c = some (.dK (kvS cf')) ∧ H' fa = some (.lst (fu.map V.str)) ∧ LayB ps st b ((worseOf ps b).take j) cf' (ly.drop (i + 1)) fu ∧ cf'.length = cf.length + fu.length)
          ⟨_, cf', fu, rfl, s3, ewa, by rw [upd_ne nal]; exact ela2, by rw [upd_ne nac]; exact ec2, by rw [upd_ne naf]; exact efa2, L2.into, el⟩ (fun j σ H' _ ⟨_, _, _, _, _, e, _⟩ => SqL.of e) ?_ ?_⟩
        · rintro j y σ H4 hy ⟨u6, cf2, fu2, rfl, s4, ewa4, ela4, ec4, efa4, L4, el4⟩
          obtain ⟨w, hw, rfl⟩ : ∃ w, (worseOf ps b)[j]? = some w ∧ y = V.str w := by
            rw [List.getElem?_map] at hy
            obtain ⟨w, h1, h2⟩ := Option.map_eq_some_iff.mp hy
            exact ⟨w, h1, h2.symm⟩
          have etk : (worseOf ps b).take (j + 1) = (worseOf ps b).take j ++ [w] := by rw [List.take_succ, hw]; rfl
          have hmem : (b, w) ∈ ps := mem_worseOf.mp (List.mem_of_getElem? hw)
          refine ⟨_, rfl, _, rfl, c, _, rfl, DGet.k (k := Sum.inr w) ec4, _, rfl, ?_⟩
          rw [val_S]
          cases e : cf2.lookup w with
          | some z =>
            refine iteF ?_
            have hk : w ∈ cf2.map (·.1) := List.mem_map.mpr ⟨_, look_mem e, rfl⟩
            exact ⟨_, cf2, fu2, rfl, s4, ewa4, ela4, ec4, efa4, by rw [etk]; exact L4.known hk, el4⟩
          | none =>
            refine iteT ?_
            have hk : w ∉ cf2.map (·.1) := lookA_none e
            have hv : valV (kvS cf2) (Sum.inr w) = none := by rw [val_S, e]; rfl
            have L5 := L4.more hk hmem
            have hcl := L4.tree.length
            have hfl : fu2.length ≤ 100 := by omega
            have ncf' : c ≠ fa := ne_of ec4 efa4 (by intro z; cases z)
            refine ⟨_, rfl, _, rfl, _, rfl, c, _, rfl, DPut.k (k := Sum.inr w) ec4 (small1000 (by rw [List.length_map]; omega)), ?_⟩
            have efa5 : (upd H4 c (.dK (putK (kvS cf2) (Sum.inr w) (.str b)))) fa = some (.lst (fu2.map V.str)) := by rw [upd_ne ncf'.symm]; exact efa4
            refine ⟨_, rfl, Or.inl ⟨rfl, _, SqL.of efa5⟩, _, rfl, fa, _, _, rfl, rfl, efa5, small1000 (by rw [List.length_map]; omega), ?_⟩
            refine ⟨_, cf2 ++ [(w, b)], fu2 ++ [w], rfl, fun z o ez => ?_, ?_, ?_, ?_, ?_, by rw [etk]; exact L5, by rw [List.length_append, List.length_append, el4]; simp; omega⟩
            · rw [upd_ne (ne_of_none ez hfaH), upd_ne (ne_of_none ez hc)]
              exact s4 z o ez
            · rw [upd_ne nwf, upd_ne nwc]; exact ewa4
            · rw [upd_ne nlf, upd_ne ncla.symm]; exact ela4
            · rw [upd_ne ncf', upd_same, putK_new _ hv]
              simp [kvS]
            · rw [upd_same, List.map_append]; rfl
        · rintro σ H4 ⟨u6, cf2, fu2, rfl, s4, ewa4, ela4, ec4, efa4, L4, el4⟩
          rw [List.length_map, List.take_length] at L4
          exact ⟨_, _, cf2, fu2, rfl, s4, ela4, ec4, efa4, L4.out, el4⟩
      · rintro σ H2 ⟨u5, u6, cf', fu, rfl, s2, ela2, ec2, efa2, L2, el⟩
        rw [List.length_map, List.drop_length] at L2
        exact ⟨_, rfl, _, _, cf', fu, fa, rfl, s2, hfaH, ec2, efa2, L2.next, el⟩
theorem call_reached {f : Addr} {fd : FuncData} (B : Blt mg)  (F : Fun K "reached" "reached" s_reached f fd) (hm : mg "reached" = some (.ref f)) : Callee P w K mg base "reached" 1 ["worse_labels", "start"] (sp_reached K) :=
  ⟨f, fd, ok_reached B  F, hm, F.kp, F.binds fun _ _ _ _ _ _ us hl => (by obtain ⟨x0, x1, rfl⟩ := len_2 hl; rfl)⟩
def ltP (p q : Str × Str) : Prop := ltS p.1 q.1 ∨ (p.1 = q.1 ∧ ltS p.2 q.2)
/-- all that follows from the pairs, sorted -/
structure OrdOf (ps ord : List (Str × Str)) : Prop where
  mem : ∀ a b, (a, b) ∈ ord ↔ Path ps a b
  srt : ord.Pairwise ltP
structure OrdUp (ps : List (Str × Str)) (kk : List Str) (ord : List (Str × Str)) : Prop where
  mem : ∀ a b, (a, b) ∈ ord ↔ a ∈ kk ∧ Path ps a b
  srt : ord.Pairwise ltP
theorem OrdUp.more {ps : List (Str × Str)} {kk ss : List Str} {b : Str} {ord : List (Str × Str)} (O : OrdUp ps kk ord) (hk : (kk ++ [b]).Pairwise ltS) (hs : ss.Pairwise ltS) (hm : ∀ w, w ∈ ss ↔ Path ps b w) : OrdUp ps (kk ++ [b]) (ord ++ ss.map fun w => (b, w)) := by
  refine ⟨fun x y => ?_, ?_⟩
  · rw [List.mem_append, O.mem, List.mem_append, List.mem_singleton, List.mem_map]
    constructor
    · rintro (⟨h1, h2⟩ | ⟨w, hw, e⟩)
      · exact ⟨.inl h1, h2⟩
      · cases e
        exact ⟨.inr rfl, (hm _).mp hw⟩
    · rintro ⟨h1 | h1, h2⟩
      · exact .inl ⟨h1, h2⟩
      · subst h1
        exact .inr ⟨y, (hm y).mpr h2, rfl⟩
  · rw [List.pairwise_append] at hk ⊢
    refine ⟨O.srt, ?_, fun x hx y hy => ?_⟩
    · rw [List.pairwise_map]
      exact hs.imp fun {x y} h => .inr ⟨rfl, h⟩
    · obtain ⟨w, _, rfl⟩ := List.mem_map.mp hy
      obtain ⟨x1, x2⟩ := x
      exact .inl (hk.2.2 x1 ((O.mem x1 x2).mp hx).1 b (by simp))
theorem perm_mem {l m : List Str} (h : l.Perm m) {x : Str} : x ∈ l ↔ x ∈ m := h.mem_iff

def sp_all_that_follows (K : PySem.W.Frag) : Sp := fun vs H Q _ => ∃ (p : Addr) (ps : List (Str × Str)), vs = [.ref p] ∧ Prs K H p ps ∧ ps.length ≤ 60 ∧ ∀ (ts : List Addr) (ord : List (Str × Str)) (D : Addr) (H' : Hp), OrdOf ps ord → ord.length ≤ 4000 → H D = none → Same H H' → H' D = some (.lst (ts.map V.ref)) → Tups H' ts ord → Q (.ref D) H'
set_option maxHeartbeats 4000000 in
seal L2.PE L2.PA L2.PS L2.PSs L2.PT L2.PW L2.PC L2.PG L2.PGs L2.PI L2.PF L2.PSet L2.OpR L2.UnR L2.CallR L2.MtR L2.IxR L2.SlR L2.PO in
theorem ok_all_that_follows {f : Addr} {fd : FuncData} (B : Blt mg) (c_worse_by_better : Callee P w K mg base "worse_by_better" 1 ["pairs"] (sp_worse_by_better K)) (c_reached : Callee P w K mg base "reached" 1 ["worse_labels", "start"] (sp_reached K)) (F : Fun K "all_that_follows" "all_that_follows" s_all_that_follows f fd) : FnOk P w K mg base CX0 2 f fd ["pairs"] (sp_all_that_follows K) := by
  refine F.ok sc_all_that_follows (fun vs H Q E h => ?_) (fun cdv A outer s H vs Q E hr h => ?_)
  · obtain ⟨p, ps, rfl, _⟩ := h
    rfl
  · obtain ⟨p, ps, rfl, hP, hlen, q⟩ := h
    refine ⟨_, (pss_cons (ps_set (i := 1) sc_all_that_follows.nd (pe_fn c_worse_by_better (pa_cons (pv 0) pa_nil)))
      (pss_cons (ps_set (i := 2) sc_all_that_follows.nd (pe_lst pa_nil))
      (pss_cons (ps_for PassesOwn.never rfl (pi_list (pe_callB (call_sortD rfl) B.b_sorted (pa_cons (pv 1) pa_nil))) (pg_name (i := 3) sc_all_that_follows.nd) (pss_one (ps_for PassesOwn.never rfl (pi_list (pe_callB (call_sortD rfl) B.b_sorted (pa_cons (pe_fn c_reached (pa_cons (pv 1) (pa_cons (pv 3) pa_nil))) pa_nil))) (pg_name (i := 4) sc_all_that_follows.nd) (pss_one (ps_expr (pe_bm PySem.F.plainAttrs_list PySem.F.slot_list_append PySem.F.type_list_append mr_append (pv 2) (pa_cons (pe_tup (pa_cons (pv 3) (pa_cons (pv 4) pa_nil))) pa_nil)))))))
      (pss_one (ps_ret (pv 2)))))), ?_⟩
    refine ⟨_, rfl, p, ps, rfl, hP, by omega, fun d ks H1 hd s1 W hkl => ?_⟩
    refine ⟨by decide, fun D hD => ?_⟩
    have hDH : H D = none := s1.free hD
    have s2 := s1.trans (same_new (o := .lst []) hD)
    have W2 := W.same (same_new (o := .lst []) hD)
    have eD2 : (upd H1 D (.lst [])) D = some (.lst []) := upd_same
    generalize upd H1 D (.lst []) = H2 at s2 W2 eD2 ⊢
    have hkeys : (kvR ks).map (·.1) = (ks.map (·.1)).map Sum.inr := by rw [List.map_map, List.map_map]; rfl
    refine ⟨_, rfl, d, _, ks.map (·.1), rfl, W2.dict, hkeys, by rw [List.length_map]; omega, fun S kk hkp hks hS => ?_⟩
    have ndk : kk.Nodup := hkp.nodup_iff.mpr W2.nd
    have pwk : kk.Pairwise ltS := sorted_pw hks ndk
    have lkk : kk.length ≤ 60 := by rw [hkp.length_eq, List.length_map]; omega
    have s3 := same_new (o := .lst (kk.map V.str)) hS
    have eS : (upd H2 S (.lst (kk.map V.str))) S = some (.lst (kk.map V.str)) := upd_same
    have hSH : H S = none := s2.free hS
    have nSD : S ≠ D := fun z => by rw [z, eD2] at hS; cases hS
    have eD3 : (upd H2 S (.lst (kk.map V.str))) D = some (.lst []) := s3 _ _ eD2
    have W3 := W2.same s3
    have s03 := s2.trans s3
    generalize upd H2 S (.lst (kk.map V.str)) = H3 at s3 eS eD3 W3 s03 ⊢
    have hdD : d ≠ D := ne_of W3.dict eD3 (by intro z; cases z)
    refine ⟨S, rfl, ⟨_, SqL.of eS⟩, for_list (xs := kk.map V.str) (fun i σ H' => ∃ u3 u4 ts ord, σ = [some (.ref p), some (.ref d), some (.ref D), u3, u4] ∧ Same H H' ∧ H' S = some (.lst (kk.map V.str)) ∧ WBB H' d ps ks ∧ H' D = some (.lst (ts.map V.ref)) ∧ Tups H' ts ord ∧ OrdUp ps (kk.take i) ord ∧ ord.length ≤ 60 * i)
      ⟨none, none, [], [], rfl, s03, eS, W3, eD3, Tups.nil, ⟨fun a b => by simp, List.Pairwise.nil⟩, Nat.le_refl _⟩ (fun i σ H' _ ⟨_, _, _, _, _, _, e, _⟩ => SqL.of e) ?_ ?_⟩
    · rintro i x σ H4 hx ⟨u3, u4, ts, ord, rfl, s4, eS4, W4, eD4, T4, O4, ol⟩
      obtain ⟨b, hb, rfl⟩ := map_at hx
      have hil : i < kk.length := (List.getElem?_eq_some_iff.mp hb).1
      have etk : kk.take (i + 1) = kk.take i ++ [b] := by rw [List.take_succ, hb]; rfl
      refine ⟨_, rfl, _, rfl, d, ks, ps, b, rfl, W4, by omega, fun c cf H5 hc s5 ec Tr Fu => ?_⟩
      have hcf : cf.length ≤ 60 := Nat.le_trans Tr.length hlen
      have hck : (kvS cf).map (·.1) = (cf.map (·.1)).map Sum.inr := by rw [List.map_map, List.map_map]; rfl
      refine ⟨c, _, cf.map (·.1), rfl, ec, hck, by rw [List.length_map]; omega, fun S2 ss hsp hss hS2 => ?_⟩
      have nds : ss.Nodup := hsp.nodup_iff.mpr Tr.nd
      have pws : ss.Pairwise ltS := sorted_pw hss nds
      have lss : ss.length ≤ 60 := by rw [hsp.length_eq, List.length_map]; exact hcf
      have hms : ∀ w, w ∈ ss ↔ Path ps b w := fun w => (perm_mem hsp).trans (Tr.iff Fu)
      have s6 := s5.trans (same_new (o := .lst (ss.map V.str)) hS2)
      have eS2 : (upd H5 S2 (.lst (ss.map V.str))) S2 = some (.lst (ss.map V.str)) := upd_same
      have nS2D : S2 ≠ D := fun z => by rw [z, s5 _ _ eD4] at hS2; cases hS2
      generalize upd H5 S2 (.lst (ss.map V.str)) = H6 at s6 eS2 ⊢
      refine ⟨S2, rfl, ⟨_, SqL.of eS2⟩, for_list (xs := ss.map V.str) (fun j σ H' => ∃ u4 ts, σ = [some (.ref p), some (.ref d), some (.ref D), some (.str b), u4] ∧ Same H H' ∧ H' S = some (.lst (kk.map V.str)) ∧ H' S2 = some (.lst (ss.map V.str)) ∧ WBB H' d ps ks ∧ H' D = some (.lst (ts.map V.ref)) ∧ Tups H' ts (ord ++ (ss.take j).map fun w => (b, w)))
        ⟨_, ts, rfl, s4.trans s6, s6 _ _ eS4, eS2, W4.same s6, s6 _ _ eD4, by rw [List.take_zero, List.map_nil, List.append_nil]; exact T4.same s6⟩ (fun j σ H' _ ⟨_, _, _, _, _, e, _⟩ => SqL.of e) ?_ ?_⟩
      · rintro j y σ H7 hy ⟨u4, ts7, rfl, s7, eS7, eS27, W7, eD7, T7⟩
        obtain ⟨w, hw, rfl⟩ := map_at hy
        have hjl : j < ss.length := (List.getElem?_eq_some_iff.mp hw).1
        refine ⟨_, rfl, Or.inl ⟨rfl, _, SqL.of eD7⟩, _, rfl, _, rfl, two_le, fun t ht => ?_⟩
        have s8 := same_new (o := .tup [.str b, .str w]) ht
        have T8 : Tups (upd H7 t (.tup [.str b, .str w])) (ts7 ++ [t]) (ord ++ (ss.take (j + 1)).map fun w => (b, w)) := by
          rw [List.take_succ, hw, List.map_append, ← List.append_assoc]
          exact (T7.same s8).snoc (p := (b, w)) upd_same
        have eD8 := s8 _ _ eD7
        have nD := T8.ne eD8
        have W8 := W7.same s8
        refine ⟨D, _, _, rfl, rfl, eD8, by rw [List.length_map, T7.len, List.length_append, List.length_map, List.length_take]; exact Nat.lt_of_lt_of_le (show _ < 5000 by omega) (by decide), ?_⟩
        refine ⟨_, ts7 ++ [t], rfl, fun z o e => ?_, ?_, ?_, ?_, by rw [upd_same, List.map_append]; rfl, T8.upd nD⟩
        · rw [upd_ne (ne_of_none e hDH)]; exact s8 _ _ (s7 z o e)
        · rw [upd_ne nSD]; exact s8 _ _ eS7
        · rw [upd_ne nS2D]; exact s8 _ _ eS27
        · refine ⟨by rw [upd_ne hdD]; exact W8.dict, W8.nd, fun r hr => ?_, W8.all, W8.adr⟩
          have nr : r.2 ≠ D := fun z => ne_of_none (W.lst r hr) hD z
          rw [upd_ne nr]
          exact W8.lst r hr
      · rintro σ H7 ⟨u4, ts7, rfl, s7, eS7, eS27, W7, eD7, T7⟩
        rw [List.length_map, List.take_length] at T7
        refine ⟨_, _, ts7, _, rfl, s7, eS7, W7, eD7, T7, ?_, by rw [List.length_append, List.length_map]; omega⟩
        rw [etk]
        refine O4.more ?_ pws hms
        rw [← etk]
        exact pwk.sublist (List.take_sublist _ _)
    · rintro σ H4 ⟨u3, u4, ts, ord, rfl, s4, eS4, W4, eD4, T4, O4, ol⟩
      rw [List.length_map, List.take_length] at O4
      rw [List.length_map] at ol
      refine ⟨_, rfl, q ts ord D H4 ⟨fun a b => ?_, O4.srt⟩ (by omega) hDH s4 eD4 T4⟩
      rw [O4.mem]
      refine ⟨fun h => h.2, fun h => ⟨?_, h⟩⟩
      obtain ⟨pr, hpr, e⟩ := List.mem_map.mp h.fst
      have := W4.all pr hpr
      rw [e] at this
      exact (perm_mem hkp).mpr this
theorem call_all_that_follows {f : Addr} {fd : FuncData} (B : Blt mg) (c_worse_by_better : Callee P w K mg base "worse_by_better" 1 ["pairs"] (sp_worse_by_better K)) (c_reached : Callee P w K mg base "reached" 1 ["worse_labels", "start"] (sp_reached K)) (F : Fun K "all_that_follows" "all_that_follows" s_all_that_follows f fd) (hm : mg "all_that_follows" = some (.ref f)) : Callee P w K mg base "all_that_follows" 2 ["pairs"] (sp_all_that_follows K) :=
  ⟨f, fd, ok_all_that_follows B c_worse_by_better c_reached F, hm, F.kp, F.binds fun _ _ _ _ _ _ us hl => (by obtain ⟨x0, rfl⟩ := len_1 hl; rfl)⟩
abbrev s_isb : Stmt := (defBody s_judge).getD 1 (.Pass ⟨0, 0, 0, 0⟩)
abbrev qI : Str := ("judge" : Str) ++ ".<locals>." ++ "is_better"
abbrev tJ (K : PySem.W.Frag) : Addr := tabT K "judge"
/-- the table of the code as it is told here -/
abbrev tabJ (c' : Addr) : HO := .tbl #[rawInt ((5 : Nat) : Int), rawInt ((4 : Nat) : Int), .ref c']
def TabSt (K : PySem.W.Frag) (H : Hp) : Prop := H (tJ K) = some (.tbl #[]) ∨ ∃ c', H (tJ K) = some (tabJ c') ∧ H c' = some (CodeO c' qI)
/-- all but tables is as it was -/
def SameT (H H' : Hp) : Prop := ∀ b o, (∀ ps, o ≠ .tbl ps) → H b = some o → H' b = some o
theorem SameT.of {H H' : Hp} (h : Same H H') : SameT H H' := fun b o _ e => h b o e
theorem SameT.trans {H H1 H2 : Hp} (a : SameT H H1) (b : SameT H1 H2) : SameT H H2 := fun c o n e => b c o n (a c o n e)
/-- a judge stands: its function, the code, the cell, the dict -/
structure Jdg (H : Hp) (f c c' d : Addr) (ord : List (Str × Str)) : Prop where
  fn : H f = some (FnO f s_isb qI "is_better" [("known", c)] c')
  code : H c' = some (CodeO c' qI)
  cell : H c = some (CellO c d)
  dict : BetD H d ord
theorem Jdg.same {H H' : Hp} {f c c' d : Addr} {ord : List (Str × Str)} (e : SameT H H') (j : Jdg H f c c' d ord) : Jdg H' f c c' d ord :=
  ⟨e _ _ (fun _ z => nomatch z) j.fn, e _ _ (fun _ z => nomatch z) j.code, e _ _ (fun _ z => nomatch z) j.cell, let ⟨k, a, b⟩ := j.dict; ⟨k, e _ _ (fun _ z => nomatch z) a, b⟩⟩

def sp_judge (K : PySem.W.Frag) : Sp := fun vs H Q _ => ∃ (p : Addr) (ps : List (Str × Str)), vs = [.ref p] ∧ Prs K H p ps ∧ ps.length ≤ 60 ∧ TabSt K H ∧ ∀ (f c c' d : Addr) (ord : List (Str × Str)) (H' : Hp), OrdOf ps ord → SameT H H' → H' (tJ K) = some (tabJ c') → Jdg H' f c c' d ord → Q (.ref f) H'
set_option maxHeartbeats 4000000 in
seal L2.PE L2.PA L2.PS L2.PSs L2.PT L2.PW L2.PC L2.PG L2.PGs L2.PI L2.PF L2.PSet L2.OpR L2.UnR L2.CallR L2.MtR L2.IxR L2.SlR L2.PO in
theorem ok_judge {f : Addr} {fd : FuncData} {cJ : Addr} (B : Blt mg) (c_all_that_follows : Callee P w K mg base "all_that_follows" 2 ["pairs"] (sp_all_that_follows K)) (F : Fun K "judge" "judge" s_judge f fd) (NS : Nst mg base cJ (tJ K)) (hcd : fd.code = .ref cJ) : FnOk P w K mg base CX0 3 f fd ["pairs"] (sp_judge K) := by
  refine fn_ofR F sc_judge (fun vs H Q E h => ?_) fun A outer s s1 H vs Q E hr h I => ?_
  · obtain ⟨p, ps, rfl, _⟩ := h
    rfl
  obtain ⟨p, ps, rfl, hP, hlen, hT, q⟩ := h
  have R := psr (body := defBody s_judge) (R := fun σ' v H' => ∃ d f' c' ord, σ' = [some (.ref p), some (.ref d), some (.ref f')] ∧ v = .ref f' ∧ OrdOf ps ord ∧ SameT H H' ∧ H' (tJ K) = some (tabJ c') ∧ H' f' = some (FnO f' s_isb qI "is_better" [("known", s.heap.objs.size + 1)] c') ∧ H' c' = some (CodeO c' qI) ∧ BetD H' d ord)
    rfl (ps_set (i := 1) sc_judge.nd (pe_callTy (call_dictOf rfl (hu2_of hr)) B.b_dict (pa_cons (pe_comp (te := tTup (tCons (tVar 0) (tCons (tC (.bl true)) tNil))) rfl judge_cs1 (pi_list (pe_fn c_all_that_follows (pa_cons (pv 0) pa_nil))) (fun _ _ _ _ _ => (pg_name (i := 0) judge_cs1.nd)) (fun _ _ _ _ _ => pf_nil) (fun _ _ _ _ _ => (pe_tup (pa_cons (pv 0) (pa_cons pe_bl pa_nil))))) pa_nil)))
    (ps_def (st := s_isb) (i := 2) (T := tJ K) (clos := [("known", s.heap.objs.size + 1)]) (qual := qI) rfl NS sc_judge.nd rfl rfl hcd rfl rfl rfl rfl rfl) (pv 2) I ?_
  · refine wpAny_mono R (fun fl s' ⟨u, v, σ', H', e1, J, rv, d, f', c', ord, e2, e3, hO, hS, eT, eF, eC, hB⟩ => ⟨u, e1, ?_⟩) fun _ _ z => z
    subst e2 e3
    have hl : (cxOf CX0 P w K mg base ["pairs", "known", "is_better"] "judge" (defScope s_judge) f fd.code A outer s H E).nox.env.cells.lookup ("known" : Str) = some (s.heap.objs.size + 1) := rfl
    have hn := J.freeC _ _ hl
    obtain ⟨m, _, hlk⟩ := J.loc
    obtain ⟨u2, ru, lk⟩ := hlk 1 "known" (.ref d) rfl rfl (.inr (.inl rfl))
    obtain rfl : u2 = Value.ref d := ru
    have hce : s'.heap.IsCell (s.heap.objs.size + 1) (some (.ref d)) := by
      rcases lk with ⟨k, _⟩ | ⟨_, x, e1, e2⟩
      · exact absurd (show (defScope s_judge).names.lookup ("known" : Str) = some .local from k) (by decide +kernel)
      · rw [hl] at e1
        cases e1
        exact e2
    have ne : ∀ {b : Addr} {o : HO}, H' b = some o → b ≠ s.heap.objs.size + 1 := fun e => ne_of_none e hn
    refine ⟨.ref f', upd H' (s.heap.objs.size + 1) (CellO (s.heap.objs.size + 1) d), J.os, J.bare, Un.track J.base (Nat.le_succ _) hn, J.hok.track hn ⟨hce, let ⟨o, e, _⟩ := hce; ⟨o, e⟩, cellO_stay⟩, rv, ?_⟩
    refine q f' (s.heap.objs.size + 1) c' d ord _ hO (fun b o no e => ?_) ?_ ⟨?_, ?_, upd_same, ?_⟩
    · have := hS b o no e
      rw [upd_ne (ne this)]; exact this
    · rw [upd_ne (ne eT)]; exact eT
    · rw [upd_ne (ne eF)]; exact eF
    · rw [upd_ne (ne eC)]; exact eC
    · obtain ⟨k, a, b⟩ := hB
      exact ⟨k, by rw [upd_ne (ne a)]; exact a, b⟩
  · refine ⟨_, rfl, p, ps, rfl, hP, hlen, fun ts ord D H1 hO ol hD s1' eD TO => ?_⟩
    have hT1 : TabSt K H1 := by
      rcases hT with h | ⟨c', h1, h2⟩
      · exact .inl (s1' _ _ h)
      · exact .inr ⟨c', s1' _ _ h1, s1' _ _ h2⟩
    have fin : ∀ (d : Addr) (H3 : Hp), Same H1 H3 → BetD H3 d ord → (tDef (tJ K) 2 s_isb ⟨5, 4, 6, 36⟩ "is_better" qI [("known", s.heap.objs.size + 1)]) { nx := fun σ2 H2 => tVar 2 σ2 H2 fun v H' => ∃ d f' c' ord, σ2 = [some (.ref p), some (.ref d), some (.ref f')] ∧ v = .ref f' ∧ OrdOf ps ord ∧ SameT H H' ∧ H' (tJ K) = some (tabJ c') ∧ H' f' = some (FnO f' s_isb qI "is_better" [("known", s.heap.objs.size + 1)] c') ∧ H' c' = some (CodeO c' qI) ∧ BetD H' d ord, rt := fun _ _ => False } [some (.ref p), some (.ref d), none] H3 := fun d H3 s3 hB => by
      obtain ⟨kvs, ek, hk⟩ := hB
      have s03 : SameT H H3 := .of (s1'.trans s3)
      rcases hT1 with h | ⟨c', h1, h2⟩
      · have h3 := s3 _ _ h
        refine .inl ⟨h3, fun f' c' hf hc hcf => ⟨_, rfl, d, f', c', ord, rfl, rfl, hO, fun b o no e => ?_, ?_, upd_same, ?_, kvs, ?_, hk⟩⟩
        · have e3 := s03 b o no e
          rw [upd_ne (ne_of_none e3 hf), upd_ne (ne_of_none e3 hc), upd_ne (ne_of e3 h3 (no _))]; exact e3
        · rw [upd_ne (ne_of_none h3 hf), upd_ne (ne_of_none h3 hc)]; exact upd_same
        · rw [upd_ne hcf]; exact upd_same
        · rw [upd_ne (ne_of_none ek hf), upd_ne (ne_of_none ek hc), upd_ne (ne_of ek h3 (fun z => nomatch z))]; exact ek
      · have h3 := s3 _ _ h1
        have h4 := s3 _ _ h2
        refine .inr ⟨c', h3, fun f' hf => ⟨_, rfl, d, f', c', ord, rfl, rfl, hO, fun b o no e => ?_, ?_, upd_same, ?_, kvs, ?_, hk⟩⟩
        · have e3 := s03 b o no e
          rw [upd_ne (ne_of_none e3 hf)]; exact e3
        · rw [upd_ne (ne_of_none h3 hf)]; exact h3
        · rw [upd_ne (ne_of_none h4 hf)]; exact h4
        · rw [upd_ne (ne_of_none ek hf)]; exact ek
    refine ⟨D, rfl, ⟨_, SqL.of eD⟩, comp_listI (xs := ts.map V.ref) (fun P i ys H' => Same H1 H' ∧ H' P = some (.lst ys) ∧ ys.length = i ∧ PrsAt H' ys ((ord.take i).map fun p => (keyP p, V.bl true)))
      (fun P hP => ⟨same_new hP, upd_same, rfl, .nil⟩) (fun P i ys H' ⟨s, _⟩ => SqL.of (s _ _ eD)) (fun P i y ys H2 RR hP hy hv k => ?_) (fun P ys H2 hP hv => ?_)⟩
    · obtain ⟨s2, eP, hl, hps⟩ := hv
      rw [List.getElem?_map] at hy
      obtain ⟨tt, htt, rfl⟩ := Option.map_eq_some_iff.mp hy
      have hio : i < ord.length := by rw [← TO.len]; exact (List.getElem?_eq_some_iff.mp htt).1
      have hoi := List.getElem?_eq_getElem hio
      have ett := s2 _ _ (TO.at_ i _ _ htt hoi)
      refine ⟨_, rfl, two_le, fun T hT => ?_⟩
      have s3 := same_new (o := .tup [.ref tt, .bl true]) hT
      have eT : (upd H2 T (.tup [.ref tt, .bl true])) T = some (.tup [.ref tt, .bl true]) := upd_same
      generalize upd H2 T (.tup [.ref tt, .bl true]) = H3 at s3 eT ⊢
      have eP3 := s3 _ _ eP
      have kp : ∀ b xs, H3 b = some (.tup xs) → (upd H3 P (.lst (ys ++ [.ref T]))) b = some (.tup xs) := fun b xs e => by
        rw [upd_ne (ne_of e eP3 (fun z => nomatch z))]; exact e
      refine k _ _ eP3 (by rw [hl]; exact Nat.lt_of_lt_of_le (show _ < 5000 by omega) (by decide)) ⟨fun b u e => ?_, upd_same, by rw [List.length_append, hl]; rfl, ?_⟩
      · rw [upd_ne (ne_of_none e hP)]; exact s3 _ _ (s2 _ _ e)
      · rw [List.take_succ, hoi, List.map_append]
        exact Paired.snoc ((hps.tups fun b xs e => s3 _ _ e).tups kp) ⟨T, tt, rfl, kp _ _ eT, kp _ _ (s3 _ _ ett)⟩
    obtain ⟨s2, eP, hl, hps⟩ := hv
    rw [List.length_map, TO.len, List.take_length] at hps
    rw [List.length_map, TO.len] at hl
    refine ⟨P, ys, _, rfl, eP, by rw [hl]; exact Nat.lt_of_lt_of_le (show _ < 5000 by omega) (by decide), hps, fun d hd => ?_⟩
    exact fin d _ (s2.trans (same_new hd)) ⟨_, upd_same, bet_dict⟩
theorem call_judge {f : Addr} {fd : FuncData} {cJ : Addr} (B : Blt mg) (c_all_that_follows : Callee P w K mg base "all_that_follows" 2 ["pairs"] (sp_all_that_follows K)) (F : Fun K "judge" "judge" s_judge f fd) (hm : mg "judge" = some (.ref f)) (NS : Nst mg base cJ (tJ K)) (hcd : fd.code = .ref cJ) : Callee P w K mg base "judge" 3 ["pairs"] (sp_judge K) :=
  ⟨f, fd, ok_judge B c_all_that_follows F NS hcd, hm, F.kp, F.binds fun _ _ _ _ _ _ us hl => (by obtain ⟨x0, rfl⟩ := len_1 hl; rfl)⟩


/-- rows of truths, by a function of two places -/
structure Rows (H : Hp) (R : Addr) (rs : List Addr) (m : Nat) (f : Nat → Nat → Bool) : Prop where
  top : H R = some (.lst (rs.map V.ref))
  len : rs.length = m
  row : ∀ (i : Nat) (a : Addr), rs[i]? = some a → H a = some (.lst ((List.range m).map fun j => V.bl (f i j)))
  nd : rs.Nodup
theorem Rows.same {H H' : Hp} {R : Addr} {rs : List Addr} {m : Nat} {f : Nat → Nat → Bool} (e : Same H H') (h : Rows H R rs m f) : Rows H' R rs m f :=
  ⟨e _ _ h.top, h.len, fun i a hi => e _ _ (h.row i a hi), h.nd⟩
theorem Rows.cell {H : Hp} {R : Addr} {rs : List Addr} {m : Nat} {f : Nat → Nat → Bool} (h : Rows H R rs m f) {i j : Nat} (hi : i < m) (hj : j < m) :
    ∃ a, (rs.map V.ref)[i]? = some (.ref a) ∧ rs[i]? = some a ∧ H a = some (.lst ((List.range m).map fun j => V.bl (f i j))) ∧ ((List.range m).map fun j => V.bl (f i j))[j]? = some (.bl (f i j)) := by
  have hi' : i < rs.length := by rw [h.len]; exact hi
  refine ⟨rs[i], by rw [List.getElem?_map, List.getElem?_eq_getElem hi']; rfl, List.getElem?_eq_getElem hi', h.row i _ (List.getElem?_eq_getElem hi'), ?_⟩
  rw [List.getElem?_map, List.getElem?_range hj]; rfl
theorem row_set {m i j : Nat} {f : Nat → Nat → Bool} (hj : j < m) : ((List.range m).map fun b => V.bl (f i b)).set j (.bl true) = (List.range m).map fun b => V.bl (War.setR f i j i b) := by
  refine List.ext_getElem? fun n => ?_
  by_cases hn : n < m
  · rw [List.getElem?_map, List.getElem?_range hn]
    by_cases e : j = n
    · subst e
      rw [List.getElem?_set_self (by simpa using hj)]
      show some (V.bl true) = some (V.bl (War.setR f i j i j))
      rw [War.setR_at]
    · rw [List.getElem?_set_ne e, List.getElem?_map, List.getElem?_range hn]
      show some (V.bl (f i n)) = some (V.bl (War.setR f i j i n))
      unfold War.setR
      rw [if_neg fun z => e z.2.symm]
  · rw [List.getElem?_eq_none (by simp; omega), List.getElem?_eq_none (by simp; omega)]
theorem Rows.put {H : Hp} {R : Addr} {rs : List Addr} {m : Nat} {f : Nat → Nat → Bool} (h : Rows H R rs m f) {i j : Nat} {a : Addr} (hi : rs[i]? = some a) (hj : j < m) :
    Rows (upd H a (.lst (((List.range m).map fun b => V.bl (f i b)).set j (.bl true)))) R rs m (War.setR f i j) := by
  have nR : R ≠ a := fun z => by
    subst z
    have h1 := h.top
    rw [h.row i R hi] at h1
    cases m with
    | zero => omega
    | succ m =>
      cases rs with
      | nil => simp at hi
      | cons x r =>
        have h2 := HO.lst.inj (Option.some.inj h1)
        rw [List.range_succ_eq_map] at h2
        simp at h2
  refine ⟨by rw [upd_ne nR]; exact h.top, h.len, fun n b hn => ?_, h.nd⟩
  by_cases e : b = a
  · subst e
    have e2 : n = i := by
      obtain ⟨h1, e1⟩ := List.getElem?_eq_some_iff.mp hn
      obtain ⟨h2, e2⟩ := List.getElem?_eq_some_iff.mp hi
      exact (List.getElem_inj h.nd).mp (e1.trans e2.symm)
    subst e2
    rw [upd_same, row_set hj]
  · rw [upd_ne e, h.row n b hn]
    have e2 : n ≠ i := fun z => by subst z; rw [hn] at hi; exact e (Option.some.inj hi)
    simp only [War.setR_ne e2]

def sp__law_rows (K : PySem.W.Frag) : Sp := fun vs H Q _ => ∃ (p l : Addr) (ps : List (Str × Str)) (ls : List Str), vs = [.ref p, .ref l] ∧ Prs K H p ps ∧ SqL K H l (ls.map V.str) ∧ ls.length ≤ 20 ∧ (∀ q ∈ ps, q.1 ∈ ls ∧ q.2 ∈ ls) ∧
  ∀ R rs f H', H R = none → Same H H' → Rows H' R rs ls.length f → (∀ (i j : Nat) x y, ls[i]? = some x → ls[j]? = some y → (f i j = true ↔ Path ps x y)) → Q (.ref R) H'
set_option maxHeartbeats 4000000 in
seal L2.PE L2.PA L2.PS L2.PSs L2.PT L2.PW L2.PC L2.PG L2.PGs L2.PI L2.PF L2.PSet L2.OpR L2.UnR L2.CallR L2.MtR L2.IxR L2.SlR L2.PO in
theorem ok__law_rows {f : Addr} {fd : FuncData} (B : Blt mg)  (F : Fun K "_law_rows" "_law_rows" s__law_rows f fd) : FnOk P w K mg base CX0 1 f fd ["_law_pairs", "_law_labels_here"] (sp__law_rows K) := by
  refine F.ok sc__law_rows (fun vs H Q E h => ?_) (fun cdv A outer s H vs Q E hr h => ?_)
  · obtain ⟨p, l, ps, ls, rfl, _⟩ := h
    rfl
  · obtain ⟨p, l, ps, ls, rfl, hP, hL, hll, hin, q⟩ := h
    obtain ⟨vs, hV, hVD⟩ := hP
    refine ⟨_, (pss_cons (ps_set (i := 2) sc__law_rows.nd (pe_callB call_len B.b_len (pa_cons (pv 1) pa_nil)))
      (pss_cons (ps_setC (i := 3) sc__law_rows.nd rfl (Or.inl rfl) (te := tComp 1 [1, 0] (iList K (tVar 2)) (gName 0) tYes (tOp (rInD K) (tTup (tCons (tVar 2) (tCons (tVar 0) tNil))) (tVar 1))) rfl _law_rows_cs1 (pi_list (pv 1)) (fun _ _ _ _ _ => (pg_name (i := 0) _law_rows_cs1.nd)) (fun _ _ _ _ _ => pf_nil) (fun _ _ _ _ _ => (pe_comp (te := tOp (rInD K) (tTup (tCons (tVar 2) (tCons (tVar 0) tNil))) (tVar 1)) rfl (_law_rows_cs2.re _) (pi_list (pv 2)) (fun _ _ _ _ _ => (pg_name (i := 0) _law_rows_cs2.nd)) (fun _ _ _ _ _ => pf_nil) (fun _ _ _ _ _ => (pe_cmpR (op_inD hr.units) (pe_tup (pa_cons (pv 2) (pa_cons (pv 0) pa_nil))) (pv 1) (by with_unfolding_all rfl))))))
      (pss_cons (ps_for PassesOwn.never rfl (pi_range1 rfl B.b_range (pa_cons (pv 2) pa_nil)) (pg_name (i := 4) sc__law_rows.nd) (pss_one (ps_for PassesOwn.never rfl (pi_range1 rfl B.b_range (pa_cons (pv 2) pa_nil)) (pg_name (i := 5) sc__law_rows.nd) (pss_one (ps_for PassesOwn.never rfl (pi_range1 rfl B.b_range (pa_cons (pv 2) pa_nil)) (pg_name (i := 6) sc__law_rows.nd) (pss_one (ps_if (PW.pt (pw_and (pt_val (pe_ix ix_seq (pe_ix ix_seq (pv 3) (pv 5)) (pv 4))) (pw_and1 (pt_val (pe_ix ix_seq (pe_ix ix_seq (pv 3) (pv 4)) (pv 6)))))) (pss_one (ps_asg pe_bl (pg_sub (pe_ix ix_seq (pv 3) (pv 5)) (pv 6) set_list))) pss_nil)))))))
      (pss_one (ps_ret (pv 3)))))), ?_⟩
    refine ⟨_, rfl, _, _, rfl, Or.inl ⟨_, hL, rfl⟩, ?_⟩
    rw [List.length_map]
    -- the rows
    refine ⟨_, rfl, l, rfl, ⟨_, hL⟩, comp_listI (xs := ls.map V.str) (fun D i ys H' => ∃ rs, ys = rs.map V.ref ∧ rs.length = i ∧ Same H H' ∧ H' D = some (.lst ys) ∧ rs.Nodup ∧ (∀ a ∈ rs, H a = none ∧ a ≠ D) ∧ ∀ (n : Nat) (a : Addr) (x : Str), rs[n]? = some a → ls[n]? = some x → H' a = some (.lst (ls.map fun y => V.bl (dec ((x, y) ∈ ps)))))
      (fun D hD => ⟨[], rfl, rfl, same_new hD, upd_same, List.nodup_nil, fun a ha => by simp at ha, fun n a x hn => by simp at hn⟩) (fun D i ys H' ⟨_, _, _, s1, _⟩ => s1.seq hL) (fun D i x ys H2 R hD hx hv k => ?_) (fun R ys H2 hR hv => ?_)⟩
    · obtain ⟨rs, rfl, hrl, s2, eD, hnd, hfr, hrow⟩ := hv
      obtain ⟨x, hx', rfl⟩ : ∃ z, ls[i]? = some z ∧ x = V.str z := by
        rw [List.getElem?_map] at hx
        obtain ⟨b, h1, h2⟩ := Option.map_eq_some_iff.mp hx
        exact ⟨b, h1, h2.symm⟩
      have hil : i < ls.length := (List.getElem?_eq_some_iff.mp hx').1
      refine ⟨_, rfl, l, rfl, ⟨_, s2.seq hL⟩, comp_list (xs := ls.map V.str) (fun v => match v with | .str y => V.bl (dec ((x, y) ∈ ps)) | _ => .non) (by rw [List.length_map]; exact Nat.le_trans hll (by decide)) (s2.seq hL) (fun j y H3 D3 R3 hy s3 hD3 k3 => ?_) (fun H3 D3 s3 hD3 e3 => ?_)⟩
      · obtain ⟨y, hy', rfl⟩ : ∃ z, ls[j]? = some z ∧ y = V.str z := by
          rw [List.getElem?_map] at hy
          obtain ⟨b, h1, h2⟩ := Option.map_eq_some_iff.mp hy
          exact ⟨b, h1, h2.symm⟩
        refine ⟨_, rfl, _, rfl, two_le, fun t ht => ?_⟩
        have s4 := (s2.trans s3).trans (same_new (o := .tup [.str x, .str y]) ht)
        refine ⟨_, rfl, 2, prD (x, y), ps.map prD, p, vs, cmp_pairs ps _, by decide, .tup (SqT.of upd_same) (.cons (.str _) (.cons (.str _) .nil)), rfl, s4.seq hV, hVD.same s4, ?_⟩
        rw [dec_congr prD_mem]
        exact k3 _ (same_new ht)
      · have eD3 : H3 D = some (.lst (rs.map V.ref)) := s3 _ _ eD
        refine k _ H3 eD3 (by rw [List.length_map]; exact small1000 (by omega)) ⟨rs ++ [D3], by rw [List.map_append]; rfl, by rw [List.length_append, hrl]; rfl, fun b o e => ?_, upd_same, ?_, fun a ha => ?_, fun n a z hn hz => ?_⟩
        · rw [upd_ne (ne_of_none e hD)]; exact s3 _ _ (s2 b o e)
        · refine nodup_snoc hnd fun z => ?_
          obtain ⟨n, hn, e⟩ := List.mem_iff_getElem.mp z
          have hn' : rs[n]? = some D3 := by rw [List.getElem?_eq_getElem hn, e]
          exact ne_of_none (hrow n D3 _ hn' (List.getElem?_eq_getElem (by omega))) hD3 rfl
        · rcases List.mem_append.mp ha with ha | ha
          · exact hfr a ha
          · rw [List.mem_singleton] at ha; subst ha
            exact ⟨s2.free hD3, (ne_of_none eD hD3).symm⟩
        · by_cases hnr : n < rs.length
          · rw [List.getElem?_append_left hnr] at hn
            have h5 := hrow n a z hn hz
            rw [upd_ne (hfr a (List.mem_of_getElem? hn)).2]
            exact s3 _ _ h5
          · have hnn : n = rs.length := by
              have := (List.getElem?_eq_some_iff.mp hn).1
              rw [List.length_append, List.length_singleton] at this; omega
            subst hnn
            rw [List.getElem?_append_right (Nat.le_refl _)] at hn
            simp at hn; subst hn
            rw [hrl, hx'] at hz; cases hz
            rw [upd_ne (ne_of_none eD hD3).symm, e3, List.map_map]
            rfl
    obtain ⟨rs, rfl, hrl, s2, eR, hnd, hfr, hrow⟩ := hv
    rw [List.length_map] at hrl
    have R0 : Rows H2 R rs ls.length (fun i j => dec ((ls.getD i default, ls.getD j default) ∈ ps)) := by
      refine ⟨eR, hrl, fun i a hi => ?_, hnd⟩
      have hil : i < ls.length := by rw [← hrl]; exact (List.getElem?_eq_some_iff.mp hi).1
      rw [hrow i a _ hi (List.getElem?_eq_getElem hil)]
      congr 2
      refine List.ext_getElem? fun n => ?_
      by_cases hn : n < ls.length
      · rw [List.getElem?_map, List.getElem?_map, List.getElem?_range hn, List.getElem?_eq_getElem hn]
        simp [List.getD_eq_getElem?_getD, List.getElem?_eq_getElem hn, List.getElem?_eq_getElem hil]
      · rw [List.getElem?_eq_none (by simp; omega), List.getElem?_eq_none (by simp; omega)]
    generalize hE : (fun (i j : Nat) => ∃ x y, ls[i]? = some x ∧ ls[j]? = some y ∧ (x, y) ∈ ps) = E
    have W0 : War.WI E ls.length 0 0 0 (fun i j => dec ((ls.getD i default, ls.getD j default) ∈ ps)) := by
      refine War.WI.start fun a b ha hb => ?_
      rw [dec_iff, ← hE]
      have ga : ls[a]? = some (ls.getD a default) := by rw [List.getD_eq_getElem?_getD, List.getElem?_eq_getElem ha]; rfl
      have gb : ls[b]? = some (ls.getD b default) := by rw [List.getD_eq_getElem?_getD, List.getElem?_eq_getElem hb]; rfl
      constructor
      · intro h; exact ⟨_, _, ga, gb, h⟩
      · rintro ⟨x, y, e1, e2, e3⟩
        rw [ga] at e1
        rw [gb] at e2
        rw [Option.some.inj e1, Option.some.inj e2]
        exact e3
    have en : ((ls.length : Nat) : Int).toNat = ls.length := Int.toNat_natCast _
    -- the three loops
    refine ⟨_, rfl, _, rfl, by omega, by omega, for_range (lo := 0) (n := ((ls.length : Nat) : Int).toNat) (fun k σ H' => ∃ u4 u5 u6 f, σ = [some (.ref p), some (.ref l), some (.int ls.length), some (.ref R), u4, u5, u6] ∧ Same H H' ∧ Rows H' R rs ls.length f ∧ War.WI E ls.length k 0 0 f) ⟨none, none, none, _, rfl, s2, R0, W0⟩ ?_ ?_⟩
    · rintro k σ H3 hk ⟨u4, u5, u6, f, rfl, s3, R3, W3⟩
      rw [en] at hk
      refine ⟨_, rfl, _, rfl, by omega, by omega, for_range (lo := 0) (n := ((ls.length : Nat) : Int).toNat) (fun i σ H' => ∃ u5 u6 f, σ = [some (.ref p), some (.ref l), some (.int ls.length), some (.ref R), some (.int (0 + (k : Int))), u5, u6] ∧ Same H H' ∧ Rows H' R rs ls.length f ∧ War.WI E ls.length k i 0 f) ⟨_, _, f, rfl, s3, R3, W3⟩ ?_ ?_⟩
      · rintro i σ H4 hi ⟨u5, u6, f, rfl, s4, R4, W4⟩
        rw [en] at hi
        refine ⟨_, rfl, _, rfl, by omega, by omega, for_range (lo := 0) (n := ((ls.length : Nat) : Int).toNat) (fun j σ H' => ∃ u6 f, σ = [some (.ref p), some (.ref l), some (.int ls.length), some (.ref R), some (.int (0 + (k : Int))), some (.int (0 + (i : Int))), u6] ∧ Same H H' ∧ Rows H' R rs ls.length f ∧ War.WI E ls.length k i j f) ⟨_, f, rfl, s4, R4, W4⟩ ?_ ?_⟩
        · rintro j σ H5 hj ⟨u6, f, rfl, s5, R5, W5⟩
          rw [en] at hj
          obtain ⟨a, ha, ha', ea, ek⟩ := R5.cell hi hk
          obtain ⟨b, hb, hb', eb, ej⟩ := R5.cell hk hj
          refine ⟨_, rfl, _, rfl, Or.inl ⟨R, _, _, .ref a, rfl, rfl, SqL.of R5.top, at0 ha, _, rfl, Or.inl ⟨a, _, _, .bl (f i k), rfl, rfl, SqL.of ea, at0 ek, _, rfl, ?_⟩⟩⟩
          refine ite2 (fun h1 => ?_) (fun h1 => ?_)
          · refine ⟨_, rfl, _, rfl, Or.inl ⟨R, _, _, .ref b, rfl, rfl, SqL.of R5.top, at0 hb, _, rfl, Or.inl ⟨b, _, _, .bl (f k j), rfl, rfl, SqL.of eb, at0 ej, _, rfl, ?_⟩⟩⟩
            refine ite2 (fun h2 => ?_) (fun h2 => ?_)
            · refine ⟨_, rfl, _, rfl, Or.inl ⟨R, _, _, .ref a, rfl, rfl, SqL.of R5.top, at0 ha, _, rfl, a, _, _, j, rfl, rfl, ea, ixN0 (by simpa using hj), ?_⟩⟩
              refine ⟨_, _, rfl, fun z o e => ?_, R5.put ha' hj, W5.step hk hi hj h1 h2⟩
              rw [upd_ne (ne_of_none e (hfr a (List.mem_of_getElem? ha')).1)]
              exact s5 z o e
            · exact ⟨_, f, rfl, s5, R5, W5.skip hk hi hj fun z => h2 z.2⟩
          · exact iteF ⟨_, f, rfl, s5, R5, W5.skip hk hi hj fun z => h1 z.1⟩
        · rintro σ H5 ⟨u6, f, rfl, s5, R5, W5⟩
          rw [en] at W5
          exact ⟨_, _, f, rfl, s5, R5, W5.nexti⟩
      · rintro σ H4 ⟨u5, u6, f, rfl, s4, R4, W4⟩
        rw [en] at W4
        exact ⟨_, _, _, f, rfl, s4, R4, W4.nextk⟩
    · rintro σ H3 ⟨u4, u5, u6, f, rfl, s3, R3, W3⟩
      rw [en] at W3
      refine ⟨_, rfl, q R rs f H3 hR s3 R3 fun i j x y hx hy => ?_⟩
      have hi : i < ls.length := (List.getElem?_eq_some_iff.mp hx).1
      have hj : j < ls.length := (List.getElem?_eq_some_iff.mp hy).1
      rw [W3.fin hi hj, ← hE]
      exact War.path_iff hin hx hy
theorem call__law_rows {f : Addr} {fd : FuncData} (B : Blt mg)  (F : Fun K "_law_rows" "_law_rows" s__law_rows f fd) (hm : mg "_law_rows" = some (.ref f)) : Callee P w K mg base "_law_rows" 1 ["_law_pairs", "_law_labels_here"] (sp__law_rows K) :=
  ⟨f, fd, ok__law_rows B  F, hm, F.kp, F.binds fun _ _ _ _ _ _ us hl => (by obtain ⟨x0, x1, rfl⟩ := len_2 hl; rfl)⟩

def sp__law_told (_ : PySem.W.Frag) : Sp := fun vs H Q _ => ∃ a b, vs = [.bl a, .bl b] ∧ Q (.bl (a == b)) H
set_option maxHeartbeats 4000000 in
seal L2.PE L2.PA L2.PS L2.PSs L2.PT L2.PW L2.PC L2.PG L2.PGs L2.PI L2.PF L2.PSet L2.OpR L2.UnR L2.CallR L2.MtR L2.IxR L2.SlR L2.PO in
theorem ok__law_told {f : Addr} {fd : FuncData} (B : Blt mg)  (F : Fun K "_law_told" "_law_told" s__law_told f fd) : FnOk P w K mg base CX0 1 f fd ["_law_found", "_law_due"] (sp__law_told K) := by
  refine F.ok sc__law_told (fun vs H Q E h => ?_) (fun cdv A outer s H vs Q E hr h => ?_)
  · obtain ⟨a, b, rfl, _⟩ := h
    rfl
  · obtain ⟨a, b, rfl, q⟩ := h
    have e : decide (V.bl a = V.bl b) = (a == b) := by cases a <;> cases b <;> rfl
    refine ⟨_, (pss_one (ps_ret (pe_and (pe_callB call_isi B.b_isinstance (pa_cons (pv 0) (pa_cons (pe_ty "bool" rfl B.b_bool (by decide +kernel)) pa_nil))) (pe_one (pe_cmpR op_eq (pv 0) (pv 1) (nomark _)))))), ?_⟩
    refine ⟨_, rfl, _, .bool, .bool, rfl, .bl a, _, rfl, iteT ⟨_, rfl, _, rfl, rfl, ?_⟩⟩
    rw [e]
    exact q
theorem call__law_told {f : Addr} {fd : FuncData} (B : Blt mg)  (F : Fun K "_law_told" "_law_told" s__law_told f fd) (hm : mg "_law_told" = some (.ref f)) : Callee P w K mg base "_law_told" 1 ["_law_found", "_law_due"] (sp__law_told K) :=
  ⟨f, fd, ok__law_told B  F, hm, F.kp, F.binds fun _ _ _ _ _ _ us hl => (by obtain ⟨x0, x1, rfl⟩ := len_2 hl; rfl)⟩
theorem cells_cut (ns : List Int) : cutV (ns.map V.int) (some 2) (some 42) = ((ns.drop 2).take 40).map V.int := by
  rw [show cutV (ns.map V.int) (some 2) (some 42) = ((ns.map V.int).drop 2).take (42 - 2) from cutV_mid _ 2 42 (by decide), ← List.map_drop, ← List.map_take]
theorem clo_sc : CloScope ["one", "other"] "known" (defScope s_isb) := ⟨rfl, rfl, rfl, by decide +kernel, by decide +kernel, by decide +kernel, rfl, by decide +kernel⟩
abbrev teI : TE := tOp (rInDict false) (tTup (tCons (tVar 0) (tCons (tVar 1) tNil))) (tVar 2)
theorem pe_isb {X : Cx} {i : Nat} {x : Str} {e1 e2 : Expr} {t : TA} {p pos : Pos} (hN : X.N[i]? = some x) (hv : Vis X.env.scope x) (ha : PA X [e1, e2] t) (hr : Room 1 X.A := by exact Room.mono (by assumption) (by decide))
    (hd : (x == ("__debug__" : Str)) = false := by decide) (hcd : (x == ("__classdict__" : Str)) = false := by decide) (hst : starEach [e1, e2] X.env = (false, eval e1 X.env) :: starEach [e2] X.env := by rfl) (hpl : (backTo pos (starEach [e2] X.env)).any (·.1) = false := by rfl) :
    PE X (.Call (.Name x p) [e1, e2] [] pos) (tClo i 2 s_isb qI "is_better" "known" teI t) :=
  pe_clo (k := 1) hN hv clo_sc rfl hr rfl (fun _ _ _ _ _ us hl => by obtain ⟨x0, x1, rfl⟩ := len_2 hl; rfl) (fun f c c' s H => pe_cmpR (op_inDict (hu_of (Room.deeper hr _))) (pe_tup (pa_cons (pv 0) (pa_cons (pv 1) pa_nil))) (pv 2) (by with_unfolding_all rfl)) ha hd hcd hst hpl
theorem isb_read {H : Hp} {c d : Addr} {ord : List (Str × Str)} {a b : Str} {R : VK} (hB : BetD H d ord) (hc : H c = some (CellO c d)) (q : ∀ H', Same H (upd H' c (CellO c d)) → R (.bl (dec ((a, b) ∈ ord))) H') :
    teI ([V.str a, V.str b].map some ++ [some (.ref d)]) (drop1 H c) R := by
  obtain ⟨kvs, ek, hk⟩ := hB
  refine ⟨_, rfl, _, rfl, two_le, fun t ht => ⟨_, rfl, d, valV kvs (keyP (a, b)), rfl, Or.inr ⟨kvs, keyP (a, b), t, .inl ?_, rfl, upd_same, rfl⟩, ?_⟩⟩
  · have e : drop1 H c d = some (.dT kvs) := by rw [drop1_ne (ne_of ek hc (fun z => nomatch z))]; exact ek
    rw [upd_ne (ne_of_none e ht)]; exact e
  · rw [hk a b, show (dec ((a, b) ∈ ord) != false) = dec ((a, b) ∈ ord) from by cases dec ((a, b) ∈ ord) <;> rfl]
    refine q _ fun x o e => ?_
    by_cases hx : x = c
    · subst hx; rw [upd_same, ← e, hc]
    · have e' : drop1 H c x = some o := by rw [drop1_ne hx]; exact e
      rw [upd_ne hx, upd_ne (ne_of_none e' ht)]; exact e'
theorem at_zero {α : Type} {xs : List α} {v : α} (h : xs[0]? = some v) : atI xs 0 = some v := by
  have := at0 h
  simpa using this
theorem tups_sameT {H H' : Hp} {ts : List Addr} {ps : List (Str × Str)} (e : SameT H H') (h : Tups H ts ps) : Tups H' ts ps := ⟨h.len, fun n t p h1 h2 => e _ _ (fun _ z => nomatch z) (h.at_ n t p h1 h2)⟩
theorem Jdg.upd {H : Hp} {A f c c' d : Addr} {xs ys : List V} {ord : List (Str × Str)} (h : H A = some (.lst xs)) (j : Jdg H f c c' d ord) : Jdg (upd H A (.lst ys)) f c c' d ord :=
  ⟨by rw [upd_ne (ne_of j.fn h (fun z => nomatch z))]; exact j.fn, by rw [upd_ne (ne_of j.code h (fun z => nomatch z))]; exact j.code, by rw [upd_ne (ne_of j.cell h (fun z => nomatch z))]; exact j.cell,
    let ⟨k, a, b⟩ := j.dict; ⟨k, by rw [upd_ne (ne_of a h (fun z => nomatch z))]; exact a, b⟩⟩
/-- a list of pairs out of cells -/
theorem prs_comp {K : PySem.W.Frag} {L p1 : Addr} {ls : List Str} {cells : List Int} {mm : Int} {g : Int → Str × Str} {te : TE} {kk : Nat} {caps : List Nat} {σ : L2.St} {H2 : Hp} {Q : Addr → Hp → Prop} (m0 : 0 < mm) (m1 : mm ≤ ls.length) (lc : cells.length ≤ 40)
    (e2 : H2 p1 = some (.lst (cells.map V.int))) (eL2 : H2 L = some (.lst (ls.map V.str)))
    (ht : ∀ (c : Int) (H3 : Hp) (R : VK), H3 L = some (.lst (ls.map V.str)) → (∀ t, H3 t = none → R (.ref t) (upd H3 t (.tup [.str (g c).1, .str (g c).2]))) → gName 0 (.int c) (compSt kk caps σ) H3 fun σ4 H4 => te σ4 H4 R)
    (hd : ∀ P ts H3, H2 P = none → Same H2 H3 → H3 P = some (.lst (ts.map V.ref)) → Tups H3 ts (cells.map g) → Q P H3) :
    ∀ D, H2 D = none → ∃ W : Nat → Nat → List V → Hp → Prop, (∃ m, W 0 m [] (upd H2 D (.lst []))) ∧ ∀ i m ys H2, W i m ys H2 →
      ((Itl K p1).stop i H2 ∧ Q D H2) ∨ ((Itl K p1).go i H2 ∧ ∀ x H3, (Itl K p1).yld i H2 x H3 → gName 0 x (compSt kk caps σ) H3 fun σ4 H4 => tYes σ4 H4 fun b H5 =>
        if b = true then te σ4 H5 fun y H6 => H6 D = some (.lst ys) ∧ ys.length < sizeLine ∧ ∃ m', m' < m ∧ W (i + 1) m' (ys ++ [y]) (upd H6 D (.lst (ys ++ [y]))) else ∃ m', m' < m ∧ W (i + 1) m' ys H5) := by
  refine comp_listI (xs := cells.map V.int) (fun D i ys H' => ∃ ts, ys = ts.map V.ref ∧ Same H2 H' ∧ H' D = some (.lst ys) ∧ Tups H' ts ((cells.take i).map g))
    (fun D hD => ⟨[], rfl, same_new hD, upd_same, Tups.nil⟩) (fun D i ys H' ⟨_, _, s3, _⟩ => SqL.of (s3 _ _ e2)) (fun D i x ys H3 R hD hx hv kk => ?_) (fun P ys H3 hP hv => ?_)
  · obtain ⟨ts, rfl, s3, eD, T⟩ := hv
    obtain ⟨c, hc, rfl⟩ : ∃ c, cells[i]? = some c ∧ x = V.int c := by
      rw [List.getElem?_map] at hx
      obtain ⟨b, h1, h2⟩ := Option.map_eq_some_iff.mp hx
      exact ⟨b, h1, h2.symm⟩
    refine ht c H3 R (s3 _ _ eL2) fun t htn => ?_
    have s4 := same_new (o := .tup [.str (g c).1, .str (g c).2]) htn
    have T4 : Tups (L2.upd H3 t (.tup [.str (g c).1, .str (g c).2])) (ts ++ [t]) ((cells.take (i + 1)).map g) := by
      rw [List.take_succ, hc, List.map_append]
      exact (T.same s4).snoc (p := g c) upd_same
    refine kk _ _ (s4 _ _ eD) (by rw [List.length_map, T.len, List.length_map, List.length_take]; exact small1000 (by omega)) ⟨ts ++ [t], by rw [List.map_append]; rfl, fun b o e => ?_, upd_same, T4.upd (T4.ne (s4 _ _ eD))⟩
    rw [upd_ne (ne_of_none e hD)]
    exact s4 _ _ (s3 b o e)
  · obtain ⟨ts, rfl, s3, eP, T⟩ := hv
    rw [List.length_map, List.take_length] at T
    exact hd P ts H3 hP s3 eP T

def sp_law (K : PySem.W.Frag) : Sp := fun vs H Q _ => ∃ (a : Addr) (ns : List Int), vs = [.ref a] ∧ SqL K H a (ns.map V.int) ∧ ns.length ≤ 63 ∧ H (tJ K) = some (.tbl #[]) ∧ ∀ H', Q (.bl true) H'
set_option maxHeartbeats 4000000 in
seal L2.PE L2.PA L2.PS L2.PSs L2.PT L2.PW L2.PC L2.PG L2.PGs L2.PI L2.PF L2.PSet L2.OpR L2.UnR L2.CallR L2.MtR L2.IxR L2.SlR L2.PO in
theorem ok_law {f : Addr} {fd : FuncData} (B : Blt mg) (c__law_labels : Callee P w K mg base "_law_labels" 1 ["_law_cell", "_law_many"] (sp__law_labels K)) (c__law_cell_at : Callee P w K mg base "_law_cell_at" 1 ["_law_script", "_law_k"] (sp__law_cell_at K)) (c_judge : Callee P w K mg base "judge" 3 ["pairs"] (sp_judge K)) (c__law_rows : Callee P w K mg base "_law_rows" 1 ["_law_pairs", "_law_labels_here"] (sp__law_rows K)) (c__law_told : Callee P w K mg base "_law_told" 1 ["_law_found", "_law_due"] (sp__law_told K)) (F : Fun K "law" "law" s_law f fd) : FnOk P w K mg base CX0 4 f fd ["_law_script"] (sp_law K) := by
  refine F.ok sc_law (fun vs H Q E h => ?_) (fun cdv A outer s H vs Q E hr h => ?_)
  · obtain ⟨a, ns, rfl, _⟩ := h
    rfl
  · obtain ⟨a, ns, rfl, hS, hlen, hT, k⟩ := h
    have z0 := Int.emod_nonneg (cellAt ns 1) (by decide : (5 : Int) ≠ 0)
    have z1 := Int.emod_lt_of_pos (cellAt ns 1) (by decide : (0 : Int) < 5)
    refine ⟨_, (pss_cons (ps_set (i := 1) sc_law.nd (pe_fn c__law_labels (pa_cons (pe_fn c__law_cell_at (pa_cons (pv 0) (pa_cons pe_int pa_nil))) (pa_cons (pe_op op_add pe_int (pe_op op_mod (pe_fn c__law_cell_at (pa_cons (pv 0) (pa_cons pe_int pa_nil))) pe_int)) pa_nil))))
      (pss_cons (ps_set (i := 2) sc_law.nd (pe_op op_sub (pe_callB call_len B.b_len (pa_cons (pv 1) pa_nil)) pe_int))
      (pss_cons (ps_set (i := 3) sc_law.nd (pe_slice sl_list (pv 0) (po_some pe_int) (po_some pe_int)))
      (pss_cons (ps_set (i := 4) sc_law.nd (pe_op op_mod (pe_op op_fdiv (pe_fn c__law_cell_at (pa_cons (pv 0) (pa_cons pe_int pa_nil))) pe_int) (pe_op op_add (pe_callB call_len B.b_len (pa_cons (pv 3) pa_nil)) pe_int)))
      (pss_cons (ps_setC (i := 5) sc_law.nd rfl (Or.inl rfl) (te := tTup (tCons (tOp (rIx K) (tVar 1) (tOp xMod (tVar 0) (tVar 2))) (tCons (tOp (rIx K) (tVar 1) (tOp xMod (tOp xDiv (tVar 0) (tC (.int 6))) (tVar 2))) tNil))) rfl law_cs1 (pi_list (pe_slice sl_list (pv 3) po_none (po_some (pv 4)))) (fun _ _ _ _ _ => (pg_name (i := 0) law_cs1.nd)) (fun _ _ _ _ _ => pf_nil) (fun _ _ _ _ _ => (pe_tup (pa_cons (pe_ix ix_seq (pv 1) (pe_op op_mod (pv 0) (pv 2))) (pa_cons (pe_ix ix_seq (pv 1) (pe_op op_mod (pe_op op_fdiv (pv 0) pe_int) (pv 2))) pa_nil)))))
      (pss_cons (ps_setC (i := 6) sc_law.nd rfl (Or.inl rfl) (te := tTup (tCons (tOp (rIx K) (tVar 1) (tOp xMod (tOp xDiv (tVar 0) (tC (.int 6))) (tVar 2))) (tCons (tOp (rIx K) (tVar 1) (tOp xMod (tVar 0) (tVar 2))) tNil))) rfl law_cs2 (pi_list (pe_slice sl_list (pv 3) (po_some (pv 4)) po_none)) (fun _ _ _ _ _ => (pg_name (i := 0) law_cs2.nd)) (fun _ _ _ _ _ => pf_nil) (fun _ _ _ _ _ => (pe_tup (pa_cons (pe_ix ix_seq (pv 1) (pe_op op_mod (pe_op op_fdiv (pv 0) pe_int) (pv 2))) (pa_cons (pe_ix ix_seq (pv 1) (pe_op op_mod (pv 0) (pv 2))) pa_nil)))))
      (pss_cons (ps_set (i := 7) sc_law.nd (pe_lst (pa_cons (pe_callTy call_list_of B.b_list (pa_cons (pv 5) pa_nil)) (pa_cons (pe_callTy call_list_of B.b_list (pa_cons (pv 6) pa_nil)) pa_nil))))
      (pss_cons (ps_set (i := 8) sc_law.nd (pe_fn c_judge (pa_cons (pe_ix ix_seq (pv 7) pe_int) pa_nil)))
      (pss_cons (ps_set (i := 9) sc_law.nd (pe_fn c_judge (pa_cons (pe_ix ix_seq (pv 7) pe_int) pa_nil)))
      (pss_cons (ps_if (pt_cmpR (op_neD hr.units) (pv 7) (pe_lst (pa_cons (pv 5) (pa_cons (pv 6) pa_nil))) (nomark _)) (pss_one (ps_ret pe_bl)) pss_nil)
      (pss_cons (ps_expr (pe_bm PySem.F.plainAttrs_list PySem.F.slot_list_append PySem.F.type_list_append mr_append (pe_ix ix_seq (pv 7) pe_int) (pa_cons (pe_tup (pa_cons (pe_ix ix_seq (pv 1) pe_int) (pa_cons (pe_ix ix_seq (pv 1) (pe_un un_neg pe_int)) pa_nil))) pa_nil)))
      (pss_cons (ps_expr (pe_bm0 PySem.F.plainAttrs_list PySem.F.slot_list_clear PySem.F.type_list_clear mr_clear (pe_ix ix_seq (pv 7) pe_int)))
      (pss_cons (ps_set (i := 10) sc_law.nd (pe_fn c__law_rows (pa_cons (pv 5) (pa_cons (pv 1) pa_nil))))
      (pss_cons (ps_set (i := 11) sc_law.nd (pe_fn c__law_rows (pa_cons (pv 6) (pa_cons (pv 1) pa_nil))))
      (pss_cons (ps_for PassesOwn.never rfl (pi_range1 rfl B.b_range (pa_cons (pe_callB call_len B.b_len (pa_cons (pv 1) pa_nil)) pa_nil)) (pg_name (i := 12) sc_law.nd) (pss_one (ps_for PassesOwn.never rfl (pi_range1 rfl B.b_range (pa_cons (pe_callB call_len B.b_len (pa_cons (pv 1) pa_nil)) pa_nil)) (pg_name (i := 13) sc_law.nd) (pss_cons (ps_if (pt_not (pt_val (pe_fn c__law_told (pa_cons (pe_isb (i := 8) rfl (Or.inl rfl) (pa_cons (pe_ix ix_seq (pv 1) (pv 12)) (pa_cons (pe_ix ix_seq (pv 1) (pv 13)) pa_nil))) (pa_cons (pe_ix ix_seq (pe_ix ix_seq (pv 10) (pv 12)) (pv 13)) pa_nil))))) (pss_one (ps_ret pe_bl)) pss_nil)
          (pss_one (ps_if (pt_not (pt_val (pe_fn c__law_told (pa_cons (pe_isb (i := 9) rfl (Or.inl rfl) (pa_cons (pe_ix ix_seq (pv 1) (pv 12)) (pa_cons (pe_ix ix_seq (pv 1) (pv 13)) pa_nil))) (pa_cons (pe_ix ix_seq (pe_ix ix_seq (pv 11) (pv 12)) (pv 13)) pa_nil))))) (pss_one (ps_ret pe_bl)) pss_nil))))))
      (pss_one (ps_ret pe_bl))))))))))))))))), ?_⟩
    refine ⟨_, rfl, a, ns, 0, rfl, by decide, hS, _, rfl, a, ns, 1, rfl, by decide, hS, _, _, rfl, rfl, (by show (0 : Int) < 5; decide), _, _, rfl, rfl, _, _, rfl, by omega, by omega, fun ls L H1 hll hnd h8 hL s1 eL => ?_⟩
    have hl2 : 2 ≤ ls.length ∧ ls.length ≤ 6 := by omega
    have S1 := s1.seq hS
    have T1 := s1 _ _ hT
    refine ⟨_, rfl, _, _, rfl, Or.inl ⟨_, SqL.of eL, rfl⟩, _, _, rfl, rfl, ?_⟩
    rw [List.length_map]
    obtain ⟨mm, emm⟩ : ∃ mm : Int, mm = (ls.length : Int) - 1 := ⟨_, rfl⟩
    try dsimp only
    rw [← emm]
    have m0 : 0 < mm := by omega
    have m1 : mm ≤ ls.length := by omega
    -- the cells
    refine ⟨_, rfl, _, rfl, _, rfl, a, _, rfl, S1, fun p0 h0 => ?_⟩
    rw [cells_cut]
    obtain ⟨cells, ecells⟩ : ∃ cells, cells = (ns.drop 2).take 40 := ⟨_, rfl⟩
    rw [← ecells]
    have lcells : cells.length ≤ 40 := by rw [ecells, List.length_take]; omega
    have s2 : Same H1 (upd H1 p0 (.lst (cells.map V.int))) := same_new h0
    have e2 : (upd H1 p0 (.lst (cells.map V.int))) p0 = some (.lst (cells.map V.int)) := upd_same
    generalize upd H1 p0 (.lst (cells.map V.int)) = H2 at s2 e2 ⊢
    have eL2 := s2 _ _ eL
    -- the cut
    have hcl : (0 : Int) < (cells.length : Int) + 1 := by omega
    refine ⟨_, rfl, a, ns, 1, rfl, by decide, s2.seq S1, _, _, rfl, rfl, ⟨by decide, by decide⟩, _, rfl, _, _, rfl, Or.inl ⟨_, SqL.of e2, rfl⟩, _, _, rfl, rfl, _, _, rfl, rfl, (by rw [List.length_map]; exact hcl), ?_⟩
    rw [List.length_map]
    obtain ⟨cn, ecn, hcn⟩ : ∃ cn : Nat, cellAt ns 1 / 5 % ((cells.length : Int) + 1) = (cn : Int) ∧ cn ≤ cells.length := ⟨(cellAt ns 1 / 5 % ((cells.length : Int) + 1)).toNat, by
      rw [Int.toNat_of_nonneg (Int.emod_nonneg _ (by omega))], by have := Int.emod_lt_of_pos (cellAt ns 1 / 5) hcl; omega⟩
    try dsimp only
    rw [ecn]
    -- the ones
    refine ⟨_, rfl, _, rfl, _, rfl, p0, _, rfl, SqL.of e2, fun p1 h1 => ?_⟩
    rw [cutV_take, ← List.map_take]
    have s3 : Same H2 (upd H2 p1 (.lst ((cells.take cn).map V.int))) := same_new h1
    have e3 : (upd H2 p1 (.lst ((cells.take cn).map V.int))) p1 = some (.lst ((cells.take cn).map V.int)) := upd_same
    generalize upd H2 p1 (.lst ((cells.take cn).map V.int)) = H3 at s3 e3 ⊢
    refine ⟨p1, rfl, ⟨_, SqL.of e3⟩, prs_comp (g := fun c => (ls.getD (c % mm).toNat default, ls.getD (c / 6 % mm).toNat default)) m0 m1 (by rw [List.length_take]; omega) e3 (s3 _ _ eL2) (fun c H4 R eL4 kk => ?_) fun P ts H4 hP s4 eP TP => ?_⟩
    · exact ⟨_, rfl, _, rfl, _, rfl, _, _, rfl, rfl, m0, Or.inl ⟨L, _, _, _, rfl, rfl, SqL.of eL4, mod_at m0 m1, _, rfl, _, rfl, _, _, rfl, rfl, ⟨by decide, by decide⟩, _, rfl, _, _, rfl, rfl, m0, Or.inl ⟨L, _, _, _, rfl, rfl, SqL.of eL4, mod_at m0 m1, two_le, fun t ht => kk t ht⟩⟩⟩
    obtain ⟨ps, eps⟩ : ∃ ps : List (Str × Str), ps = (cells.take cn).map fun c => (ls.getD (c % mm).toNat default, ls.getD (c / 6 % mm).toNat default) := ⟨_, rfl⟩
    rw [← eps] at TP
    have hin : ∀ q ∈ ps, q.1 ∈ ls ∧ q.2 ∈ ls := fun q hq => by
      rw [eps] at hq
      obtain ⟨c, _, rfl⟩ := List.mem_map.mp hq
      exact ⟨mod_in m0 m1, mod_in m0 m1⟩
    have lps : ps.length ≤ 40 := by rw [eps, List.length_map, List.length_take]; omega
    -- the others
    have s24 := s3.trans s4
    refine ⟨_, rfl, _, rfl, _, rfl, p0, _, rfl, SqL.of (s24 _ _ e2), fun p2 h2 => ?_⟩
    rw [cutV_drop, ← List.map_drop]
    have s5 : Same H4 (upd H4 p2 (.lst ((cells.drop cn).map V.int))) := same_new h2
    have e5 : (upd H4 p2 (.lst ((cells.drop cn).map V.int))) p2 = some (.lst ((cells.drop cn).map V.int)) := upd_same
    generalize upd H4 p2 (.lst ((cells.drop cn).map V.int)) = H5 at s5 e5 ⊢
    refine ⟨p2, rfl, ⟨_, SqL.of e5⟩, prs_comp (g := fun c => (ls.getD (c / 6 % mm).toNat default, ls.getD (c % mm).toNat default)) m0 m1 (by rw [List.length_drop]; omega) e5 (s5 _ _ (s24 _ _ eL2)) (fun c H4 R eL4 kk => ?_) fun P2 ts2 H6 hP2 s6 eP2 TP2 => ?_⟩
    · exact ⟨_, rfl, _, rfl, _, _, rfl, rfl, ⟨by decide, by decide⟩, _, rfl, _, _, rfl, rfl, m0, Or.inl ⟨L, _, _, _, rfl, rfl, SqL.of eL4, mod_at m0 m1, _, rfl, _, rfl, _, rfl, _, _, rfl, rfl, m0, Or.inl ⟨L, _, _, _, rfl, rfl, SqL.of eL4, mod_at m0 m1, two_le, fun t ht => kk t ht⟩⟩⟩
    obtain ⟨ps2, eps2⟩ : ∃ ps2 : List (Str × Str), ps2 = (cells.drop cn).map fun c => (ls.getD (c / 6 % mm).toNat default, ls.getD (c % mm).toNat default) := ⟨_, rfl⟩
    rw [← eps2] at TP2
    have hin2 : ∀ q ∈ ps2, q.1 ∈ ls ∧ q.2 ∈ ls := fun q hq => by
      rw [eps2] at hq
      obtain ⟨c, _, rfl⟩ := List.mem_map.mp hq
      exact ⟨mod_in m0 m1, mod_in m0 m1⟩
    have lps2 : ps2.length ≤ 40 := by rw [eps2, List.length_map, List.length_drop]; omega
    clear eps eps2
    have s46 := s5.trans s6
    have s26 := s24.trans s46
    have eP6 := s46 _ _ eP
    have TP6 := TP.same s46
    have eL6 := s26 _ _ eL2
    have hT6 := s26 _ _ (s2 _ _ T1)
    have nPP : P ≠ P2 := ne_of_none (s5 _ _ eP) hP2
    -- handed
    refine ⟨_, rfl, P, _, rfl, Or.inl (SqL.of eP6), fun A1 hA1 => ?_⟩
    have s7 : Same H6 (upd H6 A1 (.lst (ts.map V.ref))) := same_new hA1
    have eA1 : (upd H6 A1 (.lst (ts.map V.ref))) A1 = some (.lst (ts.map V.ref)) := upd_same
    generalize upd H6 A1 (.lst (ts.map V.ref)) = H7 at s7 eA1 ⊢
    refine ⟨_, rfl, P2, _, rfl, Or.inl (SqL.of (s7 _ _ eP2)), fun A2 hA2 => ?_⟩
    have s8 : Same H7 (upd H7 A2 (.lst (ts2.map V.ref))) := same_new hA2
    have eA2 : (upd H7 A2 (.lst (ts2.map V.ref))) A2 = some (.lst (ts2.map V.ref)) := upd_same
    generalize upd H7 A2 (.lst (ts2.map V.ref)) = H8 at s8 eA2 ⊢
    refine ⟨two_le, fun Hd hHd => ?_⟩
    have s9 : Same H8 (upd H8 Hd (.lst [.ref A1, .ref A2])) := same_new hHd
    have eHd : (upd H8 Hd (.lst [.ref A1, .ref A2])) Hd = some (.lst [.ref A1, .ref A2]) := upd_same
    generalize upd H8 Hd (.lst [.ref A1, .ref A2]) = H9 at s9 eHd ⊢
    have nA12 : A1 ≠ A2 := ne_of_none eA1 hA2
    have nLA1 : L ≠ A1 := ne_of_none eL6 hA1
    have nLA2 : L ≠ A2 := ne_of_none (s7 _ _ eL6) hA2
    have nPA1 : P ≠ A1 := ne_of_none eP6 hA1
    have nPA2 : P ≠ A2 := ne_of_none (s7 _ _ eP6) hA2
    have nQA1 : P2 ≠ A1 := ne_of_none eP2 hA1
    have nQA2 : P2 ≠ A2 := ne_of_none (s7 _ _ eP2) hA2
    have nHA1 : Hd ≠ A1 := Ne.symm (ne_of_none (s8 _ _ eA1) hHd)
    have nHA2 : Hd ≠ A2 := Ne.symm (ne_of_none eA2 hHd)
    have s69 := (s7.trans s8).trans s9
    have TP9 := TP6.same s69
    have TQ9 := TP2.same s69
    have eA19 := s9 _ _ (s8 _ _ eA1)
    have eA29 := s9 _ _ eA2
    -- the judges
    refine ⟨_, rfl, Or.inl ⟨Hd, _, _, .ref A1, rfl, rfl, SqL.of eHd, rfl, A1, ps, rfl, TP9.prs eA19, by omega, .inl (s69 _ _ hT6), fun f1 c1 c1' d1 ord1 Ha hO1 sa eTa J1 => ?_⟩⟩
    have tr : ∀ {H H' : Hp}, SameT H H' → ∀ {b : Addr} {xs : List V}, H b = some (.lst xs) → H' b = some (.lst xs) := fun {H H'} z {b xs} e => z _ _ (fun _ y => nomatch y) e
    refine ⟨_, rfl, Or.inl ⟨Hd, _, _, .ref A2, rfl, rfl, SqL.of (tr sa eHd), rfl, A2, ps2, rfl, (tups_sameT sa TQ9).prs (tr sa eA29), by omega, .inr ⟨c1', eTa, J1.code⟩, fun f2 c2 c2' d2 ord2 Hb hO2 sb eTb J2 => ?_⟩⟩
    have sab := sa.trans sb
    have J1b := J1.same sb
    have eHdb := tr sab eHd
    have eA1b := tr sab eA19
    have eA2b := tr sab eA29
    have eLb := tr sab (s69 _ _ eL6)
    have ePb := tr sab (s69 _ _ eP6)
    have eQb := tr sab (s69 _ _ eP2)
    have TPb := tups_sameT sab TP9
    have TQb := tups_sameT sab TQ9
    -- handed != [ones, others]
    refine ⟨_, rfl, _, rfl, _, rfl, two_le, fun Z hZ => ?_⟩
    have sz := same_new (o := .lst [.ref P, .ref P2]) hZ
    have eZ : (upd Hb Z (.lst [.ref P, .ref P2])) Z = some (.lst [.ref P, .ref P2]) := upd_same
    generalize upd Hb Z (.lst [.ref P, .ref P2]) = Hc at sz eZ ⊢
    have TPc := TPb.same sz
    have TQc := TQb.same sz
    refine ⟨4, .lst [.lst (ps.map prD), .lst (ps2.map prD)], .lst [.lst (ps.map prD), .lst (ps2.map prD)], .lst (.cons (.lst (Cmps.of fun d hd e he => ?_)) (.cons (.lst (Cmps.of fun d hd e he => ?_)) (.nil _))), by decide, .lst (SqL.of (sz _ _ eHdb)) (.cons (.lst (SqL.of (sz _ _ eA1b)) TPc.dts) (.cons (.lst (SqL.of (sz _ _ eA2b)) TQc.dts) .nil)), .lst (SqL.of eZ) (.cons (.lst (SqL.of (sz _ _ ePb)) TPc.dts) (.cons (.lst (SqL.of (sz _ _ eQb)) TQc.dts) .nil)), _, rfl, ?_⟩
    · obtain ⟨p1, _, rfl⟩ := List.mem_map.mp hd
      obtain ⟨p2, _, rfl⟩ := List.mem_map.mp he
      exact cmp_pair p1 p2
    · obtain ⟨p1, _, rfl⟩ := List.mem_map.mp hd
      obtain ⟨p2, _, rfl⟩ := List.mem_map.mp he
      exact cmp_pair p1 p2
    rw [dec_true rfl]
    refine iteF ?_
    -- one pair more, and none
    have J1c := J1b.same (.of sz)
    have J2c := J2.same (.of sz)
    have eLc := sz _ _ eLb
    have eA1c := sz _ _ eA1b
    have eA2c := sz _ _ eA2b
    have eHdc := sz _ _ eHdb
    have hlast : (ls.map V.str)[(ls.map V.str).length - 1]? = some (.str (ls.getD (ls.length - 1) default)) := by rw [List.length_map]; exact getD_at (by omega)
    refine ⟨_, rfl, Or.inl ⟨Hd, _, _, .ref A1, rfl, rfl, SqL.of eHdc, rfl, Or.inl ⟨rfl, _, SqL.of eA1c⟩, _, rfl, Or.inl ⟨L, _, _, _, rfl, rfl, SqL.of eLc, at_zero (getD_at (i := 0) (by omega)), _, rfl, _, rfl, Or.inl ⟨L, _, _, _, rfl, rfl, SqL.of eLc, atI_lst hlast, two_le, fun M hM => ?_⟩⟩⟩⟩
    have sm := same_new (o := .tup [.str (ls.getD 0 default), .str (ls.getD (ls.length - 1) default)]) hM
    generalize upd Hc M (.tup [.str (ls.getD 0 default), .str (ls.getD (ls.length - 1) default)]) = Hm at sm ⊢
    refine ⟨A1, _, _, rfl, rfl, sm _ _ eA1c, by rw [List.length_map, TP.len]; exact small1000 (by omega), ?_⟩
    have J1d := Jdg.upd (ys := ts.map V.ref ++ [.ref M]) (sm _ _ eA1c) (J1c.same (.of sm))
    have J2d := Jdg.upd (ys := ts.map V.ref ++ [.ref M]) (sm _ _ eA1c) (J2c.same (.of sm))
    have kd : ∀ {b : Addr} {o : HO}, b ≠ A1 → Hc b = some o → (upd Hm A1 (.lst (ts.map V.ref ++ [.ref M]))) b = some o := fun nb e => by rw [upd_ne nb]; exact sm _ _ e
    have tpd : ∀ {b : Addr} {xs : List V}, Hc b = some (.tup xs) → (upd Hm A1 (.lst (ts.map V.ref ++ [.ref M]))) b = some (.tup xs) := fun e => kd (ne_of e eA1c (fun z => nomatch z)) e
    generalize upd Hm A1 (.lst (ts.map V.ref ++ [.ref M])) = Hn at J1d J2d kd tpd ⊢
    have eA2n := kd (Ne.symm nA12) eA2c
    have eHdn := kd nHA1 eHdc
    refine ⟨_, rfl, Or.inl ⟨Hd, _, _, .ref A2, rfl, rfl, SqL.of eHdn, rfl, Or.inl ⟨rfl, _, SqL.of eA2n⟩, A2, _, rfl, rfl, eA2n, ?_⟩⟩
    have J1e := Jdg.upd (ys := []) eA2n J1d
    have J2e := Jdg.upd (ys := []) eA2n J2d
    have ke : ∀ {b : Addr} {o : HO}, b ≠ A1 → b ≠ A2 → Hc b = some o → (upd Hn A2 (.lst [])) b = some o := fun nb nb2 e => by rw [upd_ne nb2]; exact kd nb e
    have tpe : ∀ {b : Addr} {xs : List V}, Hc b = some (.tup xs) → (upd Hn A2 (.lst [])) b = some (.tup xs) := fun e => ke (ne_of e eA1c (fun z => nomatch z)) (ne_of e eA2c (fun z => nomatch z)) e
    generalize upd Hn A2 (.lst []) = He at J1e J2e ke tpe ⊢
    have eLe := ke nLA1 nLA2 eLc
    have ePe := ke nPA1 nPA2 (sz _ _ ePb)
    have eQe := ke nQA1 nQA2 (sz _ _ eQb)
    have TPe : Tups He ts ps := ⟨TPc.len, fun n t p h1 h2 => tpe (TPc.at_ n t p h1 h2)⟩
    have TQe : Tups He ts2 ps2 := ⟨TQc.len, fun n t p h1 h2 => tpe (TQc.at_ n t p h1 h2)⟩
    -- what is due
    refine ⟨_, rfl, _, rfl, P, L, ps, ls, rfl, TPe.prs ePe, SqL.of eLe, by omega, hin, fun R rs g1 Hf hR sf R1 hg1 => ?_⟩
    refine ⟨_, rfl, _, rfl, P2, L, ps2, ls, rfl, (TQe.same sf).prs (sf _ _ eQe), SqL.of (sf _ _ eLe), by omega, hin2, fun R' rs' g2 Hg hR' sg R2 hg2 => ?_⟩
    have J1g := (J1e.same (.of sf)).same (.of sg)
    have J2g := (J2e.same (.of sf)).same (.of sg)
    have eLg := sg _ _ (sf _ _ eLe)
    have R1g := R1.same sg
    have en : ((ls.length : Nat) : Int).toNat = ls.length := Int.toNat_natCast _
    refine ⟨_, rfl, _, _, rfl, Or.inl ⟨_, SqL.of eLg, rfl⟩, _, rfl, ?_⟩
    rw [List.length_map]
    refine ⟨by omega, by omega, for_range (lo := 0) (n := ((ls.length : Nat) : Int).toNat) (fun i σ H' => ∃ u12 u13, σ = [some (.ref a), some (.ref L), some (.int mm), some (.ref p0), some (.int (cn : Int)), some (.ref P), some (.ref P2), some (.ref Hd), some (.ref f1), some (.ref f2), some (.ref R), some (.ref R'), u12, u13] ∧ Same Hg H') ⟨none, none, rfl, Same.refl _⟩ ?_ ?_⟩
    · rintro i σ H2 hi ⟨u12, u13, rfl, q2⟩
      rw [en] at hi
      refine ⟨_, rfl, _, _, rfl, Or.inl ⟨_, SqL.of (q2 _ _ eLg), rfl⟩, _, rfl, ?_⟩
      rw [List.length_map]
      refine ⟨by omega, by omega, for_range (lo := 0) (n := ((ls.length : Nat) : Int).toNat) (fun j σ H' => ∃ u13, σ = [some (.ref a), some (.ref L), some (.int mm), some (.ref p0), some (.int (cn : Int)), some (.ref P), some (.ref P2), some (.ref Hd), some (.ref f1), some (.ref f2), some (.ref R), some (.ref R'), some (.int (0 + (i : Int))), u13] ∧ Same Hg H') ⟨_, rfl, q2⟩ ?_ ?_⟩
      · rintro j σ H3 hj ⟨u13, rfl, q3⟩
        rw [en] at hj
        have hxi : (ls.map V.str)[i]? = some (.str ls[i]) := by rw [List.getElem?_map, List.getElem?_eq_getElem hi]; rfl
        have hxj : (ls.map V.str)[j]? = some (.str ls[j]) := by rw [List.getElem?_map, List.getElem?_eq_getElem hj]; rfl
        have df : ∀ {ord ps : List (Str × Str)} {g : Nat → Nat → Bool}, OrdOf ps ord → (g i j = true ↔ Path ps ls[i] ls[j]) → dec ((ls[i], ls[j]) ∈ ord) = g i j := fun {ord ps g} hO hg => by
          cases e : g i j with
          | true => exact dec_true ((hO.mem _ _).mpr (hg.mp e))
          | false => exact dec_false fun z => absurd (hg.mpr ((hO.mem _ _).mp z)) (by rw [e]; decide)
        have f1e := df hO1 (hg1 i j ls[i] ls[j] (List.getElem?_eq_getElem hi) (List.getElem?_eq_getElem hj))
        have f2e := df hO2 (hg2 i j ls[i] ls[j] (List.getElem?_eq_getElem hi) (List.getElem?_eq_getElem hj))
        have J1h := J1g.same (.of q3)
        have L3 : SqL K H3 L (ls.map V.str) := SqL.of (q3 _ _ eLg)
        refine ⟨_, rfl, f1, c1, c1', rfl, J1h.fn, _, rfl, _, rfl, Or.inl ⟨L, _, _, _, rfl, rfl, L3, at0 hxi, _, rfl, _, rfl, Or.inl ⟨L, _, _, _, rfl, rfl, L3, at0 hxj, d1, J1h.fn, J1h.code, J1h.cell, rfl, isb_read J1h.dict J1h.cell fun Hx q4 _ => ?_⟩⟩⟩
        generalize upd Hx c1 (CellO c1 d1) = H4 at q4 ⊢
        obtain ⟨ra, h1, h2, h3, h4⟩ := (R1g.same (q3.trans q4)).cell hi hj
        refine ⟨_, rfl, _, rfl, Or.inl ⟨R, _, _, .ref ra, rfl, rfl, SqL.of (R1g.same (q3.trans q4)).top, at0 h1, _, rfl, Or.inl ⟨ra, _, _, .bl (g1 i j), rfl, rfl, SqL.of h3, at0 h4, _, _, rfl, _, rfl, ?_⟩⟩⟩
        rw [f1e, beq_self_eq_true]
        refine iteF ?_
        have J2h := J2g.same (.of (q3.trans q4))
        have L4 : SqL K H4 L (ls.map V.str) := SqL.of (q4 _ _ (q3 _ _ eLg))
        refine ⟨_, rfl, f2, c2, c2', rfl, J2h.fn, _, rfl, _, rfl, Or.inl ⟨L, _, _, _, rfl, rfl, L4, at0 hxi, _, rfl, _, rfl, Or.inl ⟨L, _, _, _, rfl, rfl, L4, at0 hxj, d2, J2h.fn, J2h.code, J2h.cell, rfl, isb_read J2h.dict J2h.cell fun Hx q5 _ => ?_⟩⟩⟩
        generalize upd Hx c2 (CellO c2 d2) = H5 at q5 ⊢
        obtain ⟨rb, h1', h2', h3', h4'⟩ := (R2.same ((q3.trans q4).trans q5)).cell hi hj
        refine ⟨_, rfl, _, rfl, Or.inl ⟨R', _, _, .ref rb, rfl, rfl, SqL.of (R2.same ((q3.trans q4).trans q5)).top, at0 h1', _, rfl, Or.inl ⟨rb, _, _, .bl (g2 i j), rfl, rfl, SqL.of h3', at0 h4', _, _, rfl, _, rfl, ?_⟩⟩⟩
        rw [f2e, beq_self_eq_true]
        exact iteF ⟨_, rfl, (q3.trans q4).trans q5⟩
      · rintro σ H3 ⟨u13, rfl, q3⟩
        exact ⟨_, _, rfl, q3⟩
    · rintro σ H2 ⟨u12, u13, rfl, q2⟩
      exact k H2
theorem call_law {f : Addr} {fd : FuncData} (B : Blt mg) (c__law_labels : Callee P w K mg base "_law_labels" 1 ["_law_cell", "_law_many"] (sp__law_labels K)) (c__law_cell_at : Callee P w K mg base "_law_cell_at" 1 ["_law_script", "_law_k"] (sp__law_cell_at K)) (c_judge : Callee P w K mg base "judge" 3 ["pairs"] (sp_judge K)) (c__law_rows : Callee P w K mg base "_law_rows" 1 ["_law_pairs", "_law_labels_here"] (sp__law_rows K)) (c__law_told : Callee P w K mg base "_law_told" 1 ["_law_found", "_law_due"] (sp__law_told K)) (F : Fun K "law" "law" s_law f fd) (hm : mg "law" = some (.ref f)) : Callee P w K mg base "law" 4 ["_law_script"] (sp_law K) :=
  ⟨f, fd, ok_law B c__law_labels c__law_cell_at c_judge c__law_rows c__law_told F, hm, F.kp, F.binds fun _ _ _ _ _ _ us hl => (by obtain ⟨x0, rfl⟩ := len_1 hl; rfl)⟩
end
theorem all_mk {l : PySem.W.OpenLaw} {w : World} {K : PySem.W.Frag} {h : Heap} {mg : Str → Option Value} {fa : Addr} (X : K.In h) (G : h.Ns mainGlobals mg) (hfa : mg "law" = some (.ref fa))
    {f0 : Addr} {od0 an0 : Option Addr} {sl0 : Array (Option Value)} {oc0 kV0 dc0 pm0 cd0 ct0 : Value}
    {f1 : Addr} {od1 an1 : Option Addr} {sl1 : Array (Option Value)} {oc1 kV1 dc1 pm1 cd1 ct1 : Value}
    {f2 : Addr} {od2 an2 : Option Addr} {sl2 : Array (Option Value)} {oc2 kV2 dc2 pm2 cd2 ct2 : Value}
    {f3 : Addr} {od3 an3 : Option Addr} {sl3 : Array (Option Value)} {oc3 kV3 dc3 pm3 cd3 ct3 : Value}
    {f4 : Addr} {od4 an4 : Option Addr} {sl4 : Array (Option Value)} {oc4 kV4 dc4 pm4 cd4 ct4 : Value}
    {f5 : Addr} {od5 an5 : Option Addr} {sl5 : Array (Option Value)} {oc5 kV5 dc5 pm5 ct5 : Value}
    {f6 : Addr} {od6 an6 : Option Addr} {sl6 : Array (Option Value)} {oc6 kV6 dc6 pm6 cd6 ct6 : Value}
    {f7 : Addr} {od7 an7 : Option Addr} {sl7 : Array (Option Value)} {oc7 kV7 dc7 pm7 cd7 ct7 : Value}
    {f8 : Addr} {od8 an8 : Option Addr} {sl8 : Array (Option Value)} {oc8 kV8 dc8 pm8 cd8 ct8 : Value}
    (a0 : PySem.W.nsIn K mainGlobals "_law_labels" = some (some (.ref f0))) (l0 : K.lookup f0 = some ⟨oc0, od0, .func (PySem.W.fnOf "_law_labels" "_law_labels" (defArgs s__law_labels) (defBody s__law_labels) (defScope s__law_labels) .none kV0 dc0 pm0 an0 cd0 ct0), sl0⟩) (c0 : PySem.W.codeIn K cd0 "_law_labels" = true) (k0 : PySem.W.keepIn K (.ref f0) = true)
    (a1 : PySem.W.nsIn K mainGlobals "_law_cell_at" = some (some (.ref f1))) (l1 : K.lookup f1 = some ⟨oc1, od1, .func (PySem.W.fnOf "_law_cell_at" "_law_cell_at" (defArgs s__law_cell_at) (defBody s__law_cell_at) (defScope s__law_cell_at) .none kV1 dc1 pm1 an1 cd1 ct1), sl1⟩) (c1 : PySem.W.codeIn K cd1 "_law_cell_at" = true) (k1 : PySem.W.keepIn K (.ref f1) = true)
    (a2 : PySem.W.nsIn K mainGlobals "worse_by_better" = some (some (.ref f2))) (l2 : K.lookup f2 = some ⟨oc2, od2, .func (PySem.W.fnOf "worse_by_better" "worse_by_better" (defArgs s_worse_by_better) (defBody s_worse_by_better) (defScope s_worse_by_better) .none kV2 dc2 pm2 an2 cd2 ct2), sl2⟩) (c2 : PySem.W.codeIn K cd2 "worse_by_better" = true) (k2 : PySem.W.keepIn K (.ref f2) = true)
    (a3 : PySem.W.nsIn K mainGlobals "reached" = some (some (.ref f3))) (l3 : K.lookup f3 = some ⟨oc3, od3, .func (PySem.W.fnOf "reached" "reached" (defArgs s_reached) (defBody s_reached) (defScope s_reached) .none kV3 dc3 pm3 an3 cd3 ct3), sl3⟩) (c3 : PySem.W.codeIn K cd3 "reached" = true) (k3 : PySem.W.keepIn K (.ref f3) = true)
    (a4 : PySem.W.nsIn K mainGlobals "all_that_follows" = some (some (.ref f4))) (l4 : K.lookup f4 = some ⟨oc4, od4, .func (PySem.W.fnOf "all_that_follows" "all_that_follows" (defArgs s_all_that_follows) (defBody s_all_that_follows) (defScope s_all_that_follows) .none kV4 dc4 pm4 an4 cd4 ct4), sl4⟩) (c4 : PySem.W.codeIn K cd4 "all_that_follows" = true) (k4 : PySem.W.keepIn K (.ref f4) = true)
    {cJ TJ : Addr}
    (a5 : PySem.W.nsIn K mainGlobals "judge" = some (some (.ref f5))) (l5 : K.lookup f5 = some ⟨oc5, od5, .func (PySem.W.fnOf "judge" "judge" (defArgs s_judge) (defBody s_judge) (defScope s_judge) .none kV5 dc5 pm5 an5 (.ref cJ) ct5), sl5⟩) (c5 : PySem.W.codeIn K (.ref cJ) "judge" = true) (k5 : PySem.W.keepIn K (.ref f5) = true)
    {ocJ : Value} {odJ : Option Addr} {vsJ : Array Value} {slJ : Array (Option Value)} (lJ : K.lookup cJ = some ⟨ocJ, odJ, .fields vsJ, slJ⟩) (vJ : (vsJ[11]? : Option Value) = some (.ref TJ))
    (a6 : PySem.W.nsIn K mainGlobals "_law_rows" = some (some (.ref f6))) (l6 : K.lookup f6 = some ⟨oc6, od6, .func (PySem.W.fnOf "_law_rows" "_law_rows" (defArgs s__law_rows) (defBody s__law_rows) (defScope s__law_rows) .none kV6 dc6 pm6 an6 cd6 ct6), sl6⟩) (c6 : PySem.W.codeIn K cd6 "_law_rows" = true) (k6 : PySem.W.keepIn K (.ref f6) = true)
    (a7 : PySem.W.nsIn K mainGlobals "_law_told" = some (some (.ref f7))) (l7 : K.lookup f7 = some ⟨oc7, od7, .func (PySem.W.fnOf "_law_told" "_law_told" (defArgs s__law_told) (defBody s__law_told) (defScope s__law_told) .none kV7 dc7 pm7 an7 cd7 ct7), sl7⟩) (c7 : PySem.W.codeIn K cd7 "_law_told" = true) (k7 : PySem.W.keepIn K (.ref f7) = true)
    (a8 : PySem.W.nsIn K mainGlobals "law" = some (some (.ref f8))) (l8 : K.lookup f8 = some ⟨oc8, od8, .func (PySem.W.fnOf "law" "law" (defArgs s_law) (defBody s_law) (defScope s_law) .none kV8 dc8 pm8 an8 cd8 ct8), sl8⟩) (c8 : PySem.W.codeIn K cd8 "law" = true) (k8 : PySem.W.keepIn K (.ref f8) = true)
    (z_bool : PySem.W.nsIn K mainGlobals "bool" = some none)
    (z_dict : PySem.W.nsIn K mainGlobals "dict" = some none)
    (z_isinstance : PySem.W.nsIn K mainGlobals "isinstance" = some none)
    (z_len : PySem.W.nsIn K mainGlobals "len" = some none)
    (z_list : PySem.W.nsIn K mainGlobals "list" = some none)
    (z_range : PySem.W.nsIn K mainGlobals "range" = some none)
    (z_sorted : PySem.W.nsIn K mainGlobals "sorted" = some none)
    : ∃ fd : FuncData, (∀ (s : Shared) (v : Value), BindsTo s fd ⟨[v], []⟩ [("_law_script", v)]) ∧ ∃ c, PySem.W.tabIn K "judge" = some (c, tabT K "judge") ∧ ∀ base : Heap, K.In base → base.Ns mainGlobals mg → Nst mg base c (tabT K "judge") → FnOk l.prog w K mg base CX0 4 fa fd ["_law_script"] (sp_law K) := by
  have e := hfa.symm.trans (PySem.W.mg_of X G a8)
  cases e
  have B : Blt mg := ⟨PySem.W.mg_none_of X G z_bool, PySem.W.mg_none_of X G z_dict, PySem.W.mg_none_of X G z_isinstance, PySem.W.mg_none_of X G z_len, PySem.W.mg_none_of X G z_list, PySem.W.mg_none_of X G z_range, PySem.W.mg_none_of X G z_sorted⟩
  have F0 := fun_mk (st := s__law_labels) l0 c0 k0
  have F1 := fun_mk (st := s__law_cell_at) l1 c1 k1
  have F2 := fun_mk (st := s_worse_by_better) l2 c2 k2
  have F3 := fun_mk (st := s_reached) l3 c3 k3
  have F4 := fun_mk (st := s_all_that_follows) l4 c4 k4
  have F5 := fun_mk (st := s_judge) l5 c5 k5
  have F6 := fun_mk (st := s__law_rows) l6 c6 k6
  have F7 := fun_mk (st := s__law_told) l7 c7 k7
  have F8 := fun_mk (st := s_law) l8 c8 k8
  refine ⟨PySem.W.fnOf "law" "law" (defArgs s_law) (defBody s_law) (defScope s_law) .none kV8 dc8 pm8 an8 cd8 ct8, fun s v => .of_eq rfl, _, tabT_of (tabIn_of a5 l5 rfl lJ vJ), fun base _ _ NS => ?_⟩
  have K__law_labels : Callee l.prog w K mg base "_law_labels" 1 ["_law_cell", "_law_many"] (sp__law_labels K) := call__law_labels B  F0 (PySem.W.mg_of X G a0)
  have K__law_cell_at : Callee l.prog w K mg base "_law_cell_at" 1 ["_law_script", "_law_k"] (sp__law_cell_at K) := call__law_cell_at B  F1 (PySem.W.mg_of X G a1)
  have K_worse_by_better : Callee l.prog w K mg base "worse_by_better" 1 ["pairs"] (sp_worse_by_better K) := call_worse_by_better B  F2 (PySem.W.mg_of X G a2)
  have K_reached : Callee l.prog w K mg base "reached" 1 ["worse_labels", "start"] (sp_reached K) := call_reached B  F3 (PySem.W.mg_of X G a3)
  have K_all_that_follows : Callee l.prog w K mg base "all_that_follows" 2 ["pairs"] (sp_all_that_follows K) := call_all_that_follows B K_worse_by_better K_reached F4 (PySem.W.mg_of X G a4)
  have K_judge : Callee l.prog w K mg base "judge" 3 ["pairs"] (sp_judge K) := call_judge B K_all_that_follows F5 (PySem.W.mg_of X G a5) NS rfl
  have K__law_rows : Callee l.prog w K mg base "_law_rows" 1 ["_law_pairs", "_law_labels_here"] (sp__law_rows K) := call__law_rows B  F6 (PySem.W.mg_of X G a6)
  have K__law_told : Callee l.prog w K mg base "_law_told" 1 ["_law_found", "_law_due"] (sp__law_told K) := call__law_told B  F7 (PySem.W.mg_of X G a7)
  exact ok_law B K__law_labels K__law_cell_at K_judge K__law_rows K__law_told F8
theorem walk {l : PySem.W.OpenLaw} {q : Program} {loose : List Str} {XP : (Str → Option Value) → Heap → Prop} {YP : World → Heap → Prop} {d : DefRec} {K : Params → PySem.W.Frag} (hn : l.most = some 63) (hdf : d.params.defaults = [])
    (hY : ∀ (w : World) (h : Heap), YP w h → (K w.params).In h) (hK : ∀ w : World, PySem.W.noTabs (K w.params) = true) (hj : ((recsOf q).find? fun e => e.name == ("judge" : Str)).isSome = true)
    (F : ∀ (w : World) (mg : Str → Option Value) (fa : Addr) (h : Heap), (K w.params).In h → h.Ns mainGlobals mg → mg d.name = some (.ref fa) →
      ∃ fd : FuncData, (∀ (s : Shared) (u : Value), BindsTo s fd ⟨[u], []⟩ [("_law_script", u)]) ∧ ∃ c, PySem.W.tabIn (K w.params) "judge" = some (c, tabT (K w.params) "judge") ∧ ∀ base : Heap, (K w.params).In base → base.Ns mainGlobals mg → Nst mg base c (tabT (K w.params) "judge") → FnOk l.prog w (K w.params) mg base CX0 4 fa fd ["_law_script"] (sp_law (K w.params))) :
    PySem.W.WalkO q loose XP YP l.row.toRowW d [] (fun f vs => PySem.call f vs) :=
  L2.walk_ofT (n := 63) (k := 4) (x := "_law_script") (CX := fun _ => CX0) (sp := fun w => sp_law (K w.params)) hn (by decide) hdf ⟨rfl, by decide, by decide⟩ hY hK hj F (fun _ _ a ns hl hO hS => ⟨a, ns, rfl, hS, hl, hO.1, fun _ => rfl⟩) fun _ _ _ _ _ z => z
end K05
namespace L2
open PySem PySem.W PySem.W.Fast in
theorem left_of {p q : Program} {loose : List Str} {Xt : Shared → Bool} {α : Type} {Yf : Shared → α} {Ya : World → α} {N : Nat}
    (h : ∀ w : World, Option.map (fun s => (tw4187177175401517315 q loose (tw5923862056798008813 p.main.body) Xt true s, Yf s)) (((tw10274390034422433532 tw14364793385576792824 (opening p) w N (PySem.start (opening p)).1 (PySem.start (opening p)).2).bind (tw14289696077712309145 p)).bind fun s₀ =>
      match s₀.heap.isNs mainGlobals && s₀.gens.size == 0 with
      | true => (tw14082659384304107361 tw14364793385576792824 p w s₀.heap.objs.size (s₀.heap.nsMap mainGlobals "__annotations__") N s₀ (topStub p)).bind fun s₁ => match staticsOk (tw5923862056798008813 p.main.body) s₀.heap s₁.heap && namesBound p s₁.heap && gensDone s₁ && laidKept s₀.heap s₁.heap with
        | true => some s₁
        | false => none
      | false => none) = some (openGood q loose, Ya w)) : LeftO p q loose Xt Yf Ya N := by
  intro w
  have h := h w
  rw [← te14082659384304107361, ← te10274390034422433532, ← te14364793385576792824, ← te4187177175401517315, ← te5923862056798008813, ← te14289696077712309145] at h
  exact h
end L2
namespace K05
open PySem
def own : Stmt → Bool
  | .Assign [.Name x _] _ _ => x != "__name__"
  | _ => true
def view : Program := { PySem.Challenge.pw_namepaths_k05_judges with main := { PySem.Challenge.pw_namepaths_k05_judges.main with body := PySem.Challenge.pw_namepaths_k05_judges.main.body.filter own } }
end K05
open PySem PySem.W PyProof.Rows
local macro_rules | `(tactic| o_head $H:term) => `(tactic| refine holds_open (q := K05.view) (loose := []) (Xt := fun s => xlAt K05.view [] s && recOk [] s) (XP := XL K05.view []) (Yf := Hook.obs $H) (Ya := Hook.val $H) (YP := Hook.says $H) (N := 40000) ?hl (Hook.of $H) (Hook.keeps $H) (fun s e => xl_of s (Bool.and_eq_true_iff.mp e).1) XL.keeps (by rfl) (by rfl) (by rfl) (fun s e => recFacts_of (Bool.and_eq_true_iff.mp e).2) (by rfl) (by first | assumption | decide +kernel) (by decide +kernel) ⟨rfl, rfl, rfl, rfl, rfl, by decide +kernel⟩ ?hw ?hc)
open PySem PySem.W PyProof.Rows
set_option maxRecDepth 100000 in
set_option maxHeartbeats 0 in
theorem PySem.Challenge.cw_namepaths_k05_judges_holds : PySem.Challenge.rw_namepaths_k05_judges.Holds := by
  w_on; o_law; k_head
  case hl =>
    refine L2.left_of fun w => ?_
    kernel_rfl
  case hw => w_witness2
  k_fill
  refine K05.walk (l := PySem.Challenge.rw_namepaths_k05_judges) rfl rfl (fun w h Y => PySem.W.km_in_of Y) ?hK ?hj ?F
  case hK => intro w; kernel_rfl
  case hj => decide +kernel
  case F =>
    intro w mg fa h KX G hmg
    refine' K05.all_mk KX G hmg ?a0 ?l0 ?c0 ?k0 ?a1 ?l1 ?c1 ?k1 ?a2 ?l2 ?c2 ?k2 ?a3 ?l3 ?c3 ?k3 ?a4 ?l4 ?c4 ?k4 ?a5 ?l5 ?c5 ?k5 ?lJ ?vJ ?a6 ?l6 ?c6 ?k6 ?a7 ?l7 ?c7 ?k7 ?a8 ?l8 ?c8 ?k8 ?z_bool ?z_dict ?z_isinstance ?z_len ?z_list ?z_range ?z_sorted
    (case a0 => k_is)
    (case l0 => k_is)
    (case c0 => k_is)
    (case k0 => k_is)
    (case a1 => k_is)
    (case l1 => k_is)
    (case c1 => k_is)
    (case k1 => k_is)
    (case a2 => k_is)
    (case l2 => k_is)
    (case c2 => k_is)
    (case k2 => k_is)
    (case a3 => k_is)
    (case l3 => k_is)
    (case c3 => k_is)
    (case k3 => k_is)
    (case a4 => k_is)
    (case l4 => k_is)
    (case c4 => k_is)
    (case k4 => k_is)
    (case a5 => k_is)
    (case l5 => k_is)
    (case c5 => k_is)
    (case k5 => k_is)
    (case lJ => k_is)
    (case vJ => rfl)
    (case a6 => k_is)
    (case l6 => k_is)
    (case c6 => k_is)
    (case k6 => k_is)
    (case a7 => k_is)
    (case l7 => k_is)
    (case c7 => k_is)
    (case k7 => k_is)
    (case a8 => k_is)
    (case l8 => k_is)
    (case c8 => k_is)
    (case k8 => k_is)
    (case z_bool => k_is)
    (case z_dict => k_is)
    (case z_isinstance => k_is)
    (case z_len => k_is)
    (case z_list => k_is)
    (case z_range => k_is)
    (case z_sorted => k_is)
