import PyProof.Rows.All
import Wide.All
import OpenK.AllK
import Wide.FinOn
import Lean
import PyProof.EqAt
import PyProof.EqKinds
import PyProof.TupleCall
import PySem.Challenge.RW_namepaths_k75_tables_written
set_option Elab.async false
set_option linter.all false
set_option maxRecDepth 100000
set_option maxHeartbeats 1000000
set_option Elab.async false
set_option linter.all false
set_option maxRecDepth 100000
/-! THE HAND LAYER, for ints, bools, texts, own classes, LISTS and tuples (index, slices, in, append, pop ..), calls, loops. Paste it whole ahead of your own text; what your proof does not reach may be deleted. -/
namespace L2
open PySem PySem.Spec PyProof.Rows

/-- a key: an int or a str -/
abbrev Key := Sum Int Str
def keyIs : Key → Value → Bool
  | .inl k, v => Value.isInt k v
  | .inr x, v => Value.isStrOf x v
def keyH (w : World) : Key → Int
  | .inl k => hashInt k
  | .inr x => hashStr w x
theorem keyIs_shape : ∀ {k : Key} {v : Value}, keyIs k v = true → (∃ i t, k = Sum.inl i ∧ v = Value.int i t) ∨ (∃ x t, k = Sum.inr x ∧ v = Value.str x t)
  | .inl i, v, h => by
    obtain ⟨t, e⟩ := Value.isInt_shape (k := i) (v := v) h
    exact .inl ⟨i, t, rfl, e⟩
  | .inr x, v, h => by
    obtain ⟨t, e⟩ := Value.isStrOf_shape (x := x) (v := v) h
    exact .inr ⟨x, t, rfl, e⟩
theorem keyIs_int (i : Int) (t : Tok) : keyIs (.inl i) (.int i t) = true := by simp [keyIs, Value.isInt]
theorem keyIs_str (x : Str) (t : Tok) : keyIs (.inr x) (.str x t) = true := by simp [keyIs, Value.isStrOf]
theorem key_ll (a b : Int) : decide ((Sum.inl a : Key) = Sum.inl b) = (a == b) := by
  by_cases e : a = b
  · subst e; simp
  · have h : ¬ (Sum.inl a : Key) = Sum.inl b := fun q => e (Sum.inl.inj q)
    rw [decide_eq_false h]
    exact (beq_eq_false_iff_ne.mpr e).symm
theorem key_rr (a b : Str) : decide ((Sum.inr a : Key) = Sum.inr b) = decide (a = b) := by
  by_cases e : a = b
  · subst e; simp
  · have h : ¬ (Sum.inr a : Key) = Sum.inr b := fun q => e (Sum.inr.inj q)
    rw [decide_eq_false h, decide_eq_false e]
theorem key_lr (a : Int) (b : Str) : decide ((Sum.inl a : Key) = Sum.inr b) = false := decide_eq_false (fun q => nomatch q)
theorem key_rl (a : Str) (b : Int) : decide ((Sum.inr a : Key) = Sum.inl b) = false := decide_eq_false (fun q => nomatch q)

def mixKind (prog : Program) (w : World) : PySem.KeyKind prog w Key where
  is := keyIs
  hash := keyH w
  inj := fun v a b ha hb => by
    rcases keyIs_shape ha with ⟨i, t, rfl, rfl⟩ | ⟨x, t, rfl, rfl⟩
    · rcases keyIs_shape hb with ⟨j, u, rfl, e⟩ | ⟨y, u, rfl, e⟩
      · injection e with e1 _; rw [e1]
      · exact nomatch e
    · rcases keyIs_shape hb with ⟨j, u, rfl, e⟩ | ⟨y, u, rfl, e⟩
      · exact nomatch e
      · injection e with e1 _; rw [e1]
  byValue := fun k v h => by
    rcases keyIs_shape h with ⟨i, t, rfl, rfl⟩ | ⟨x, t, rfl, rfl⟩ <;> rfl
  pyHash := fun hv h => by
    rcases keyIs_shape hv with ⟨i, t, rfl, rfl⟩ | ⟨x, t, rfl, rfl⟩
    · exact wpAny_pyHash_int h
    · exact wpAny_pyHash_str h
  eqBool := fun hu hv h => by
    rcases keyIs_shape hu with ⟨i, t, rfl, rfl⟩ | ⟨x, t, rfl, rfl⟩
    · rcases keyIs_shape hv with ⟨j, u, rfl, rfl⟩ | ⟨y, u, rfl, rfl⟩
      · rw [key_ll] at h; exact wpAny_eqBool_int h
      · rw [key_lr] at h; exact SeqAt.EqAt.int_str i t y u _ _ _ _ h
    · rcases keyIs_shape hv with ⟨j, u, rfl, rfl⟩ | ⟨y, u, rfl, rfl⟩
      · rw [key_rl] at h; exact SeqAt.EqAt.str_int x t j u _ _ _ _ h
      · rw [key_rr] at h; exact wpAny_eqBool_str h
  «strs» := fun k x t v h => by
    rcases keyIs_shape h with ⟨i, u, rfl, e⟩ | ⟨y, u, rfl, e⟩
    · exact nomatch e
    · injection e with e1 _
      subst e1
      cases v <;> rfl

theorem mixKind_int (prog : Program) (w : World) (i : Int) (t : Tok) : (mixKind prog w).is (.inl i) (.int i t) = true := keyIs_int i t
theorem mixKind_str (prog : Program) (w : World) (x : Str) (t : Tok) : (mixKind prog w).is (.inr x) (.str x t) = true := keyIs_str x t
end L2

namespace L2
open PySem PySem.Spec PyProof.Rows

/-- a value, without the heap -/
inductive V where
  | non | bl (b : Bool) | int (i : Int) | str (x : Str) | byt (b : Array UInt8) | flt (b : UInt64) | ref (a : Addr) | ty (n : String)
  deriving DecidableEq

def RelV : V → Value → Prop
  | .non, u => u = Value.none
  | .bl b, u => u = Value.bool b
  | .int i, u => ∃ t, u = Value.int i t
  | .str x, u => ∃ t, u = Value.str x t
  | .byt b, u => ∃ t, u = Value.bytes b t
  | .flt b, u => ∃ t, u = Value.float b t
  | .ref a, u => u = Value.ref a
  | .ty n, u => u = Value.type n

abbrev Vals : List V → List Value → Prop := Paired RelV
theorem Vals.length {xs : List V} {us : List Value} (r : Vals xs us) : xs.length = us.length := Paired.length r
theorem Vals.get : ∀ {xs : List V} {us : List Value} {i : Nat} {x : V}, Vals xs us → xs[i]? = some x → ∃ u, us[i]? = some u ∧ RelV x u
  | _, _, _, _, .nil, e => by simp at e
  | _, _, 0, _, .cons r _, e => by simp at e; subst e; exact ⟨_, rfl, r⟩
  | _, _, i + 1, x, .cons _ t, e => by
    obtain ⟨u, h1, h2⟩ := Vals.get (i := i) (x := x) t (by simpa using e)
    exact ⟨u, by simpa using h1, h2⟩
theorem Vals.set {x : V} {u : Value} (r : RelV x u) : ∀ {xs : List V} {us : List Value} (i : Nat), Vals xs us → Vals (xs.set i x) (us.set i u)
  | _, _, _, .nil => .nil
  | _, _, 0, .cons _ t => .cons r t
  | _, _, i + 1, .cons q t => .cons q (Vals.set r i t)
theorem Vals.append : ∀ {xs ys : List V} {us ws : List Value}, Vals xs us → Vals ys ws → Vals (xs ++ ys) (us ++ ws)
  | _, _, _, _, .nil, s => s
  | _, _, _, _, .cons r t, s => .cons r (Vals.append t s)
theorem Vals.take : ∀ {xs : List V} {us : List Value} (n : Nat), Vals xs us → Vals (xs.take n) (us.take n)
  | _, _, 0, _ => .nil
  | _, _, _ + 1, .nil => .nil
  | _, _, n + 1, .cons r t => .cons r (Vals.take n t)
theorem Vals.drop : ∀ {xs : List V} {us : List Value} (n : Nat), Vals xs us → Vals (xs.drop n) (us.drop n)
  | _, _, 0, r => r
  | _, _, _ + 1, .nil => .nil
  | _, _, n + 1, .cons _ t => Vals.drop n t

def RelO : Option V → Option Value → Prop
  | some v, some u => RelV v u
  | none, none => True
  | _, _ => False
def KV {κ : Type} : List (κ × V) → List (κ × Value) → Prop := Paired fun (p : κ × V) (q : κ × Value) => p.1 = q.1 ∧ RelV p.2 q.2

/-- a key of a dict (00_mix): an int or a text -/
def kV : Key → V
  | .inl i => .int i
  | .inr x => .str x

/-- what stands at a tracked address -/
inductive HO where
  /-- a list -/
  | lst (xs : List V)
  /-- a tuple (never changes) -/
  | tup (xs : List V)
  /-- a dict whose keys are ints and texts; one whose keys are tuples of ints and texts (the empty one is both) -/
  | dK (kvs : List (Key × V)) | dT (kvs : List (List Key × V))
  /-- a set of ints: its members, its size -/
  | set (S : Int → Bool) (n : Nat)
  /-- an instance of the class at C, its dict at dx, its attributes -/
  | ins (C dx : Addr) (fs : List (Str × V))
  /-- the dict of the instance at x -/
  | own (x : Addr)
  /-- the dict of an exception -/
  | xd (fs : List (Str × V))
  /-- a bound method, f of x -/
  | met (f x : Addr)
  /-- a range object lo, lo + 1, .. below hi -/
  | rng (lo hi : Int)
  /-- a thing that is known to the object (the script; a dict while a loop walks it): read, never written while it is so -/
  | frz (o : Obj) (u : HO)
  /-- a code object's table -/
  | tbl (ps : Array Value)
  /-- any other thing, by what is true of its one object (a def of one's own: SetO a S n := HO.ext fun h => ..) -/
  | ext (φ : Heap → Prop)

abbrev Hp := Addr → Option HO
def upd (H : Hp) (a : Addr) (o : HO) : Hp := fun b => if b = a then some o else H b
theorem upd_same {H : Hp} {a : Addr} {o : HO} : upd H a o a = some o := by unfold upd; rw [if_pos rfl]
theorem upd_ne {H : Hp} {a b : Addr} {o : HO} (h : b ≠ a) : upd H a o b = H b := by unfold upd; rw [if_neg h]
theorem upd_upd {H : Hp} {a : Addr} {o u : HO} : upd (upd H a o) a u = upd H a u := by
  funext b; unfold upd; split <;> rfl
/-- two objects of different content stand apart -/
theorem ne_of {H : Hp} {a b : Addr} {o u : HO} (h : H a = some o) (h' : H b = some u) (d : o ≠ u) : a ≠ b := by
  intro e; subst e; rw [h] at h'; exact d (Option.some.inj h')
theorem ne_of_none {H : Hp} {a b : Addr} {o : HO} (h : H a = some o) (h' : H b = none) : a ≠ b := by
  intro e; subst e; rw [h] at h'; cases h'

section
variable (P : Program) (w : World)
def ObjOk (H : Hp) (h : Heap) (a : Addr) : HO → Prop
  | .lst xs => xs.length ≤ sizeLine ∧ ∃ (its : List Value) (n : Nat), Vals xs its ∧ h.get? a = some { cls := .type "list", data := .seq its.toArray n }
  | .tup xs => xs.length ≤ sizeLine ∧ ∃ its : List Value, Vals xs its ∧ IsTup h a its.toArray
  | .dK kvs => kvs.length ≤ sizeLine ∧ (a == sysModules) = false ∧ ∃ vs, KV kvs vs ∧ h.DictOf (mixKind P w) a vs
  | .dT kvs => kvs.length ≤ sizeLine ∧ (a == sysModules) = false ∧ ∃ xs : List (List Key × Addr × Value),
      Paired (fun (p : List Key × V) (q : List Key × Addr × Value) => p.1 = q.1 ∧ H q.2.1 = some (.tup (p.1.map kV)) ∧ RelV p.2 q.2.2) kvs xs ∧
      ∃ o es ep, h.get? a = some o ∧ o.ExactDict ∧ o.data = .dict es ep ∧ es.toList = xs.map (entryOfKey (tupleKind (mixKind P w))) ∧ (xs.map (·.1)).Nodup
  | .set S n => h.SetOf (intKind P w) a S n
  | .ins C dx fs => H dx = some (.own a) ∧ fs.length ≤ 1000 ∧ dx ≠ a ∧ h.get? a = some (PySem.W.instObj C dx) ∧
      ∃ mA, h.Ns1 dx mA ∧ (∀ f, RelO (fs.lookup f) (mA f)) ∧ PySem.Within mA (fs.map (·.1))
  | .own _ => ∃ o, h.get? a = some o
  | .xd fs => ∃ mA, h.Ns1 a mA ∧ ∀ f, RelO (fs.lookup f) (mA f)
  | .rng lo hi => ∃ t u v, h.get? a = some { cls := .type "range", data := .fields #[.int lo t, .int hi u, .int 1 v] }
  | .frz o u => h.get? a = some o ∧ ObjOk H h a u
  | .tbl ps => h.get? a = some { cls := .none, data := .fields ps }
  | .met f x => h.get? a = some (PySem.W.methodObj (.ref f) (.ref x))
  | .ext φ => φ h ∧ (∃ o, h.get? a = some o) ∧ ∀ h1 h2 : Heap, φ h1 → (∀ o, h1.get? a = some o → h2.get? a = some o) → φ h2
/-- the abstract heap is held -/
def HOk (H : Hp) (h : Heap) : Prop := ∀ a o, H a = some o → ObjOk P w H h a o
end

section
variable {P : Program} {w : World} {H H' : Hp} {h h' : Heap} {a : Addr} {o : HO}
theorem ObjOk.lt (x : ObjOk P w H h a o) : a < h.objs.size := by
  cases o with
  | lst xs => obtain ⟨_, _, _, _, e⟩ := x; exact Heap.lt_size e
  | tup xs => obtain ⟨_, _, _, p⟩ := x; exact p.lt
  | dK kvs => obtain ⟨_, _, _, _, o, _, _, e, _⟩ := x; exact Heap.lt_size e
  | dT kvs => obtain ⟨_, _, _, _, o, _, _, e, _⟩ := x; exact Heap.lt_size e
  | set S n => obtain ⟨o, _, _, _, e, _⟩ := x; exact Heap.lt_size e
  | ins C dx fs => obtain ⟨_, _, _, e, _⟩ := x; exact Heap.lt_size e
  | own y => obtain ⟨_, e⟩ := x; exact Heap.lt_size e
  | xd fs => obtain ⟨_, ⟨_, _, _, e, _⟩, _⟩ := x; exact Heap.lt_size e
  | rng lo hi => obtain ⟨_, _, _, e⟩ := x; exact Heap.lt_size e
  | frz ob u => obtain ⟨e, _⟩ := x; exact Heap.lt_size e
  | tbl ps => exact Heap.lt_size (show h.get? a = some _ from x)
  | met f y => exact Heap.lt_size (show h.get? a = some _ from x)
  | ext φ => obtain ⟨_, ⟨_, e⟩, _⟩ := x; exact Heap.lt_size e
theorem Paired.mapP {α β : Type} {F G : α → β → Prop} : ∀ {l₁ : List α} {l₂ : List β}, Paired F l₁ l₂ → (∀ a b, F a b → G a b) → Paired G l₁ l₂
  | _, _, .nil, _ => .nil
  | _, _, .cons r t, f => .cons (f _ _ r) (Paired.mapP t f)
/-- what an object's description leans on: its own object, its own dict, the tuples -/
theorem ObjOk.stay (x : ObjOk P w H h a o) (k : ∀ b u, (b = a ∨ H b = some (.own a)) → h.get? b = some u → h'.get? b = some u)
    (ho : ∀ b, H b = some (.own a) → H' b = some (.own a)) (ht : ∀ b xs, H b = some (.tup xs) → H' b = some (.tup xs)) : ObjOk P w H' h' a o := by
  induction o with
  | lst xs => obtain ⟨z, its, n, r, e⟩ := x; exact ⟨z, its, n, r, k _ _ (.inl rfl) e⟩
  | tup xs => obtain ⟨z, its, r, ob, e, c⟩ := x; exact ⟨z, its, r, ob, k _ _ (.inl rfl) e, c⟩
  | dK kvs => obtain ⟨z, y, vs, r, ob, es, ep, e, c⟩ := x; exact ⟨z, y, vs, r, ob, es, ep, k _ _ (.inl rfl) e, c⟩
  | dT kvs =>
    obtain ⟨z, y, xs, r, ob, es, ep, e, c⟩ := x
    exact ⟨z, y, xs, Paired.mapP r fun p q z => ⟨z.1, ht _ _ z.2.1, z.2.2⟩, ob, es, ep, k _ _ (.inl rfl) e, c⟩
  | set S n => obtain ⟨ob, es, ep, t, e, c⟩ := x; exact ⟨ob, es, ep, t, k _ _ (.inl rfl) e, c⟩
  | ins C dx fs =>
    obtain ⟨d, z, ne, e, mA, ⟨od, es, ep, e2, c⟩, r⟩ := x
    exact ⟨ho _ d, z, ne, k _ _ (.inl rfl) e, mA, ⟨od, es, ep, k _ _ (.inr d) e2, c⟩, r⟩
  | own y => obtain ⟨ob, e⟩ := x; exact ⟨ob, k _ _ (.inl rfl) e⟩
  | xd fs => obtain ⟨mA, ⟨od, es, ep, e, c⟩, r⟩ := x; exact ⟨mA, ⟨od, es, ep, k _ _ (.inl rfl) e, c⟩, r⟩
  | rng lo hi => obtain ⟨t, u, v, e⟩ := x; exact ⟨t, u, v, k _ _ (.inl rfl) e⟩
  | frz ob u ih => obtain ⟨e, q⟩ := x; exact ⟨k _ _ (.inl rfl) e, ih q⟩
  | tbl ps =>
    have e : h.get? a = some { cls := .none, data := .fields ps } := x
    show h'.get? a = some { cls := .none, data := .fields ps }
    exact k a _ (.inl rfl) e
  | met f y =>
    have e : h.get? a = some (PySem.W.methodObj (.ref f) (.ref y)) := x
    show h'.get? a = some (PySem.W.methodObj (.ref f) (.ref y))
    exact k a _ (.inl rfl) e
  | ext φ => obtain ⟨p, ⟨o, e⟩, st⟩ := x; exact ⟨st _ _ p fun o q => k _ _ (.inl rfl) q, ⟨o, k _ _ (.inl rfl) e⟩, st⟩
theorem HOk.lt (x : HOk P w H h) (e : H a = some o) : a < h.objs.size := (x a o e).lt
theorem HOk.fresh (x : HOk P w H h) (e : h.objs.size ≤ a) : H a = none := by
  cases q : H a with
  | none => rfl
  | some u => exact absurd (Nat.lt_of_lt_of_le (x.lt q) e) (Nat.lt_irrefl _)
/-- every object of the heap is kept -/
theorem HOk.kept (x : HOk P w H h) (k : ∀ b u, h.get? b = some u → h'.get? b = some u) : HOk P w H h' := fun a o e =>
  (x a o e).stay (fun b u _ q => k b u q) (fun _ q => q) fun _ _ q => q
/-- a new object is laid and tracked -/
theorem HOk.laid (x : HOk P w H h) (k : ∀ b u, h.get? b = some u → h'.get? b = some u) (hp : h.objs.size ≤ a) (new : ObjOk P w (upd H a o) h' a o) : HOk P w (upd H a o) h' := fun b u e => by
  have hn := x.fresh hp
  by_cases hb : b = a
  · subst hb; rw [upd_same] at e; cases e; exact new
  · rw [upd_ne hb] at e
    exact (x b u e).stay (fun c v _ q => k c v q) (fun c q => by rw [upd_ne (ne_of_none q hn)]; exact q) fun c xs q => by rw [upd_ne (ne_of_none q hn)]; exact q
end

/-- what may be read as u: it is u, or a known u -/
def Rd (H : Hp) (a : Addr) (u : HO) : Prop := H a = some u ∨ ∃ o, H a = some (.frz o u)
theorem Rd.ok {P : Program} {w : World} {H : Hp} {h : Heap} {a : Addr} {u : HO} (r : Rd H a u) (x : HOk P w H h) : ObjOk P w H h a u := by
  rcases r with r | ⟨o, r⟩
  · exact x a u r
  · obtain ⟨_, q⟩ := x a _ r
    exact q
/-- what may be written -/
def Mut : Option HO → Prop
  | some (.lst _) => True
  | some (.dK _) => True
  | some (.dT _) => True
  | some (.set _ _) => True
  | some (.ins _ _ _) => True
  | some (.ext _) => True
  | _ => False
section
variable {P : Program} {w : World} {H : Hp} {h h' : Heap} {x e : Addr} {o' : HO}
/-- the object at e is changed: x itself, or the dict of the instance x -/
theorem HOk.write (ok : HOk P w H h) (mu : Mut (H x)) (he : e = x ∨ H e = some (.own x)) (k : ∀ b u, b ≠ e → h.get? b = some u → h'.get? b = some u) (heo : ∃ u, h'.get? e = some u)
    (new : ObjOk P w (upd H x o') h' x o') : HOk P w (upd H x o') h' := fun b u q => by
  have nown : ∀ c y, H c = some (.own y) → c ≠ x := fun c y r z => by subst z; rw [r] at mu; exact mu
  have ntup : ∀ c xs, H c = some (.tup xs) → c ≠ x := fun c xs r z => by subst z; rw [r] at mu; exact mu
  by_cases hb : b = x
  · subst hb; rw [upd_same] at q; cases q; exact new
  · rw [upd_ne hb] at q
    by_cases hbe : b = e
    · have q' : H b = some (.own x) := by
        rcases he with z | z
        · exact absurd (hbe.trans z) hb
        · rw [hbe]; exact z
      rw [q] at q'; cases q'
      obtain ⟨v, hv⟩ := heo
      exact ⟨v, by rw [hbe]; exact hv⟩
    · refine (ok b u q).stay (fun c v hc r => k c v ?_ r) (fun c r => by rw [upd_ne (nown c b r)]; exact r) fun c xs r => by rw [upd_ne (ntup c xs r)]; exact r
      rcases hc with rfl | hc
      · exact hbe
      · rintro rfl
        rcases he with z | z
        · exact nown c b hc z
        · rw [hc] at z; cases z; exact hb rfl
end

/-! ### kept unless tracked; of the frames at fs (the callers') the slots may change (an exception that passes writes there); of the records at ex (iterators) nothing is said -/
structure Un (fs ex : List Addr) (H H' : Hp) (h h' : Heap) : Prop where
  keep : ∀ b o, h.get? b = some o → H b = none → b ∉ fs → b ∉ ex → h'.get? b = some o
  slot : ∀ b o, h.get? b = some o → H b = none → b ∈ fs → b ∉ ex → ∃ sl, h'.get? b = some { o with slots := sl }
  free : ∀ b o, h.get? b = some o → H b = none → b ∉ ex → H' b = none
  there : ∀ b o, h.get? b = some o → b ∉ ex → ∃ o', h'.get? b = some o'
  tups : ∀ b xs, H b = some (.tup xs) → H' b = some (.tup xs)
  frzs : ∀ b o u, H b = some (.frz o u) → H' b = some (.frz o u)
  tbls : ∀ b ps, H b = some (.tbl ps) → ∃ more, H' b = some (.tbl (ps ++ more))
section
variable {fs fs' ex ex' : List Addr} {H H1 H2 : Hp} {h h1 h2 h' : Heap} {a x e : Addr} {o : HO}
theorem Un.any (u : Un fs ex H H1 h h1) {b : Addr} {ob : Obj} (q : h.get? b = some ob) (n : H b = none) (hx : b ∉ ex) : ∃ sl, h1.get? b = some { ob with slots := sl } := by
  by_cases hb : b ∈ fs
  · exact u.slot b ob q n hb hx
  · exact ⟨ob.slots, u.keep b ob q n hb hx⟩
theorem Un.kept (k : ∀ b u, h.get? b = some u → h'.get? b = some u) : Un fs ex H H h h' :=
  ⟨fun b ob q _ _ _ => k b ob q, fun b ob q _ _ _ => ⟨ob.slots, k b ob q⟩, fun _ _ _ n _ => n, fun b ob q _ => ⟨ob, k b ob q⟩, fun _ _ q => q, fun _ _ _ q => q, fun _ ps q => ⟨#[], by rw [q]; simp⟩⟩
theorem Un.refl : Un fs ex H H h h := Un.kept fun _ _ q => q
theorem Un.laid (k : ∀ b u, h.get? b = some u → h'.get? b = some u) (hp : h.objs.size ≤ a) (hn : H a = none) : Un fs ex H (upd H a o) h h' where
  keep := fun b u q _ _ _ => k b u q
  slot := fun b u q _ _ _ => ⟨u.slots, k b u q⟩
  free := fun b u q n _ => by rw [upd_ne (Nat.ne_of_lt (Nat.lt_of_lt_of_le (Heap.lt_size q) hp))]; exact n
  there := fun b u q _ => ⟨u, k b u q⟩
  tups := fun b xs q => by rw [upd_ne (ne_of_none q hn)]; exact q
  frzs := fun b u xs q => by rw [upd_ne (ne_of_none q hn)]; exact q
  tbls := fun b ps q => ⟨#[], by rw [upd_ne (ne_of_none q hn), q]; simp⟩
theorem Un.write (mu : Mut (H x)) (he : e = x ∨ H e = some (.own x)) (k : ∀ b u, b ≠ e → h.get? b = some u → h'.get? b = some u) (heo : ∃ u, h'.get? e = some u) : Un fs ex H (upd H x o) h h' := by
  have hx : ∀ b, H b = none → b ≠ x := fun b n z => by subst z; rw [n] at mu; exact mu
  have hb : ∀ b, H b = none → b ≠ e := fun b n z => by
    subst z
    rcases he with r | r
    · exact hx b n r
    · rw [n] at r; cases r
  have hm : ∀ b u, H b = some u → ¬ Mut (some u) → b ≠ x := fun b u q nm z => by subst z; rw [q] at mu; exact nm mu
  refine ⟨fun b u q n _ _ => k b u (hb b n) q, fun b u q n _ _ => ⟨u.slots, k b u (hb b n) q⟩, fun b u q n _ => by rw [upd_ne (hx b n)]; exact n, fun b u q _ => ?_,
    fun b xs q => by rw [upd_ne (hm b _ q fun z => z)]; exact q, fun b u xs q => by rw [upd_ne (hm b _ q fun z => z)]; exact q, fun b ps q => ⟨#[], by rw [upd_ne (hm b _ q fun z => z), q]; simp⟩⟩
  by_cases hbe : b = e
  · subst hbe; exact heo
  · exact ⟨u, k b u hbe q⟩
end

/-! ### the heap without what is tracked -/
def trk (h : Heap) (H : Hp) : List Addr := (List.range h.objs.size).filter fun a => (H a).isSome
def hidT (h : Heap) (H : Hp) : Heap := PySem.W.hideAll h (trk h H)
theorem hidT_size (h : Heap) (H : Hp) : (hidT h H).objs.size = h.objs.size := PySem.W.hideAll_size _ _
theorem hidT_get {h : Heap} {H : Hp} {b : Addr} {o : Obj} (e : h.get? b = some o) (n : H b = none) : (hidT h H).get? b = some o :=
  PySem.W.hideAll_get _ e fun hm => by
    have q : (H b).isSome = true := (List.mem_filter.mp hm).2
    rw [n] at q; simp at q
theorem of_hidT {h : Heap} {H : Hp} {b : Addr} {o : Obj} (e : (hidT h H).get? b = some o) : h.get? b = some o ∧ H b = none := by
  have e' : h.get? b = some o := PySem.W.of_hideAll (trk h H) e
  refine ⟨e', ?_⟩
  cases q : H b with
  | none => rfl
  | some x =>
    have hm : b ∈ trk h H := List.mem_filter.mpr ⟨List.mem_range.mpr (Heap.lt_size e'), by simp [q]⟩
    have z : (hidT h H).get? b = none := PySem.W.hideAll_none (trk h H) hm
    rw [z] at e; cases e

/-! ### OpenK's ledger, filled with every new object but one -/
end L2

namespace L2
open PySem PySem.Spec PyProof.Rows

/-- the module's facts, over the base: the heap at the law's entry without what is tracked there -/
structure Mod (K : PySem.W.Frag) (mg : Str → Option Value) (base : Heap) : Prop where
  kin : K.In base
  glob : base.Ns mainGlobals mg
  blt : ∃ mb, base.Ns builtinsNs mb ∧ ∀ x : Str, x ≠ "__name__" → mb x = bootBuiltins x
  nolimit : base.NoLimit

/-- the context: a def's body (or a comprehension's block) running. base: fixed through the whole law; s₀, H₀: the entry; outer: the frames whose slots others may change (a def's callers); stack: all frames that run;
   ex: iterators that were made ahead of the entry and are walked here (a comprehension's); fn: the names whose cells were made at the entry (a def: all; a comprehension's block: its own); calm: not within an except suite; pn: pins that every state bears; xe: what is wanted of an exception that leaves the code -/
structure Cx where
  prog : Program
  w : World
  K : PySem.W.Frag
  mg : Str → Option Value
  base : Heap
  A : Around
  N : List Str
  s₀ : Shared
  H₀ : Hp
  env : Env
  outer : List Env
  stack : List Env
  ex : List Addr
  fn : Str → Bool
  calm : Bool
  pn : List (Addr × Obj)
  xe : Value → Shared → Prop
/-- the callers' frames -/
def frs (l : List Env) : List Addr := l.filterMap (·.frame)
abbrev Cx.fs (X : Cx) : List Addr := frs X.outer

def Vis (sc : Scope) (x : Str) : Prop := sc.names.lookup x = some .local ∨ sc.names.lookup x = some .cell ∨ sc.names.lookup x = some .free
def Loc (sc : Scope) (x : Str) : Prop := sc.names.lookup x = some .local ∨ sc.names.lookup x = some .cell
def Look (env : Env) (h : Heap) (m : Str → Option Value) (x : Str) (u : Value) : Prop :=
  (env.kindOf x = some .local ∧ m x = some u) ∨ ((env.kindOf x = some .cell ∨ env.kindOf x = some .free) ∧ ∃ c, env.cells.lookup x = some c ∧ h.IsCell c (some u))

structure Cx.Ok (X : Cx) : Prop where
  mod : Mod X.K X.mg X.base
  kind : X.env.scope.kind = .function
  glob : X.env.globals = mainGlobals
  blt : X.env.builtins = builtinsNs
  above : X.s₀.heap.objs.size ≤ X.env.locals
  inj : ∀ x y c, X.env.cells.lookup x = some c → X.env.cells.lookup y = some c → x = y
  has : ∀ x, (X.env.kindOf x = some .cell ∨ X.env.kindOf x = some .free) → ∃ c, X.env.cells.lookup x = some c
  cab : ∀ x c, X.fn x = true → X.env.cells.lookup x = some c → X.s₀.heap.objs.size ≤ c
  hd : X.calm = true → X.A.handled = none
  frames : X.A.frames = some X.stack
  stk : X.stack = X.outer ∨ (X.stack = X.env :: X.outer ∧ X.env.frame = some X.env.locals)
  exf : ∀ b ∈ X.ex, b ≠ X.env.locals ∧ ∀ x c, X.env.cells.lookup x = some c → c ≠ b
  bs : ∀ b o, X.base.get? b = some o → X.s₀.heap.get? b = some o ∧ X.H₀ b = none
  bsz : X.base.objs.size ≤ X.s₀.heap.objs.size
  noex : ∀ b o, X.base.get? b = some o → b ∉ X.ex
  exfs : ∀ b ∈ X.ex, b ∉ X.fs
  funs : X.s₀.heap.FunFrames X.base X.outer
  frf : ∀ b ∈ X.fs, X.H₀ b = none

structure Inv (X : Cx) (pins : List (Addr × Obj)) (σ : List (Option V)) (H : Hp) (s : Shared) : Prop where
  ok : X.Ok
  os : s.os = X.s₀.os
  bare : AllBare s.gens
  base : Un X.fs X.ex X.H₀ H X.s₀.heap s.heap
  loc : ∃ m, s.heap.Ns X.env.locals m ∧ ∀ (i : Nat) (x : Str) (v : V), X.N[i]? = some x → σ[i]? = some (some v) → Vis X.env.scope x → ∃ u, RelV v u ∧ Look X.env s.heap m x u
  cell : ∀ x c, X.env.cells.lookup x = some c → ∃ v, s.heap.IsCell c v
  free : H X.env.locals = none
  freeC : ∀ x c, X.env.cells.lookup x = some c → H c = none
  pin : ∀ p ∈ X.pn ++ pins, s.heap.get? p.1 = some p.2 ∧ H p.1 = none ∧ p.1 ≠ X.env.locals ∧ p.1 ∉ X.fs ∧ ∀ v, p.2.data ≠ .cell v
  hok : HOk X.prog X.w H s.heap
  len : σ.length = X.N.length

section
variable {X : Cx} {pins : List (Addr × Obj)} {σ : List (Option V)} {H H' : Hp} {s : Shared} {h' : Heap}

theorem Cx.Ok.nofr (ok : X.Ok) {b : Addr} {o : Obj} (e : X.base.get? b = some o) : b ∉ X.fs := fun hb => by
  have := (ok.funs.mem hb).1
  rw [e] at this; cases this
theorem Inv.bs (I : Inv X pins σ H s) : ∀ b o, X.base.get? b = some o → s.heap.get? b = some o ∧ H b = none := fun b o e =>
  ⟨I.base.keep b o (I.ok.bs b o e).1 (I.ok.bs b o e).2 (I.ok.nofr e) (I.ok.noex b o e), I.base.free b o (I.ok.bs b o e).1 (I.ok.bs b o e).2 (I.ok.noex b o e)⟩
theorem Inv.bk (I : Inv X pins σ H s) : ∀ b o, X.base.get? b = some o → s.heap.get? b = some o := fun b o e => (I.bs b o e).1
theorem Inv.mod (I : Inv X pins σ H s) : Mod X.K X.mg X.base := I.ok.mod
theorem Inv.kIn (I : Inv X pins σ H s) : X.K.In s.heap := I.ok.mod.kin.keeps I.bk
theorem Inv.lt (I : Inv X pins σ H s) : X.env.locals < s.heap.objs.size := let ⟨_, hn, _⟩ := I.loc; hn.lt
theorem Inv.sz (I : Inv X pins σ H s) : X.s₀.heap.objs.size ≤ s.heap.objs.size := Nat.le_trans I.ok.above (Nat.le_of_lt I.lt)
theorem Inv.nofs (I : Inv X pins σ H s) {a : Addr} (h : s.heap.objs.size ≤ a) : a ∉ X.fs := fun hb => by
  obtain ⟨_, o, ho, _⟩ := I.ok.funs.mem hb
  exact absurd (Nat.lt_of_lt_of_le (Heap.lt_size ho) (Nat.le_trans I.sz h)) (Nat.lt_irrefl _)
theorem Inv.cne (I : Inv X pins σ H s) : ∀ x c, X.env.cells.lookup x = some c → c ≠ X.env.locals := fun x c e z => by
  obtain ⟨v, o, ho, hd⟩ := I.cell x c e
  obtain ⟨m, ⟨o', es, ep, ho', hd', _⟩, _⟩ := I.loc
  rw [z, ho'] at ho; cases ho; rw [hd'] at hd; cases hd
theorem Inv.funs (I : Inv X pins σ H s) : s.heap.FunFrames X.base X.outer := by
  have all : ∀ (l : List Env), (∀ b ∈ frs l, b ∈ X.fs) → X.s₀.heap.FunFrames X.base l → s.heap.FunFrames X.base l := by
    intro l
    induction l with
    | nil => intro _ _; trivial
    | cons env r ih =>
      intro hs hl
      obtain ⟨hk, ⟨L, o, hf, hn, ho, hd⟩, hr⟩ := hl
      have hL : L ∈ X.fs := hs L (by unfold frs; rw [List.filterMap_cons, hf]; exact List.mem_cons_self)
      obtain ⟨sl, e⟩ := I.base.slot L o ho (I.ok.frf L hL) hL fun z => I.ok.exfs L z hL
      exact ⟨hk, ⟨L, _, hf, hn, e, hd⟩, ih (fun b hb => hs b (by unfold frs; rw [List.filterMap_cons, hf]; exact List.mem_cons_of_mem _ hb)) hr⟩
  exact all X.outer (fun _ hb => hb) I.ok.funs

/-- the frames that run, for a call -/
theorem Inv.stack (I : Inv X pins σ H s) : s.heap.FunFrames X.base X.stack := by
  rcases I.ok.stk with e | ⟨e, hf⟩
  · rw [e]; exact I.funs
  · rw [e]
    obtain ⟨m, hn, _⟩ := I.loc
    refine .cons (by rw [I.ok.kind]; decide) hf hn ?_ I.funs
    exact Heap.get?_none_of_le (Nat.le_trans I.ok.bsz I.ok.above)
theorem Inv.stkSub (I : Inv X pins σ H s) : ∀ b ∈ frs X.stack, b ∈ X.env.locals :: X.fs := fun b hb => by
  rcases I.ok.stk with e | ⟨e, hf⟩
  · rw [e] at hb; exact List.mem_cons_of_mem _ hb
  · rw [e] at hb
    unfold frs at hb
    rw [List.filterMap_cons, hf] at hb
    exact hb
theorem Inv.stkFree (I : Inv X pins σ H s) : ∀ b ∈ frs X.stack, H b = none := fun b hb => by
  rcases List.mem_cons.mp (I.stkSub b hb) with e | hb
  · rw [e]; exact I.free
  · obtain ⟨_, o, ho, _⟩ := I.ok.funs.mem hb
    exact I.base.free b o ho (I.ok.frf b hb) fun z => I.ok.exfs b z hb

/-- THE STEP: the untracked objects but the frame and the records at ch are kept (the callers' frames up to slots), the frame's map is kept, the new abstract heap is held -/
theorem Inv.step {g' : Array GenState} {t' : Nat} {d' : Drawn} {ch : List Addr} (I : Inv X pins σ H s)
    (hch : ∀ b ∈ ch, (b ∈ X.ex ∨ X.s₀.heap.objs.size ≤ b) ∧ b ≠ X.env.locals ∧ (∀ x c, X.env.cells.lookup x = some c → c ≠ b) ∧ ∀ p ∈ X.pn ++ pins, p.1 ≠ b)
    (keep : ∀ b o, b ≠ X.env.locals → b ∉ X.fs → b ∉ ch → s.heap.get? b = some o → H b = none → h'.get? b = some o)
    (slot : ∀ b o, b ≠ X.env.locals → b ∈ X.fs → b ∉ ch → s.heap.get? b = some o → H b = none → ∃ sl, h'.get? b = some { o with slots := sl }) (free : ∀ b o, b ∉ ch → s.heap.get? b = some o → H b = none → H' b = none)
    (there : ∀ b o, b ∉ ch → s.heap.get? b = some o → ∃ o', h'.get? b = some o')
    (tups : ∀ b xs, H b = some (.tup xs) → H' b = some (.tup xs)) (frzs : ∀ b o u, H b = some (.frz o u) → H' b = some (.frz o u)) (tbls : ∀ b ps, H b = some (.tbl ps) → ∃ more, H' b = some (.tbl (ps ++ more)))
    (ns : ∀ m, s.heap.Ns X.env.locals m → h'.Ns X.env.locals m) (hok : HOk X.prog X.w H' h') (hg : AllBare g') :
    Inv X pins σ H' { s with heap := h', gens := g', drawn := d', toks := t' } := by
  have neL : ∀ b o, X.s₀.heap.get? b = some o → b ≠ X.env.locals := fun b o e => Nat.ne_of_lt (Nat.lt_of_lt_of_le (Heap.lt_size e) I.ok.above)
  have neC : ∀ b o, X.s₀.heap.get? b = some o → b ∉ X.ex → b ∉ ch := fun b o e hx hb => by
    rcases (hch b hb).1 with z | z
    · exact hx z
    · exact absurd (Nat.lt_of_lt_of_le (Heap.lt_size e) z) (Nat.lt_irrefl _)
  have cellK : ∀ x c, X.env.cells.lookup x = some c → ∀ v, s.heap.IsCell c v → h'.IsCell c v := fun x c e v ⟨o, ho, hd⟩ => by
    have nch : c ∉ ch := fun z => (hch c z).2.2.1 x c e rfl
    by_cases hc : c ∈ X.fs
    · obtain ⟨sl, q⟩ := slot c o (I.cne x c e) hc nch ho (I.freeC x c e)
      exact ⟨_, q, hd⟩
    · exact ⟨o, keep c o (I.cne x c e) hc nch ho (I.freeC x c e), hd⟩
  refine ⟨I.ok, I.os, hg, ⟨fun b o e n hb hx => ?_, fun b o e n hb hx => ?_, fun b o e n hx => ?_, fun b o e hx => ?_, fun b xs e => tups b xs (I.base.tups b xs e), fun b o xs e => frzs b o xs (I.base.frzs b o xs e), fun b ps e => ?_⟩, ?_, fun x c e => ?_, ?_, fun x c e => ?_, fun p hp => ?_, hok, I.len⟩
  · exact keep b o (neL b o e) hb (neC b o e hx) (I.base.keep b o e n hb hx) (I.base.free b o e n hx)
  · obtain ⟨sl, e1⟩ := I.base.slot b o e n hb hx
    obtain ⟨sl', e2⟩ := slot b _ (neL b o e) hb (neC b o e hx) e1 (I.base.free b o e n hx)
    exact ⟨sl', e2⟩
  · obtain ⟨o', e1⟩ := I.base.there b o e hx
    exact free b o' (neC b o e hx) e1 (I.base.free b o e n hx)
  · obtain ⟨o', e1⟩ := I.base.there b o e hx
    exact there b o' (neC b o e hx) e1
  · obtain ⟨m1, e1⟩ := I.base.tbls b ps e
    obtain ⟨m2, e2⟩ := tbls b _ e1
    exact ⟨m1 ++ m2, by rw [e2, Array.append_assoc]⟩
  · obtain ⟨m, hn, hl⟩ := I.loc
    refine ⟨m, ns m hn, fun i x v e1 e2 e3 => ?_⟩
    obtain ⟨u, r, l⟩ := hl i x v e1 e2 e3
    refine ⟨u, r, ?_⟩
    rcases l with l | ⟨k, c, e, z⟩
    · exact .inl l
    · exact .inr ⟨k, c, e, cellK x c e _ z⟩
  · obtain ⟨v, z⟩ := I.cell x c e
    exact ⟨v, cellK x c e v z⟩
  · obtain ⟨m, ⟨o, _, _, ho, _⟩, _⟩ := I.loc
    exact free _ o (fun z => (hch _ z).2.1 rfl) ho I.free
  · obtain ⟨v, o, ho, hd⟩ := I.cell x c e
    exact free c o (fun z => (hch c z).2.2.1 x c e rfl) ho (I.freeC x c e)
  · obtain ⟨e, n, ne, nf, d⟩ := I.pin p hp
    have nch : p.1 ∉ ch := fun z => (hch p.1 z).2.2.2 p hp rfl
    exact ⟨keep p.1 p.2 ne nf nch e n, free p.1 p.2 nch e n, ne, nf, d⟩
/-- .. where the frame's own object is kept too -/
theorem Inv.un {t' : Nat} (I : Inv X pins σ H s) (u : Un X.fs [] H H' s.heap h') (hok : HOk X.prog X.w H' h') : Inv X pins σ H' { s with heap := h', toks := t' } := by
  obtain ⟨m, ⟨o, es, ep, ho, r⟩, _⟩ := id I.loc
  obtain ⟨sl, hL⟩ := u.any ho I.free (by simp)
  exact I.step (g' := s.gens) (d' := s.drawn) (ch := []) (fun _ z => nomatch z) (fun b o _ hb _ e n => u.keep b o e n hb (by simp)) (fun b o _ hb _ e n => u.slot b o e n hb (by simp)) (fun b o _ e n => u.free b o e n (by simp)) (fun b o _ e => u.there b o e (by simp)) u.tups u.frzs u.tbls (fun m' hm => by
    obtain ⟨o', es', ep', ho', r'⟩ := hm
    rw [ho] at ho'; cases ho'
    exact ⟨_, es', ep', hL, r'⟩) hok I.bare
/-- behind a call (or a comprehension's block): the slots of this frame may have changed too, the records at ch may have turned -/
theorem Inv.call {g' : Array GenState} {t' : Nat} {d' : Drawn} {ch : List Addr} (I : Inv X pins σ H s) (u : Un (frs X.stack) ch H H' s.heap h') (hok : HOk X.prog X.w H' h') (hg : AllBare g')
    (hch : ∀ b ∈ ch, (b ∈ X.ex ∨ X.s₀.heap.objs.size ≤ b) ∧ b ≠ X.env.locals ∧ (∀ x c, X.env.cells.lookup x = some c → c ≠ b) ∧ ∀ p ∈ X.pn ++ pins, p.1 ≠ b) :
    Inv X pins σ H' { s with heap := h', gens := g', drawn := d', toks := t' } := by
  obtain ⟨m, ⟨o, es, ep, ho, r⟩, _⟩ := id I.loc
  obtain ⟨sl, hL⟩ := u.any ho I.free fun z => (hch _ z).2.1 rfl
  exact I.step (ch := ch) hch (fun b o hL hb hc e n => u.keep b o e n (fun z => (List.mem_cons.mp (I.stkSub b z)).elim hL hb) hc) (fun b o _ _ hc e n => u.any e n hc) (fun b o hc e n => u.free b o e n hc) (fun b o hc e => u.there b o e hc) u.tups u.frzs u.tbls (fun m' hm => by
    obtain ⟨o', es', ep', ho', r'⟩ := hm
    rw [ho] at ho'; cases ho'
    exact ⟨_, es', ep', hL, r'⟩) hok hg
/-- an untracked record of ours (an iterator) has turned -/
theorem Inv.turned {t' : Nat} {it : Addr} (I : Inv X pins σ H s) (k : ∀ b o, b ≠ it → s.heap.get? b = some o → h'.get? b = some o) (hn : H it = none) (hL : it ≠ X.env.locals)
    (h1 : it ∈ X.ex ∨ X.s₀.heap.objs.size ≤ it) (h2 : ∀ x c, X.env.cells.lookup x = some c → c ≠ it) (h3 : ∀ p ∈ X.pn ++ pins, p.1 ≠ it) : Inv X pins σ H { s with heap := h', toks := t' } := by
  have nit : ∀ b u, H b = some u → b ≠ it := fun b u e z => by rw [z, hn] at e; cases e
  refine I.step (g' := s.gens) (d' := s.drawn) (ch := [it]) (fun b hb => ?_) (fun b o _ _ hc e _ => k b o (fun z => hc (by simp [z])) e) (fun b o _ _ hc e _ => ⟨o.slots, k b o (fun z => hc (by simp [z])) e⟩) (fun _ _ _ _ n => n)
    (fun b o hc e => ⟨o, k b o (fun z => hc (by simp [z])) e⟩) (fun _ _ e => e) (fun _ _ _ e => e) (fun b ps e => ⟨#[], by rw [e]; simp⟩) (fun m hm => ?_) (fun b u e => ?_) I.bare
  · have e : b = it := by simpa using hb
    subst e
    exact ⟨h1, hL, h2, h3⟩
  · obtain ⟨o, es, ep, ho, r⟩ := hm
    exact ⟨o, es, ep, k _ o (Ne.symm hL) ho, r⟩
  · refine (I.hok b u e).stay (fun c v hc q => k c v ?_ q) (fun _ q => q) fun _ _ q => q
    rcases hc with z | z
    · rw [z]; exact nit b u e
    · exact nit c _ z
theorem Inv.tok (I : Inv X pins σ H s) (t : Nat) : Inv X pins σ H { s with toks := t } := I.un (h' := s.heap) (t' := t) Un.refl I.hok
/-- all objects kept -/
theorem Inv.kept {t' : Nat} (I : Inv X pins σ H s) (k : ∀ b u, s.heap.get? b = some u → h'.get? b = some u) : Inv X pins σ H { s with heap := h', toks := t' } := I.un (Un.kept k) (I.hok.kept k)
/-- a new object laid and tracked -/
theorem Inv.laid {a : Addr} {o : HO} {t' : Nat} (I : Inv X pins σ H s) (k : ∀ b u, s.heap.get? b = some u → h'.get? b = some u) (hp : s.heap.objs.size ≤ a) (new : ObjOk X.prog X.w (upd H a o) h' a o) :
    Inv X pins σ (upd H a o) { s with heap := h', toks := t' } := I.un (Un.laid k hp (I.hok.fresh hp)) (I.hok.laid k hp new)
/-- an object written -/
theorem Inv.write {x e : Addr} {o : HO} {t' : Nat} (I : Inv X pins σ H s) (mu : Mut (H x)) (he : e = x ∨ H e = some (.own x)) (k : ∀ b u, b ≠ e → s.heap.get? b = some u → h'.get? b = some u) (heo : ∃ u, h'.get? e = some u)
    (new : ObjOk X.prog X.w (upd H x o) h' x o) : Inv X pins σ (upd H x o) { s with heap := h', toks := t' } := I.un (Un.write mu he k heo) (I.hok.write mu he k heo new)
theorem Inv.pins_of {pins' : List (Addr × Obj)} (I : Inv X pins σ H s) (h : ∀ p ∈ pins', s.heap.get? p.1 = some p.2 ∧ H p.1 = none ∧ p.1 ≠ X.env.locals ∧ p.1 ∉ X.fs ∧ ∀ v, p.2.data ≠ .cell v) : Inv X pins' σ H s :=
  ⟨I.ok, I.os, I.bare, I.base, I.loc, I.cell, I.free, I.freeC, fun p hp => (List.mem_append.mp hp).elim (fun z => I.pin p (List.mem_append_left _ z)) (h p), I.hok, I.len⟩

theorem nodup_ix {N : List Str} (hN : N.Nodup) {i j : Nat} {x : Str} (a : N[i]? = some x) (b : N[j]? = some x) : i = j := by
  obtain ⟨h1, e1⟩ := List.getElem?_eq_some_iff.mp a
  obtain ⟨h2, e2⟩ := List.getElem?_eq_some_iff.mp b
  exact (List.getElem_inj hN).mp (e1.trans e2.symm)

/-- a name is stored; what changed -/
theorem store_ok2 {M : Model} {A : Around} {E : Value → Shared → Prop} {i : Nat} {x : Str} {v : V} {u : Value} {Q : Unit → Shared → Prop} (I : Inv X pins σ H s) (hN : X.N.Nodup) (hi : X.N[i]? = some x) (hx : Loc X.env.scope x) (r : RelV v u)
    (h : ∀ s', Inv X pins (σ.set i (some v)) H s' → (∃ a, Heap.SameBut a s.heap s'.heap ∧ (a = X.env.locals ∨ X.env.cells.lookup x = some a)) → Q () s') (hf : X.fn x = true ∨ X.env.scope.names.lookup x = some .local := by first | exact .inl rfl | exact .inr rfl | assumption) : wpAny M A (storeName X.env x u) Q E s := by
  obtain ⟨m, hn, hl⟩ := id I.loc
  have hcls : (X.env.scope.kind == .class || (X.env.scope.kind == .module && X.env.locals != X.env.globals)) = false := by rw [I.ok.kind]; rfl
  have hiσ : i < σ.length := by rw [I.len]; exact (List.getElem?_eq_some_iff.mp hi).1
  have cne := I.cne
  have tracked : ∀ {a : Addr} {h' : Heap}, (∃ o, s.heap.get? a = some o ∧ H a = none) → Heap.SameBut a s.heap h' → HOk X.prog X.w H h' := fun {a h'} ha hs b ob e => by
    obtain ⟨_, _, hfree⟩ := ha
    refine (I.hok b ob e).stay (fun c w' hc q => (hs.2 c ?_).trans q) (fun _ q => q) fun _ _ q => q
    rintro rfl
    rcases hc with rfl | hc
    · rw [hfree] at e; cases e
    · rw [hfree] at hc; cases hc
  rcases hx with hk | hk
  · refine wpAny_storeName_local hk hn (fun h' hn' hs => ?_) hcls
    obtain ⟨oL, _, _, hoL, _⟩ := id hn
    refine h _ ⟨I.ok, I.os, I.bare, ⟨fun b o e n hb hx => ?_, fun b o e n hb hx => ?_, I.base.free, fun b o e hx => ?_, I.base.tups, I.base.frzs, I.base.tbls⟩, ⟨_, hn', fun j y v' e1 e2 e3 => ?_⟩, fun y c e => ?_, I.free, I.freeC, fun p hp => ?_, tracked ⟨oL, hoL, I.free⟩ hs, by simpa using I.len⟩ ⟨_, hs, .inl rfl⟩
    · exact (hs.2 b (Nat.ne_of_lt (Nat.lt_of_lt_of_le (Heap.lt_size e) I.ok.above))).trans (I.base.keep b o e n hb hx)
    · obtain ⟨sl, e1⟩ := I.base.slot b o e n hb hx
      exact ⟨sl, (hs.2 b (Nat.ne_of_lt (Nat.lt_of_lt_of_le (Heap.lt_size e) I.ok.above))).trans e1⟩
    · obtain ⟨o', e1⟩ := I.base.there b o e hx
      exact ⟨o', (hs.2 b (Nat.ne_of_lt (Nat.lt_of_lt_of_le (Heap.lt_size e) I.ok.above))).trans e1⟩
    · by_cases hj : j = i
      · subst hj
        rw [hi] at e1; cases e1
        rw [List.getElem?_set_self hiσ] at e2
        cases e2
        exact ⟨u, r, .inl ⟨hk, by simp⟩⟩
      · rw [List.getElem?_set_ne (Ne.symm hj)] at e2
        obtain ⟨u', r', q⟩ := hl j y v' e1 e2 e3
        refine ⟨u', r', ?_⟩
        rcases q with ⟨k, e⟩ | ⟨k, c, e, z⟩
        · refine .inl ⟨k, ?_⟩
          have : y ≠ x := fun e => hj (nodup_ix hN e1 (e ▸ hi))
          simp [this, e]
        · exact .inr ⟨k, c, e, z.sameBut hs (cne y c e)⟩
    · obtain ⟨w', z⟩ := I.cell y c e
      exact ⟨w', z.sameBut hs (cne y c e)⟩
    · obtain ⟨e, n, ne, nf, d⟩ := I.pin p hp
      exact ⟨(hs.2 p.1 ne).trans e, n, ne, nf, d⟩
  · have hfn : X.fn x = true := by
      rcases hf with z | z
      · exact z
      · rw [z] at hk; cases hk
    obtain ⟨c, hc⟩ := I.ok.has x (.inl hk)
    obtain ⟨w', z⟩ := I.cell x c hc
    refine wpAny_storeName_cell I.ok.kind hk hc z (fun h' hc' hs => ?_)
    obtain ⟨oc, hoc, hocd⟩ := id z
    refine h { s with heap := h' } ⟨I.ok, I.os, I.bare, ⟨fun b o e n hb hx => ?_, fun b o e n hb hx => ?_, I.base.free, fun b o e hx => ?_, I.base.tups, I.base.frzs, I.base.tbls⟩, ⟨m, hn.sameBut hs (Ne.symm (cne x c hc)), fun j y v' e1 e2 e3 => ?_⟩, fun y c' e => ?_, I.free, I.freeC, fun p hp => ?_, tracked ⟨oc, hoc, I.freeC x c hc⟩ hs, by simpa using I.len⟩ ⟨c, hs, .inr hc⟩
    · exact (hs.2 b (Nat.ne_of_lt (Nat.lt_of_lt_of_le (Heap.lt_size e) (I.ok.cab x c hfn hc)))).trans (I.base.keep b o e n hb hx)
    · obtain ⟨sl, e1⟩ := I.base.slot b o e n hb hx
      exact ⟨sl, (hs.2 b (Nat.ne_of_lt (Nat.lt_of_lt_of_le (Heap.lt_size e) (I.ok.cab x c hfn hc)))).trans e1⟩
    · obtain ⟨o', e1⟩ := I.base.there b o e hx
      exact ⟨o', (hs.2 b (Nat.ne_of_lt (Nat.lt_of_lt_of_le (Heap.lt_size e) (I.ok.cab x c hfn hc)))).trans e1⟩
    · by_cases hj : j = i
      · subst hj
        rw [hi] at e1; cases e1
        rw [List.getElem?_set_self hiσ] at e2
        cases e2
        exact ⟨u, r, .inr ⟨.inl hk, c, hc, hc'⟩⟩
      · rw [List.getElem?_set_ne (Ne.symm hj)] at e2
        obtain ⟨u', r', q⟩ := hl j y v' e1 e2 e3
        refine ⟨u', r', ?_⟩
        rcases q with q | ⟨k, c', e, z'⟩
        · exact .inl q
        · refine .inr ⟨k, c', e, z'.sameBut hs ?_⟩
          rintro rfl
          exact hj (nodup_ix hN e1 (I.ok.inj _ _ _ e hc ▸ hi))
    · by_cases hcc : c' = c
      · subst hcc; exact ⟨_, hc'⟩
      · obtain ⟨w2, z2⟩ := I.cell y c' e
        exact ⟨w2, z2.sameBut hs hcc⟩
    · obtain ⟨e, n, ne, nf, d⟩ := I.pin p hp
      refine ⟨(hs.2 p.1 ?_).trans e, n, ne, nf, d⟩
      intro q
      rw [q, hoc] at e
      have q' : oc = p.2 := Option.some.inj e
      exact d w' (by rw [← q']; exact hocd)
theorem store_ok {M : Model} {A : Around} {E : Value → Shared → Prop} {i : Nat} {x : Str} {v : V} {u : Value} {Q : Unit → Shared → Prop} (I : Inv X pins σ H s) (hN : X.N.Nodup) (hi : X.N[i]? = some x) (hx : Loc X.env.scope x) (r : RelV v u)
    (h : ∀ s', Inv X pins (σ.set i (some v)) H s' → Q () s') (hf : X.fn x = true ∨ X.env.scope.names.lookup x = some .local := by first | exact .inl rfl | exact .inr rfl | assumption) : wpAny M A (storeName X.env x u) Q E s :=
  store_ok2 I hN hi hx r (fun s' I' _ => h s' I') hf
/-- behind a call or a block, the state as it is -/
theorem Inv.call' {s' : Shared} {ch : List Addr} (I : Inv X pins σ H s) (ho : s'.os = s.os) (u : Un (frs X.stack) ch H H' s.heap s'.heap) (hok : HOk X.prog X.w H' s'.heap) (hg : AllBare s'.gens)
    (hch : ∀ b ∈ ch, (b ∈ X.ex ∨ X.s₀.heap.objs.size ≤ b) ∧ b ≠ X.env.locals ∧ (∀ x c, X.env.cells.lookup x = some c → c ≠ b) ∧ ∀ p ∈ X.pn ++ pins, p.1 ≠ b) : Inv X pins σ H' s' := by
  obtain ⟨h', g', d', t', o'⟩ := s'
  have e : o' = s.os := ho
  subst e
  exact I.call (g' := g') (t' := t') (d' := d') u hok hg hch
end

/-! ### the judgements -/
/-- an exception: its class, its own dict's address (where it has one), the abstract heap behind it -/
abbrev XK := Value → Option Addr → Hp → Prop
abbrev St := List (Option V)
abbrev VK := V → Hp → Prop
/-- an expression's reading; a test's; an argument list's -/
abbrev TE := St → Hp → VK → Prop
abbrev TT := St → Hp → (Bool → Hp → Prop) → Prop
abbrev TA := St → Hp → (List V → Hp → Prop) → Prop
/-- what is wanted behind a statement -/
structure Ends where
  nx : St → Hp → Prop
  rt : VK
  bk : St → Hp → Prop := fun _ _ => False
  ct : St → Hp → Prop := fun _ _ => False
abbrev TS := Ends → St → Hp → Prop

def EP (X : Cx) (pins : List (Addr × Obj)) (σ : St) (Q : VK) (u : Value) (s' : Shared) : Prop := ∃ v H', Inv X pins σ H' s' ∧ RelV v u ∧ Q v H'
def TP (X : Cx) (pins : List (Addr × Obj)) (σ : St) (Q : Bool → Hp → Prop) (b : Bool) (s' : Shared) : Prop := ∃ H', Inv X pins σ H' s' ∧ Q b H'
def AP (X : Cx) (pins : List (Addr × Obj)) (σ : St) (Q : List V → Hp → Prop) (us : List Value) (s' : Shared) : Prop := ∃ vs H', Inv X pins σ H' s' ∧ Vals vs us ∧ Q vs H'
def SP (X : Cx) (pins : List (Addr × Obj)) (D : Ends) (f : Flow) (s' : Shared) : Prop :=
  match f with
  | .next => ∃ σ' H', Inv X pins σ' H' s' ∧ D.nx σ' H'
  | .brk => ∃ σ' H', Inv X pins σ' H' s' ∧ D.bk σ' H'
  | .cont => ∃ σ' H', Inv X pins σ' H' s' ∧ D.ct σ' H'
  | .ret u => ∃ v σ' H', Inv X pins σ' H' s' ∧ RelV v u ∧ D.rt v H'

def PE (X : Cx) (e : Expr) (t : TE) : Prop :=
  ∀ (pins : List (Addr × Obj)) (s : Shared) (σ : St) (H : Hp) (Q : VK), Inv X pins σ H s → t σ H Q → wpAny (model X.prog X.w) X.A (eval e X.env) (EP X pins σ Q) X.xe s
def PT (X : Cx) (e : Expr) (t : TT) : Prop :=
  ∀ (pins : List (Addr × Obj)) (s : Shared) (σ : St) (H : Hp) (Q : Bool → Hp → Prop), Inv X pins σ H s → t σ H Q → wpAny (model X.prog X.w) X.A (isTrue e X.env (eval e X.env)) (TP X pins σ Q) X.xe s
/-- a test whatever its 'whole' is (and, or) -/
def PW (X : Cx) (e : Expr) (t : TT) : Prop :=
  ∀ (whole : Sem Value) (pins : List (Addr × Obj)) (s : Shared) (σ : St) (H : Hp) (Q : Bool → Hp → Prop), Inv X pins σ H s → t σ H Q → wpAny (model X.prog X.w) X.A (isTrue e X.env whole) (TP X pins σ Q) X.xe s
theorem PW.pt {X : Cx} {e : Expr} {t : TT} (h : PW X e t) : PT X e t := h _
/-- an argument list (no star), from the left -/
def PA (X : Cx) (es : List Expr) (t : TA) : Prop :=
  ∀ (pos : Pos) (pins : List (Addr × Obj)) (s : Shared) (σ : St) (H : Hp) (Q : List V → Hp → Prop), Inv X pins σ H s → t σ H Q → wpAny (model X.prog X.w) X.A (spliced (backTo pos (starEach es X.env))) (AP X pins σ Q) X.xe s
def PS (X : Cx) (st : Stmt) (t : TS) : Prop :=
  ∀ (pins : List (Addr × Obj)) (s : Shared) (σ : St) (H : Hp) (D : Ends), Inv X pins σ H s → t D σ H → wpAny (model X.prog X.w) X.A (exec st X.env) (SP X pins D) X.xe s
def PSs (X : Cx) (st : List Stmt) (t : TS) : Prop :=
  ∀ (pins : List (Addr × Obj)) (s : Shared) (σ : St) (H : Hp) (D : Ends), Inv X pins σ H s → t D σ H → wpAny (model X.prog X.w) X.A (execs st X.env) (SP X pins D) X.xe s
/-- weaken the end -/
theorem thn {α : Type} {t : Sem α} {Q Q' : α → Shared → Prop} {M : Model} {A : Around} {E : Value → Shared → Prop} {s : Shared} (h : wpAny M A t Q E s) (hQ : ∀ a s, Q a s → Q' a s) : wpAny M A t Q' E s := wpAny_mono h hQ fun _ _ x => x
end L2

namespace L2
open PySem PySem.Spec PyProof.Rows
section
variable {X : Cx}


/-! ### names and constants -/
def tVar (i : Nat) : TE := fun σ H Q => ∃ v, σ[i]? = some (some v) ∧ Q v H
def tC (v : V) : TE := fun _ H Q => Q v H
theorem pe_var {i : Nat} {x : Str} {pos : Pos} (hN : X.N[i]? = some x) (hv : Vis X.env.scope x) (hd : (x == ("__debug__" : Str)) = false := by decide) (hcd : (x == ("__classdict__" : Str)) = false := by decide) : PE X (.Name x pos) (tVar i) := by
  intro pins s σ H Q I h
  obtain ⟨v, e, h⟩ := h
  obtain ⟨m, hn, hl⟩ := I.loc
  obtain ⟨u, r, l⟩ := hl i x v hN e hv
  have fin : EP X pins σ Q u s := ⟨v, H, I, r, h⟩
  rcases l with ⟨hk, hm⟩ | ⟨hk, c, hc, hcell⟩
  · exact wpAny_Name (wpAny_loadName_local I.ok.kind hk hn hm fin) hd
  · rcases hk with hk | hk
    · exact wpAny_Name (wpAny_loadName_cell I.ok.kind hk hc hcell fin) hd
    · exact wpAny_Name (wpAny_loadName_free I.ok.kind hk hc hcell fin hcd) hd
theorem pe_int {i j pos} : PE X (.Constant (.int i) j pos) (tC (.int i)) := fun _ _ _ H _ I h => wpAny_Constant_int ⟨.int i, H, I.tok _, ⟨_, rfl⟩, h⟩
theorem pe_bl {b j pos} : PE X (.Constant (.bool b) j pos) (tC (.bl b)) := fun _ _ _ H _ I h => Constant_bool ⟨.bl b, H, I, rfl, h⟩
theorem pe_str {x j pos} : PE X (.Constant (.str x) j pos) (tC (.str x)) := fun _ _ _ H _ I h => Calls.Constant_str ⟨.str x, H, I.tok _, ⟨_, rfl⟩, h⟩

/-- a global name of the def -/
def Gl (X : Cx) (x : Str) : Prop := X.env.kindOf x = some .globalImplicit
theorem ld_glob {E : Value → Shared → Prop} {pins : List (Addr × Obj)} {s : Shared} {σ : St} {H : Hp} {x : Str} {u : Value} {pos : Pos} {Q : Value → Shared → Prop} (I : Inv X pins σ H s) (hg : Gl X x) (hm : X.mg x = some u) (h : Q u s)
    (hd : (x == ("__debug__" : Str)) = false := by decide) : wpAny (model X.prog X.w) X.A (eval (.Name x pos) X.env) Q E s :=
  Calls.Name_function_global I.ok.kind hg (Calls.loadGlobal_global (by rw [I.ok.glob]; exact I.mod.glob.keeps I.bk) hm h) hd
theorem ld_blt {E : Value → Shared → Prop} {pins : List (Addr × Obj)} {s : Shared} {σ : St} {H : Hp} {x : Str} {u : Value} {pos : Pos} {Q : Value → Shared → Prop} (I : Inv X pins σ H s) (hg : Gl X x) (hm : X.mg x = none) (hv : bootBuiltins x = some u) (h : Q u s)
    (hn : x ≠ "__name__" := by decide) (hd : (x == ("__debug__" : Str)) = false := by decide) : wpAny (model X.prog X.w) X.A (eval (.Name x pos) X.env) Q E s := by
  obtain ⟨mb, h1, h2⟩ := I.mod.blt
  exact Calls.Name_function_global I.ok.kind hg (Calls.loadGlobal_builtin (by rw [I.ok.glob]; exact I.mod.glob.keeps I.bk) hm (by rw [I.ok.blt]; exact h1.keeps I.bk) ((h2 x hn).trans hv) h) hd
/-- a module's constant, a class, a function, as a value -/
theorem pe_glob {x : Str} {v : V} {u : Value} {pos : Pos} (hg : Gl X x) (hm : X.mg x = some u) (r : RelV v u) (hd : (x == ("__debug__" : Str)) = false := by decide) : PE X (.Name x pos) (tC v) :=
  fun _ _ _ H _ I h => ld_glob I hg hm ⟨v, H, I, r, h⟩ hd
theorem pe_bltn {x : Str} {v : V} {u : Value} {pos : Pos} (hg : Gl X x) (hm : X.mg x = none) (hv : bootBuiltins x = some u) (r : RelV v u) (hn : x ≠ "__name__" := by decide) (hd : (x == ("__debug__" : Str)) = false := by decide) : PE X (.Name x pos) (tC v) :=
  fun _ _ _ H _ I h => ld_blt I hg hm hv ⟨v, H, I, r, h⟩ hn hd

/-! ### arithmetic -/
variable {a b : Expr} {ta tb : TE} {pos : Pos}

/-! ### comparisons -/
def PC (X : Cx) (op : CmpOp) (a b : Expr) (t : TE) : Prop :=
  ∀ (pins : List (Addr × Obj)) (s : Shared) (σ : St) (H : Hp) (Q : VK), Inv X pins σ H s → t σ H Q →
    wpAny (model X.prog X.w) X.A (eval a X.env) (fun v s₁ => wpAny (model X.prog X.w) X.A (eval b X.env) (fun u s₂ => wpAny (model X.prog X.w) X.A (compareOp op v u) (EP X pins σ Q) X.xe s₂) X.xe s₁) X.xe s
/-- a comparison as a value, as a test -/
def tB (t : TE) : TT := fun σ H Q => t σ H fun x H1 => ∃ c, x = .bl c ∧ Q c H1
/-- an expression whose value is a bool, as a test -/
theorem pt_val {e : Expr} {t : TE} (h : PE X e t) (he : ∀ whole, isTrue e X.env whole = (do let v ← whole; standAt e.pos; holding [v] (truthy v)) := by intro _; rfl) : PT X e (tB t) := by
  intro pins s σ H Q I hw
  refine isTrue_plain (thn (h pins s σ H _ I hw) fun v s1 ⟨x, H1, I1, r1, q1⟩ => ?_) (he _)
  obtain ⟨d, rfl, q⟩ := q1
  cases r1
  exact wpAny_truthy_bool ⟨H1, I1, q⟩

/-! ### and, or, not -/
variable {tA tB' : TT} {rest : List Expr}
def tAnd (t u : TT) : TT := fun σ H Q => t σ H fun c H1 => if c = true then u σ H1 Q else Q false H1
def tOr (t u : TT) : TT := fun σ H Q => t σ H fun c H1 => if c = true then Q true H1 else u σ H1 Q
def tNot (t : TT) : TT := fun σ H Q => t σ H fun c H1 => Q (!c) H1
theorem pw_and1 (ha : PT X a tA) : PW X (.BoolOp .And [a] pos) tA := by
  intro wh pins s σ H Q I h
  refine isTrue_and (thn (ha pins s σ H Q I h) fun c s1 e => ?_)
  cases c with
  | true => exact isTrue_and_nil e
  | false => exact e
theorem pw_or1 (ha : PT X a tA) : PW X (.BoolOp .Or [a] pos) tA := by
  intro wh pins s σ H Q I h
  refine isTrue_or (thn (ha pins s σ H Q I h) fun c s1 e => ?_)
  cases c with
  | false => exact isTrue_or_nil e
  | true => exact e
theorem pw_and (ha : PT X a tA) (hb : PW X (.BoolOp .And (b :: rest) pos) tB') : PW X (.BoolOp .And (a :: b :: rest) pos) (tAnd tA tB') := by
  intro wh pins s σ H Q I h
  refine isTrue_and (thn (ha pins s σ H _ I h) fun c s1 ⟨H1, I1, q1⟩ => ?_)
  cases c with
  | true => exact hb wh pins s1 σ H1 Q I1 q1
  | false => exact ⟨H1, I1, q1⟩
theorem pw_or (ha : PT X a tA) (hb : PW X (.BoolOp .Or (b :: rest) pos) tB') : PW X (.BoolOp .Or (a :: b :: rest) pos) (tOr tA tB') := by
  intro wh pins s σ H Q I h
  refine isTrue_or (thn (ha pins s σ H _ I h) fun c s1 ⟨H1, I1, q1⟩ => ?_)
  cases c with
  | true => exact ⟨H1, I1, q1⟩
  | false => exact hb wh pins s1 σ H1 Q I1 q1
theorem pt_not (ha : PT X a tA) : PT X (.UnaryOp .Not a pos) (tNot tA) := by
  intro pins s σ H Q I h
  exact isTrue_not (ha pins s σ H (fun c H1 => Q (!c) H1) I h)
/-- .. as values (bools) -/
def tAndV (ta tb : TE) : TE := fun σ H Q => ta σ H fun x H1 => ∃ c, x = .bl c ∧ if c = true then tb σ H1 Q else Q (.bl false) H1
def tNotV (ta : TE) : TE := fun σ H Q => ta σ H fun x H1 => ∃ c, x = .bl c ∧ Q (.bl (!c)) H1
theorem pe_one {op} {t : TE} (h : PE X a t) : PE X (.BoolOp op [a] pos) t := fun pins s σ H Q I hw => BoolOp_one (h pins s σ H Q I hw)
theorem pe_and (ha : PE X a ta) (hb : PE X (.BoolOp .And (b :: rest) pos) tb) : PE X (.BoolOp .And (a :: b :: rest) pos) (tAndV ta tb) := by
  intro pins s σ H Q I h
  refine BoolOp_and (thn (ha pins s σ H _ I h) fun v s1 ⟨x, H1, I1, r1, q1⟩ => ?_)
  obtain ⟨c, rfl, q1⟩ := q1
  cases r1
  refine wpAny_truthy_bool ?_
  cases c with
  | true => exact hb pins s1 σ H1 Q I1 q1
  | false => exact ⟨.bl false, H1, I1, rfl, q1⟩
theorem pe_not (ha : PE X a ta) : PE X (.UnaryOp .Not a pos) (tNotV ta) := by
  intro pins s σ H Q I h
  refine UnaryOp_ (thn (ha pins s σ H _ I h) fun v s1 ⟨x, H1, I1, r1, q1⟩ => ?_)
  obtain ⟨c, rfl, q1⟩ := q1
  cases r1
  exact not_of (wpAny_truthy_bool ⟨.bl (!c), H1, I1, rfl, q1⟩)
end
end L2

namespace L2
open PySem PySem.Spec PyProof.Rows

/-! ### a list, a tuple that is read: tracked, frozen, or an object of the module -/
def SqL (K : PySem.W.Frag) (H : Hp) (a : Addr) (xs : List V) : Prop :=
  Rd H a (.lst xs) ∨
    ∃ (o : Obj) (its : Array Value) (n : Nat), K.lookup a = some o ∧ o.cls = .type "list" ∧ o.dict = none ∧ o.data = .seq its n ∧ its.size ≤ sizeLine ∧ Vals xs its.toList
def SqT (K : PySem.W.Frag) (H : Hp) (a : Addr) (xs : List V) : Prop :=
  Rd H a (.tup xs) ∨
    ∃ (o : Obj) (its : Array Value) (n : Nat), K.lookup a = some o ∧ o.cls = .type "tuple" ∧ o.data = .seq its n ∧ its.size ≤ sizeLine ∧ Vals xs its.toList
def absV : Value → Option V
  | .none => some .non
  | .bool b => some (.bl b)
  | .int i _ => some (.int i)
  | .str x _ => some (.str x)
  | .bytes b _ => some (.byt b)
  | .float b _ => some (.flt b)
  | .ref a => some (.ref a)
  | .type n => some (.ty n)
  | _ => none
theorem RelV.abs {x : V} {u : Value} (r : RelV x u) : absV u = some x := by
  cases x with
  | non => cases r; rfl
  | bl _ => cases r; rfl
  | int _ => obtain ⟨t, rfl⟩ := r; rfl
  | str _ => obtain ⟨t, rfl⟩ := r; rfl
  | byt _ => obtain ⟨t, rfl⟩ := r; rfl
  | flt _ => obtain ⟨t, rfl⟩ := r; rfl
  | ref _ => cases r; rfl
  | ty _ => cases r; rfl
theorem RelV.inj {x y : V} {u : Value} (r : RelV x u) (q : RelV y u) : x = y := Option.some.inj (r.abs.symm.trans q.abs)
theorem Vals.inj : ∀ {xs ys : List V} {us : List Value}, Vals xs us → Vals ys us → xs = ys
  | _, _, _, .nil, .nil => rfl
  | _, _, _, .cons r t, .cons r' t' => by rw [r.inj r', Vals.inj t t']
section
variable {X : Cx} {pins : List (Addr × Obj)} {σ : St} {H : Hp} {s : Shared} {a : Addr} {xs ys : List V}
theorem SqL.of {K : PySem.W.Frag} (h : H a = some (.lst xs)) : SqL K H a xs := .inl (.inl h)
theorem SqT.of {K : PySem.W.Frag} (h : H a = some (.tup xs)) : SqT K H a xs := .inl (.inl h)
theorem Inv.list (I : Inv X pins σ H s) (h : SqL X.K H a xs) : ∃ its : List Value, Vals xs its ∧ PlainL s.heap a its.toArray ∧ xs.length ≤ sizeLine := by
  rcases h with h | ⟨o, its, n, hk, hc, hd, hs, hz, r⟩
  · obtain ⟨z, its, n, r, e⟩ := h.ok I.hok
    exact ⟨its, r, ⟨_, n, e, rfl, rfl, rfl⟩, z⟩
  · refine ⟨its.toList, r, ⟨o, n, I.kIn a o hk, hc, hd, by simpa using hs⟩, ?_⟩
    have e := r.length
    simp only [Array.length_toList] at e
    omega
theorem Inv.tuple (I : Inv X pins σ H s) (h : SqT X.K H a xs) : ∃ its : List Value, Vals xs its ∧ IsTup s.heap a its.toArray ∧ xs.length ≤ sizeLine := by
  rcases h with h | ⟨o, its, n, hk, hc, hs, hz, r⟩
  · obtain ⟨z, its, r, p⟩ := h.ok I.hok
    exact ⟨its, r, p, z⟩
  · refine ⟨its.toList, r, ⟨o, I.kIn a o hk, hc, n, by simpa using hs⟩, ?_⟩
    have e := r.length
    simp only [Array.length_toList] at e
    omega
theorem Inv.list_inj (I : Inv X pins σ H s) (h : SqL X.K H a xs) (h' : SqL X.K H a ys) : xs = ys := by
  obtain ⟨its, r, ⟨o, n, e, _, _, d⟩, _⟩ := I.list h
  obtain ⟨its', r', ⟨o', n', e', _, _, d'⟩, _⟩ := I.list h'
  rw [e] at e'; cases e'
  rw [d] at d'
  injection d' with d1 _
  have : its = its' := by simpa using congrArg Array.toList d1
  subst this
  exact r.inj r'
theorem Inv.tuple_inj (I : Inv X pins σ H s) (h : SqT X.K H a xs) (h' : SqT X.K H a ys) : xs = ys := by
  obtain ⟨its, r, ⟨o, e, _, n, d⟩, _⟩ := I.tuple h
  obtain ⟨its', r', ⟨o', e', _, n', d'⟩, _⟩ := I.tuple h'
  rw [e] at e'; cases e'
  rw [d] at d'
  injection d' with d1 _
  have : its = its' := by simpa using congrArg Array.toList d1
  subst this
  exact r.inj r'
end

/-! ### another wish about exceptions -/
abbrev Cx.wish (X : Cx) (E : Value → Shared → Prop) : Cx := { X with xe := E }
/-- no exception leaves -/
abbrev Cx.nox (X : Cx) : Cx := X.wish fun _ _ => False
theorem Cx.Ok.wish {X : Cx} (ok : X.Ok) (E : Value → Shared → Prop) : (X.wish E).Ok :=
  ⟨ok.mod, ok.kind, ok.glob, ok.blt, ok.above, ok.inj, ok.has, ok.cab, ok.hd, ok.frames, ok.stk, ok.exf, ok.bs, ok.bsz, ok.noex, ok.exfs, ok.funs, ok.frf⟩
theorem Cx.Ok.unwish {X : Cx} {E : Value → Shared → Prop} (ok : (X.wish E).Ok) : X.Ok :=
  ⟨ok.mod, ok.kind, ok.glob, ok.blt, ok.above, ok.inj, ok.has, ok.cab, ok.hd, ok.frames, ok.stk, ok.exf, ok.bs, ok.bsz, ok.noex, ok.exfs, ok.funs, ok.frf⟩
section
variable {X : Cx} {pins : List (Addr × Obj)} {σ : St} {H : Hp} {s : Shared} {E : Value → Shared → Prop}
theorem Inv.wish (I : Inv X pins σ H s) (E : Value → Shared → Prop) : Inv (X.wish E) pins σ H s := ⟨I.ok.wish E, I.os, I.bare, I.base, I.loc, I.cell, I.free, I.freeC, I.pin, I.hok, I.len⟩
theorem Inv.unwish (I : Inv (X.wish E) pins σ H s) : Inv X pins σ H s := ⟨I.ok.unwish, I.os, I.bare, I.base, I.loc, I.cell, I.free, I.freeC, I.pin, I.hok, I.len⟩
theorem SP.unwish {D : Ends} {f : Flow} {s' : Shared} (h : SP (X.wish E) pins D f s') : SP X pins D f s' := by
  cases f with
  | next => obtain ⟨σ', H', I, q⟩ := h; exact ⟨σ', H', I.unwish, q⟩
  | brk => obtain ⟨σ', H', I, q⟩ := h; exact ⟨σ', H', I.unwish, q⟩
  | cont => obtain ⟨σ', H', I, q⟩ := h; exact ⟨σ', H', I.unwish, q⟩
  | ret u => obtain ⟨v, σ', H', I, r, q⟩ := h; exact ⟨v, σ', H', I.unwish, r, q⟩
theorem PSs.nox {st : List Stmt} {t : TS} (h : PSs X.nox st t) : PSs X st t := fun pins s σ H D I hw =>
  wpAny_mono (h pins s σ H D (I.wish _) hw) (fun _ _ q => q.unwish) fun _ _ z => False.elim z
end

/-! ### blocks and small statements -/
section
variable {X : Cx} {st : Stmt} {rest : List Stmt} {t u : TS} {e : Expr} {te : TE} {pos : Pos}
def tNext : TS := fun D σ H => D.nx σ H
def tSeq (t u : TS) : TS := fun D σ H => t { D with nx := u D } σ H
theorem pss_nil : PSs X [] tNext := fun _ _ σ H _ I h => wpAny_execs_nil ⟨σ, H, I, h⟩
theorem pss_cons (h1 : PS X st t) (h2 : PSs X rest u) : PSs X (st :: rest) (tSeq t u) := by
  intro pins s σ H D I h
  refine wpAny_execs_cons (thn (h1 pins s σ H { D with nx := u D } I h) fun f s1 q => ?_)
  cases f with
  | next =>
    obtain ⟨σ', H', I', q⟩ := q
    exact h2 pins s1 σ' H' D I' q
  | ret v => exact q
  | brk => exact q
  | cont => exact q
theorem pss_one (h1 : PS X st t) : PSs X [st] t := by
  intro pins s σ H D I h
  refine wpAny_execs_cons (thn (h1 pins s σ H D I h) fun f s1 q => ?_)
  cases f with
  | next => exact wpAny_execs_nil q
  | ret v => exact q
  | brk => exact q
  | cont => exact q
/-- in a def's body nothing is shown -/
theorem Inv.quiet {pins : List (Addr × Obj)} {σ : St} {H : Hp} {s : Shared} (I : Inv X pins σ H s) : interactive X.env = false := by simp [interactive, I.ok.kind]
/-- an expression whose value is dropped -/
def tDrop (te : TE) : TS := fun D σ H => te σ H fun _ H1 => D.nx σ H1
theorem ps_expr (he : PE X e te) (hs : swapsWith e none pos.line X.env = pure false := by rfl) : PS X (.Expr e pos) (tDrop te) := by
  intro pins s σ H D I h
  exact wpAny_Expr_any (thn (he pins s σ H _ I h) fun v s1 ⟨x, H1, I1, r1, q1⟩ => ⟨σ, H1, I1, q1⟩) I.quiet hs
def tRet (te : TE) : TS := fun D σ H => te σ H D.rt
theorem ps_ret (he : PE X e te) : PS X (.Return (some e) pos) (tRet te) := by
  intro pins s σ H D I h
  exact wpAny_Return_some (thn (he pins s σ H _ I h) fun v s1 ⟨x, H1, I1, r1, q1⟩ => ⟨x, σ, H1, I1, r1, q1⟩)
def tIfS (c : TT) (t u : TS) : TS := fun D σ H => c σ H fun b H1 => if b = true then t D σ H1 else u D σ H1
theorem ps_if {c : Expr} {a b : List Stmt} {tc : TT} (hc : PT X c tc) (ha : PSs X a t) (hb : PSs X b u) : PS X (.If c a b pos) (tIfS tc t u) := by
  intro pins s σ H D I h
  refine wpAny_If (thn (hc pins s σ H _ I h) fun d s1 ⟨H1, I1, q1⟩ => ?_)
  cases d with
  | true => exact ha pins s1 σ H1 D I1 q1
  | false => exact hb pins s1 σ H1 D I1 q1
/-- code that the proof never comes to -/
def tNever : TS := fun _ _ _ => False
theorem ps_never : PS X st tNever := fun _ _ _ _ _ _ h => h.elim
end

/-! ### targets -/
abbrev TG := V → St → Hp → (St → Hp → Prop) → Prop
abbrev TGs := List V → St → Hp → (St → Hp → Prop) → Prop
def PG (X : Cx) (target : Expr) (t : TG) : Prop :=
  ∀ (pins : List (Addr × Obj)) (s : Shared) (σ : St) (H : Hp) (v : V) (u : Value) (Q : St → Hp → Prop), Inv X pins σ H s → RelV v u → t v σ H Q →
    wpAny (model X.prog X.w) X.A (assign target X.env u) (fun _ s' => ∃ σ' H', Inv X pins σ' H' s' ∧ Q σ' H') X.xe s
/-- several targets, one after another -/
def PGs (X : Cx) (ts : List Expr) (t : TGs) : Prop :=
  ∀ (pins : List (Addr × Obj)) (s : Shared) (σ : St) (H : Hp) (vs : List V) (us : List Value) (Q : St → Hp → Prop), Inv X pins σ H s → Vals vs us → t vs σ H Q →
    wpAny (model X.prog X.w) X.A (assignInOrder ((assignEach ts X.env).map (·.2)) us) (fun _ s' => ∃ σ' H', Inv X pins σ' H' s' ∧ Q σ' H') X.xe s
/-- o[i] = v, by values -/
abbrev TSet := V → V → V → Hp → (Hp → Prop) → Prop
def PSet (X : Cx) (t : TSet) : Prop :=
  ∀ (pins : List (Addr × Obj)) (s : Shared) (σ : St) (H : Hp) (o i v : V) (ov iv u : Value) (Q : Hp → Prop), Inv X pins σ H s → RelV o ov → RelV i iv → RelV v u → t o i v H Q →
    wpAny (model X.prog X.w) X.A (setItem ov iv u) (fun _ s' => ∃ H', Inv X pins σ H' s' ∧ Q H') X.xe s
section
variable {X : Cx} {pos : Pos}
def gName (i : Nat) : TG := fun v σ H Q => Q (σ.set i (some v)) H
theorem pg_name {i : Nat} {x : Str} (hN : X.N.Nodup) (hi : X.N[i]? = some x := by rfl) (hx : Loc X.env.scope x := by first | exact .inl rfl | exact .inr rfl) (hf : X.fn x = true ∨ X.env.scope.names.lookup x = some .local := by first | exact .inl rfl | exact .inr rfl | assumption) : PG X (.Name x pos) (gName i) := by
  intro pins s σ H v u Q I r h
  exact wpAny_assign_Name (store_ok I hN hi hx r (fun s' I' => ⟨_, H, I', h⟩) hf)
def gNil : TGs := fun vs σ H Q => vs = [] ∧ Q σ H
def gCons (t : TG) (u : TGs) : TGs := fun vs σ H Q => ∃ v r, vs = v :: r ∧ t v σ H fun σ' H' => u r σ' H' Q
theorem pgs_nil : PGs X [] gNil := by
  intro pins s σ H vs us Q I r h
  obtain ⟨e, h⟩ := h
  subst e
  cases r
  exact assignInOrder_nil ⟨σ, H, I, h⟩
theorem pgs_cons {e : Expr} {es : List Expr} {t : TG} {u : TGs} (h1 : PG X e t) (h2 : PGs X es u)
    (hs : (assignEach (e :: es) X.env).map (·.2) = assign e X.env :: (assignEach es X.env).map (·.2) := by rfl) : PGs X (e :: es) (gCons t u) := by
  intro pins s σ H vs us Q I r h
  obtain ⟨v, vr, e1, h⟩ := h
  subst e1
  cases r with
  | cons r rr =>
    rw [hs]
    refine assignInOrder_cons (thn (h1 pins s σ H _ _ _ I r h) fun _ s1 ⟨σ1, H1, I1, q1⟩ => ?_)
    exact h2 pins s1 σ1 H1 _ _ Q I1 rr q1
/-- (a, b, ..) = a tuple of that length -/
def gTup (K : PySem.W.Frag) (n : Nat) (t : TGs) : TG := fun v σ H Q => ∃ a xs, v = .ref a ∧ SqT K H a xs ∧ xs.length = n ∧ t xs σ H Q
theorem pg_tup {es : List Expr} {k : Nat} {t : TGs} {n : Nat} (hc : X.calm = true) (h : PGs X es t)
    (hn : (assignEach es X.env).length = n := by rfl) (hst : (assignEach es X.env).findIdx? (·.1) = none := by rfl) : PG X (.Tuple es k pos) (gTup X.K n t) := by
  intro pins s σ H v u Q I r hw
  obtain ⟨a, xs, e1, hq, hl, hw⟩ := hw
  subst e1
  cases r
  obtain ⟨its, rv, ht, hz⟩ := I.tuple hq
  refine assign_Tuple_tuple (I.ok.hd hc) ht (by simp [hn, ← hl, rv.length]) hst fun h' hx => ?_
  have I1 : Inv X pins σ H { s with heap := h' } := I.kept (t' := s.toks) fun b o e => hx b o (Nat.ne_of_lt (Heap.lt_size e)) e
  exact h pins _ σ H xs _ Q I1 (by simpa using rv) hw
/-- o[i] = .. -/
def gSub (to ti : TE) (t : TSet) : TG := fun v σ H Q => to σ H fun o H1 => ti σ H1 fun i H2 => t o i v H2 fun H3 => Q σ H3
theorem pg_sub {o i : Expr} {to ti : TE} {t : TSet} (ho : PE X o to) (hi : PE X i ti) (hs : PSet X t)
    (ha : ∀ v, assign (.Subscript o i pos) X.env v = (do
      let ov ← holding [v] (eval o X.env)
      let iv ← holding [v, ov] (eval i X.env)
      standAt pos
      holding [v, ov, iv] (setItem ov iv v)
      release [v, ov, iv] []) := by intro _; rfl) : PG X (.Subscript o i pos) (gSub to ti t) := by
  intro pins s σ H v u Q I r h
  rw [ha]
  refine wpAny_bind (wpAny_holding (thn (ho pins s σ H _ I h) fun ov s1 ⟨x, H1, I1, r1, q1⟩ => ?_))
  refine wpAny_bind (wpAny_holding (thn (hi pins s1 σ H1 _ I1 q1) fun iv s2 ⟨y, H2, I2, r2, q2⟩ => ?_))
  refine wpAny_bind (wpAny_standAt (wpAny_bind (wpAny_holding (thn (hs pins s2 σ H2 x y v ov iv u _ I2 r1 r2 r q2) fun _ s3 ⟨H3, I3, q3⟩ => ?_))))
  exact wpAny_release ⟨σ, H3, I3, q3⟩
/-- target = value -/
def tAsg (te : TE) (g : TG) : TS := fun D σ H => te σ H fun x H1 => g x σ H1 D.nx
theorem ps_asg {tg e : Expr} {te : TE} {g : TG} (he : PE X e te) (hg : PG X tg g) (hs : swapsWithSole [tg] e pos.line X.env = pure false := by rfl) (hw : swappedStores [tg] e X.env = pure none := by rfl)
    (h1 : (assignEach [tg] X.env).map (·.2) = [assign tg X.env] := by rfl) : PS X (.Assign [tg] e pos) (tAsg te g) := by
  intro pins s σ H D I h
  refine wpAny_Assign_stores (thn (he pins s σ H _ I h) fun v s1 ⟨x, H1, I1, r1, q1⟩ => ?_) hs hw
  rw [h1]
  exact thn (hg pins s1 σ H1 x v _ I1 r1 q1) fun _ s2 q => q
/-- name = value -/
theorem ps_set {i : Nat} {x : Str} {e : Expr} {te : TE} {pos' : Pos} (hN : X.N.Nodup) (he : PE X e te) (hi : X.N[i]? = some x := by rfl) (hx : Loc X.env.scope x := by first | exact .inl rfl | exact .inr rfl) (hs : swapsWith e (some (.Name x pos')) pos.line X.env = pure false := by rfl) (hf : X.fn x = true ∨ X.env.scope.names.lookup x = some .local := by first | exact .inl rfl | exact .inr rfl | assumption) :
    PS X (.Assign [.Name x pos'] e pos) (tAsg te (gName i)) := by
  intro pins s σ H D I h
  refine wpAny_Assign_Name (thn (he pins s σ H _ I h) fun v s1 ⟨y, H1, I1, r1, q1⟩ => ?_) hs
  exact store_ok I1 hN hi hx r1 (fun s2 I2 => ⟨_, H1, I2, q1⟩) hf
end

/-! ### while -/
section
variable {X : Cx} {pos : Pos}
/-- the invariant W with its measure -/
def tWhile (c : TT) (tb : TS) : TS := fun D σ H => ∃ W : Nat → St → Hp → Prop, (∃ m, W m σ H) ∧ ∀ m σ H, W m σ H →
  c σ H fun b H1 => if b = true then ∃ N : St → Hp → Prop, (∀ σ' H', N σ' H' → ∃ m', m' < m ∧ W m' σ' H') ∧ tb { D with nx := N, ct := N, bk := D.nx } σ H1 else D.nx σ H1
theorem ps_while {c : Expr} {body : List Stmt} {tc : TT} {tb : TS} (hp : PassesOwn (model X.prog X.w) X.A X.env X.xe) (hc : PT X c tc) (hb : PSs X body tb) : PS X (.While c body [] pos) (tWhile tc tb) := by
  intro pins s σ H D I h
  obtain ⟨W, ⟨m0, w0⟩, turn⟩ := h
  refine wpAny_While (codeAny_whileLoop (fun n s' => ∃ σ' H', Inv X pins σ' H' s' ∧ W n σ' H') ?_ m0 ⟨σ, H, I, w0⟩)
  rintro n s1 ⟨σ1, H1, I1, w1⟩
  refine wpAny_passesOwn hp (thn (hc pins s1 σ1 H1 _ I1 (turn n σ1 H1 w1)) fun b s2 ⟨H2, I2, q2⟩ => ?_)
  cases b with
  | true =>
    obtain ⟨N, hN, q2⟩ := q2
    rw [if_pos rfl]
    refine wpAny_passesOwn hp (thn (hb pins s2 σ1 H2 _ I2 q2) fun f s3 q3 => ?_)
    cases f with
    | next =>
      obtain ⟨σ3, H3, I3, n3⟩ := q3
      obtain ⟨m', hm, w3⟩ := hN σ3 H3 n3
      exact ⟨m', hm, σ3, H3, I3, w3⟩
    | cont =>
      obtain ⟨σ3, H3, I3, n3⟩ := q3
      obtain ⟨m', hm, w3⟩ := hN σ3 H3 n3
      exact ⟨m', hm, σ3, H3, I3, w3⟩
    | brk => exact q3
    | ret v => exact q3
  | false =>
    rw [if_neg Bool.false_ne_true]
    exact wpAny_execs_nil ⟨σ1, H2, I2, q2⟩
end

/-! ### what a loop or a comprehension walks -/
/-- at turn i: it yields x (the heap may grow), or it stops -/
structure It where
  go : Nat → Hp → Prop
  yld : Nat → Hp → V → Hp → Prop
  stop : Nat → Hp → Prop
/-- the iterator's own objects may turn: they are not the frame's, not pinned, younger than the entry (or a comprehension's own) -/
def FpOk (X : Cx) (pins : List (Addr × Obj)) (H : Hp) (b : Addr) : Prop :=
  H b = none ∧ b ≠ X.env.locals ∧ b ∉ X.fs ∧ (b ∈ X.ex ∨ X.s₀.heap.objs.size ≤ b) ∧ (∀ x c, X.env.cells.lookup x = some c → c ≠ b) ∧ ∀ p ∈ X.pn ++ pins, p.1 ≠ b
theorem Inv.fpOk {X : Cx} {pins : List (Addr × Obj)} {σ : St} {H H' : Hp} {s : Shared} {b : Addr} (I : Inv X pins σ H s) (hb : s.heap.objs.size ≤ b) (hn : H' b = none) : FpOk X pins H' b := by
  refine ⟨hn, Nat.ne_of_gt (Nat.lt_of_lt_of_le I.lt hb), I.nofs hb, .inr (Nat.le_trans I.sz hb), fun x c e z => ?_, fun p hp z => ?_⟩
  · obtain ⟨v, q⟩ := I.cell x c e
    exact absurd (Nat.lt_of_lt_of_le q.lt (by rw [z]; exact hb)) (Nat.lt_irrefl _)
  · exact absurd (Nat.lt_of_lt_of_le (Heap.lt_size (I.pin p hp).1) (by rw [z]; exact hb)) (Nat.lt_irrefl _)
structure Turn (P : Program) (w : World) (K : PySem.W.Frag) (tg : Expr) (J : It) (fp : List Addr) (it : Addr) (tn : Nat → Heap → Prop) : Prop where
  mem : it ∈ fp
  obj : ∀ i h, tn i h → ∀ b ∈ fp, ∃ o, h.get? b = some o ∧ ∀ v, o.data ≠ .cell v
  keep : ∀ i h h', tn i h → (∀ b ∈ fp, ∀ o, h.get? b = some o → h'.get? b = some o) → tn i h'
  item : ∀ (X : Cx), X.prog = P → X.w = w → X.K = K → X.calm = true → ∀ (i : Nat) (pins : List (Addr × Obj)) (s : Shared) (σ : St) (H : Hp) (E : Value → Shared → Prop), Inv X pins σ H s → (∀ b ∈ fp, FpOk X pins H b) → tn i s.heap → J.go i H →
    wpAny (model P w) X.A (pyNext (.ref it)) (fun r s1 => ∃ u, r = some u ∧
      wpAny (model P w) X.A (letOwnedTupleGo tg (.ref it) u) (fun _ s2 => ∃ x H', Inv X pins σ H' s2 ∧ RelV x u ∧ J.yld i H x H' ∧ tn (i + 1) s2.heap ∧ ∀ b ∈ fp, H' b = none) E s1) E s
  done : ∀ (X : Cx), X.prog = P → X.w = w → X.K = K → X.calm = true → ∀ (i : Nat) (pins : List (Addr × Obj)) (s : Shared) (σ : St) (H : Hp) (E : Value → Shared → Prop), Inv X pins σ H s → (∀ b ∈ fp, FpOk X pins H b) → tn i s.heap → J.stop i H →
    wpAny (model P w) X.A (pyNext (.ref it)) (fun r s1 => r = none ∧ Inv X pins σ H s1) E s
  self : ∀ (A : Around) (i : Nat) (s : Shared) (Q : Value → Shared → Prop) (E : Value → Shared → Prop), tn i s.heap → Q (.ref it) s → wpAny (model P w) A (pyIter (.ref it)) Q E s
abbrev TI := St → Hp → (It → Hp → Prop) → Prop
/-- an iterator has come -/
def PIE (X : Cx) (pins : List (Addr × Obj)) (σ : St) (tg : Expr) (R : It → Hp → Prop) (itv : Value) (s2 : Shared) : Prop :=
  ∃ (it : Addr) (fp : List Addr) (tn : Nat → Heap → Prop) (J : It) (H' : Hp), itv = .ref it ∧ Inv X pins σ H' s2 ∧ Turn X.prog X.w X.K tg J fp it tn ∧ tn 0 s2.heap ∧ (∀ b ∈ fp, FpOk X pins H' b) ∧ R J H'
def PI (X : Cx) (tg iter : Expr) (wi : TI) : Prop :=
  ∀ (pins : List (Addr × Obj)) (s : Shared) (σ : St) (H : Hp) (R : It → Hp → Prop), Inv X pins σ H s → wi σ H R →
    wpAny (model X.prog X.w) X.A (eval iter X.env) (fun v s1 => wpAny (model X.prog X.w) X.A (pyIter v) (PIE X pins σ tg R) X.xe s1) X.xe s

/-- the step ahead of the store is nothing for an iterator that keeps no tuple -/
theorem go_of {M : Model} {A : Around} {E : Value → Shared → Prop} {s : Shared} {tg : Expr} {it : Addr} {u : Value} {o : Obj} {n : String} {vs : Array Value} {Q : Unit → Shared → Prop} (ho : s.heap.get? it = some o) (hc : o.cls = .type n) (hd : o.data = .fields vs)
    (hn : ["enumerate", "zip", "dict_itemiterator", "dict_reverseitemiterator", "odict_iterator", "itertools.zip_longest", "itertools.pairwise"].contains n = false) (hQ : Q () s) : wpAny M A (letOwnedTupleGo tg (.ref it) u) Q E s := by
  unfold letOwnedTupleGo
  cases tg <;> first
    | exact wpAny_pure hQ
    | (cases u <;> first
        | exact wpAny_pure hQ
        | (refine wpAny_bind (wpAny_load ho ?_)
           rw [hc, hd]
           show wpAny M A (if (["enumerate", "zip", "dict_itemiterator", "dict_reverseitemiterator", "odict_iterator", "itertools.zip_longest", "itertools.pairwise"].contains n && vs[0]? == some (rawInt _)) = true then _ else _) Q E s
           rw [if_neg (by intro h; rw [hn, Bool.false_and] at h; cases h)]
           exact wpAny_pure hQ))

/-- the list at a, as it stands at each turn (a loop may append to it) -/
def Itl (K : PySem.W.Frag) (a : Addr) : It :=
  ⟨fun i H => ∃ xs x, SqL K H a xs ∧ xs[i]? = some x, fun i H x H' => H' = H ∧ ∀ xs, SqL K H a xs → xs[i]? = some x, fun i H => ∃ xs, SqL K H a xs ∧ xs.length ≤ i⟩
/-- lo, lo + 1, .. (n of them) -/
def Itr (lo : Int) (n : Nat) : It := ⟨fun i _ => i < n, fun i H x H' => H' = H ∧ x = .int (lo + i), fun i _ => n ≤ i⟩
theorem turn_list {P : Program} {w : World} {K : PySem.W.Frag} {tg : Expr} (a it : Addr) : Turn P w K tg (Itl K a) [it] it (fun i h => h.IsListIter it a i) where
  mem := by simp
  obj := fun i h st b hb => by
    have e : b = it := by simpa using hb
    subst e
    obtain ⟨o, e, c, d⟩ := st
    exact ⟨o, e, fun v z => by rw [d] at z; cases z⟩
  keep := fun i h h' st k => st.at fun o e => k it (by simp) o e
  item := by
    intro X hP hw hK hc i pins s σ H E I hf st hg
    subst hP hw hK
    obtain ⟨xs, x, hq, hx⟩ := hg
    obtain ⟨its, rv, p, hz⟩ := I.list hq
    obtain ⟨u, hu, ru⟩ := rv.get hx
    obtain ⟨f0, f1, f2, f3, f4, f5⟩ := hf it (by simp)
    refine wpAny_pyNext_list_item st p.isList (x := u) (by simpa using hu) fun h' st' sb => ?_
    have I1 : Inv X pins σ H { s with heap := h' } := I.turned (t' := s.toks) (fun b o hb e => (sb.2 b hb).trans e) f0 f1 f3 f4 f5
    obtain ⟨o, e, c, d⟩ := id st'
    exact ⟨u, rfl, go_of (s := { s with heap := h' }) e c d (by decide) ⟨x, H, I1, ru, ⟨rfl, fun ys hy => by rw [I.list_inj hy hq]; exact hx⟩, st', fun b hb => (hf b hb).1⟩⟩
  done := by
    intro X hP hw hK hc i pins s σ H E I hf st hg
    subst hP hw hK
    obtain ⟨xs, hq, hx⟩ := hg
    obtain ⟨its, rv, p, hz⟩ := I.list hq
    obtain ⟨f0, f1, f2, f3, f4, f5⟩ := hf it (by simp)
    have hl := rv.length
    exact wpAny_pyNext_list_end (I.ok.hd hc) st p.isList (by simp; omega) fun h' eb => ⟨rfl, I.turned (t' := s.toks) (fun b o hb e => eb b o hb e) f0 f1 f3 f4 f5⟩
  self := fun _ _ _ _ _ st h => wpAny_pyIter_listiter st h
theorem turn_range {P : Program} {w : World} {K : PySem.W.Frag} {tg : Expr} (it : Addr) (lo : Int) (n : Nat) : Turn P w K tg (Itr lo n) [it] it (fun i h => IsRangeIter h it (lo + (i : Nat) * 1) ((n : Int) - (i : Nat)) 1) where
  mem := by simp
  obj := fun i h st b hb => by
    have e : b = it := by simpa using hb
    subst e
    exact ⟨_, st, fun v z => by
      have z' : Data.fields _ = Data.cell v := z
      cases z'⟩
  keep := fun i h h' st k => k it (by simp) _ st
  item := by
    intro X hP hw hK hc i pins s σ H E I hf st hg
    subst hP hw hK
    obtain ⟨f0, f1, f2, f3, f4, f5⟩ := hf it (by simp)
    have W := Walks.range (prog := X.prog) (w := X.w) (I.ok.hd hc) it lo 1 n
    refine W.item i s _ _ hg st fun v h' tk hv st' kk => ?_
    obtain ⟨t, rfl⟩ := hv
    have I1 : Inv X pins σ H { s with heap := h', toks := tk } := I.turned (fun b o hb e => kk b o (by simpa using hb) e) f0 f1 f3 f4 f5
    refine ⟨_, rfl, go_of (s := { s with heap := h', toks := tk }) (n := "range_iterator") st' rfl rfl (by decide) ⟨.int (lo + i), H, I1, ⟨t, ?_⟩, ⟨rfl, rfl⟩, st', fun b hb => (hf b hb).1⟩⟩
    rw [Int.mul_one]
  done := by
    intro X hP hw hK hc i pins s σ H E I hf st hg
    subst hP hw hK
    obtain ⟨f0, f1, f2, f3, f4, f5⟩ := hf it (by simp)
    exact wpAny_pyNext_range_end (I.ok.hd hc) st (by have : n ≤ i := hg; omega) fun h' eb => ⟨rfl, I.turned (t' := s.toks) (fun b o hb e => eb b o hb e) f0 f1 f3 f4 f5⟩
  self := fun _ _ _ _ _ st h => wpAny_pyIter_rangeiter st h
end L2

namespace L2
open PySem PySem.Spec PyProof.Rows
section
variable {X : Cx} {tg : Expr}
def iList (K : PySem.W.Frag) (tl : TE) : TI := fun σ H R => tl σ H fun x H1 => ∃ a, x = .ref a ∧ (∃ xs, SqL K H1 a xs) ∧ R (Itl K a) H1
theorem pi_list {l : Expr} {tl : TE} (hl : PE X l tl) : PI X tg l (iList X.K tl) := by
  intro pins s σ H R I h
  refine thn (hl pins s σ H _ I h) fun v s1 ⟨x, H1, I1, r1, q1⟩ => ?_
  obtain ⟨a, e, ⟨xs, hq⟩, q⟩ := q1
  subst e
  cases r1
  obtain ⟨its, rv, p, hz⟩ := I1.list hq
  refine wpAny_pyIter_list p.isList ?_
  refine ⟨s1.heap.objs.size, [s1.heap.objs.size], _, _, H1, rfl, I1.kept (t' := s1.toks) fun b o e => Heap.get?_push_of_some _ e, turn_list a _, ⟨_, Heap.get?_push_size _ rfl, rfl, rfl⟩, fun b hb => ?_, q⟩
  have e : b = s1.heap.objs.size := by simpa using hb
  subst e
  exact I1.fpOk (Nat.le_refl _) (I1.hok.fresh (Nat.le_refl _))
/-- a range object just made, walked -/
theorem range_it {pins : List (Addr × Obj)} {σ : St} {H : Hp} {s : Shared} {R : It → Hp → Prop} {E : Value → Shared → Prop} {lo hi : Int} {t u v : Tok} {tk : Nat} (I : Inv X pins σ H s) (h1 : -(2 ^ 62) ≤ lo) (h2 : lo < 2 ^ 62) (h3 : -(2 ^ 62) ≤ hi) (h4 : hi < 2 ^ 62)
    (q : R (Itr lo (hi - lo).toNat) H) : wpAny (model X.prog X.w) X.A (pyIter (.ref s.heap.objs.size)) (PIE X pins σ tg R) E { s with heap := s.heap.push { cls := .type "range", data := .fields #[.int lo t, .int hi u, .int 1 v] }, toks := tk } := by
  refine wpAny_pyIter_range (IsRange.new ..) (small_one h1 h2 h3 h4) ?_
  have I1 : Inv X pins σ H { s with heap := s.heap.push { cls := .type "range", data := .fields #[.int lo t, .int hi u, .int 1 v] }, toks := tk } := I.kept fun b o e => Heap.get?_push_of_some _ e
  refine ⟨(s.heap.push { cls := .type "range", data := .fields #[.int lo t, .int hi u, .int 1 v] }).objs.size, [(s.heap.push { cls := .type "range", data := .fields #[.int lo t, .int hi u, .int 1 v] }).objs.size], _, _, H, rfl,
    I1.kept (t' := tk) fun b o e => Heap.get?_push_of_some _ e, turn_range _ lo (hi - lo).toNat, ?_, fun b hb => ?_, q⟩
  · have e1 : lo + ((0 : Nat) : Int) * 1 = lo := by simp
    have e2 : (((hi - lo).toNat : Nat) : Int) - ((0 : Nat) : Int) = Builtin.Range.rangeSize lo hi 1 := by rw [rangeSize_one]; split <;> omega
    show IsRangeIter _ _ (lo + ((0 : Nat) : Int) * 1) ((((hi - lo).toNat : Nat) : Int) - ((0 : Nat) : Int)) 1
    rw [e1, e2]
    exact Heap.get?_push_size _ rfl
  · have e : b = (s.heap.push { cls := .type "range", data := .fields #[.int lo t, .int hi u, .int 1 v] }).objs.size := by simpa using hb
    subst e
    exact I1.fpOk (Nat.le_refl _) (I1.hok.fresh (Nat.le_refl _))
def iRng1 (ta : TA) : TI := fun σ H R => ta σ H fun vs H1 => ∃ j : Int, vs = [.int j] ∧ -(2 ^ 62) ≤ j ∧ j < 2 ^ 62 ∧ R (Itr 0 j.toNat) H1
theorem pi_range1 {a : Expr} {ta : TA} {p pos : Pos} (hg : Gl X "range") (hm : X.mg "range" = none) (ha : PA X [a] ta) (hs : starEach [a] X.env = [(false, eval a X.env)] := by rfl) : PI X tg (.Call (.Name "range" p) [a] [] pos) (iRng1 ta) := by
  intro pins s σ H R I h
  refine Call_ (ld_blt I hg hm boot_range (PyProof.Rows.callWith_type1 (thn (ha pos pins s σ H _ I h) fun us s1 ⟨vs, H1, I1, r1, q1⟩ => ?_) hs rfl))
  obtain ⟨j, e, q1, q2, q⟩ := q1
  subst e
  cases r1 with
  | cons r rr =>
    cases rr
    obtain ⟨t, rfl⟩ := r
    exact call_range_1 (range_it I1 (by omega) (by omega) q1 q2 (by simpa using q))

/-! ### for -/
/-- W: the invariant by the turn and a measure; N: what the body is to reach -/
def Loop (J : It) (g : TG) (tb : TS) (D : Ends) (σ : St) (H1 : Hp) : Prop := ∃ W : Nat → Nat → St → Hp → Prop, (∃ m, W 0 m σ H1) ∧ ∀ i m σ H, W i m σ H →
  (J.stop i H ∧ D.nx σ H) ∨ (J.go i H ∧ ∃ N : St → Hp → Prop, (∀ σ' H', N σ' H' → ∃ m', m' < m ∧ W (i + 1) m' σ' H') ∧ ∀ x H', J.yld i H x H' → g x σ H' fun σ2 H2 => tb { D with nx := N, ct := N, bk := D.nx } σ2 H2)
def tFor (wi : TI) (g : TG) (tb : TS) : TS := fun D σ H => wi σ H fun J H1 => Loop J g tb D σ H1
/-- the records at fp as they stand -/
def pinsAt (fp : List Addr) (h : Heap) : List (Addr × Obj) := fp.filterMap fun b => (h.get? b).map fun o => (b, o)
theorem mem_pinsAt {fp : List Addr} {h : Heap} {b : Addr} {o : Obj} (hb : b ∈ fp) (e : h.get? b = some o) : (b, o) ∈ pinsAt fp h := List.mem_filterMap.mpr ⟨b, hb, by rw [e]; rfl⟩
theorem of_pinsAt {fp : List Addr} {h : Heap} {p : Addr × Obj} (hp : p ∈ pinsAt fp h) : p.1 ∈ fp ∧ h.get? p.1 = some p.2 := by
  obtain ⟨b, hb, e⟩ := List.mem_filterMap.mp hp
  cases q : h.get? b with
  | none => rw [q] at e; cases e
  | some o =>
    rw [q] at e
    have e' : (b, o) = p := Option.some.inj e
    subst e'
    exact ⟨hb, q⟩
theorem Inv.pinned {pins : List (Addr × Obj)} {σ : St} {H : Hp} {s : Shared} {fp : List Addr} (I : Inv X pins σ H s) (hf : ∀ b ∈ fp, FpOk X pins H b) (ho : ∀ b ∈ fp, ∃ o, s.heap.get? b = some o ∧ ∀ v, o.data ≠ .cell v) : Inv X (pins ++ pinsAt fp s.heap) σ H s :=
  I.pins_of fun p hp => (List.mem_append.mp hp).elim (fun z => I.pin p (List.mem_append_right _ z)) fun z => by
    obtain ⟨hb, e⟩ := of_pinsAt z
    obtain ⟨f0, f1, f2, _⟩ := hf p.1 hb
    obtain ⟨o, e', d⟩ := ho p.1 hb
    rw [e] at e'; cases e'
    exact ⟨e, f0, f1, f2, d⟩
theorem Inv.unpinned {pins pl : List (Addr × Obj)} {σ : St} {H : Hp} {s : Shared} (I : Inv X (pins ++ pl) σ H s) : Inv X pins σ H s := I.pins_of fun p hp => I.pin p (List.mem_append_right _ (List.mem_append_left _ hp))
theorem ps_for {iter : Expr} {body : List Stmt} {wi : TI} {g : TG} {tb : TS} {pos : Pos} (hp : PassesOwn (model X.prog X.w) X.A X.env X.xe) (hc : X.calm = true) (hi : PI X tg iter wi) (hg : PG X tg g) (hb : PSs X body tb)
    (hs : ∀ x, foldedSetIterable iter X.env x = pure x := by intro _; rfl) : PS X (.For tg iter body [] pos) (tFor wi g tb) := by
  intro pins s σ H D I h
  refine wpAny_For (thn (hi pins s σ H _ I h) fun v s1 h1 => thn h1 fun itv s2 h2 => ?_) hs
  obtain ⟨it, fp, tn, J, H2, e, I2, T, st2, f2, W, ⟨m0, w0⟩, turn⟩ := h2
  subst e
  -- what stays true of the iterator's objects through the loop
  have stat : ∀ {H' : Hp}, (∀ b ∈ fp, H' b = none) → ∀ b ∈ fp, FpOk X pins H' b := fun hn b hb => ⟨hn b hb, (f2 b hb).2⟩
  refine codeAny_forLoop_any (fun n s' => ∃ i σ' H', Inv X pins σ' H' s' ∧ tn i s'.heap ∧ (∀ b ∈ fp, H' b = none) ∧ W i n σ' H') ?_ m0 ⟨0, σ, H2, I2, st2, fun b hb => (f2 b hb).1, w0⟩
  rintro n s3 ⟨i, σ3, H3, I3, st3, fr3, w3⟩
  rcases turn i n σ3 H3 w3 with ⟨stop, qn⟩ | ⟨go, N, hN, step⟩
  · refine wpAny_passesOwn hp (thn (T.done X rfl rfl rfl hc i pins s3 σ3 H3 X.xe I3 (stat fr3) st3 stop) fun r s4 ⟨hr, I4⟩ => ?_)
    subst hr
    exact wpAny_execs_nil ⟨σ3, H3, I4, qn⟩
  · refine wpAny_passesOwn hp (thn (T.item X rfl rfl rfl hc i pins s3 σ3 H3 X.xe I3 (stat fr3) st3 go) fun r s4 ⟨u, hr, h4⟩ => ?_)
    subst hr
    refine wpAny_passesOwn hp (thn h4 fun _ s5 ⟨x, H5, I5, r5, y5, st5, fr5⟩ => ?_)
    have I5' := I5.pinned (stat fr5) (T.obj _ _ st5)
    refine wpAny_passesOwn hp (thn (hg _ s5 σ3 H5 x u _ I5' r5 (step x H5 y5)) fun _ s6 ⟨σ6, H6, I6, q6⟩ => ?_)
    refine wpAny_passesOwn hp (thn (hb _ s6 σ6 H6 _ I6 q6) fun f s7 q7 => ?_)
    have again : ∀ {σ7 : St} {H7 : Hp}, Inv X (pins ++ pinsAt fp s5.heap) σ7 H7 s7 → N σ7 H7 → ∃ m, m < n ∧ ∃ i σ' H', Inv X pins σ' H' s7 ∧ tn i s7.heap ∧ (∀ b ∈ fp, H' b = none) ∧ W i m σ' H' := fun {σ7 H7} I7 n7 => by
      obtain ⟨m', hm, w7⟩ := hN σ7 H7 n7
      refine ⟨m', hm, i + 1, σ7, H7, I7.unpinned, T.keep _ _ _ st5 fun b hb o e => (I7.pin (b, o) (List.mem_append_right _ (List.mem_append_right _ (mem_pinsAt hb e)))).1, fun b hb => ?_, w7⟩
      obtain ⟨o, e, d⟩ := T.obj _ _ st5 b hb
      exact (I7.pin (b, o) (List.mem_append_right _ (List.mem_append_right _ (mem_pinsAt hb e)))).2.1
    cases f with
    | next => obtain ⟨σ7, H7, I7, n7⟩ := q7; exact again I7 n7
    | cont => obtain ⟨σ7, H7, I7, n7⟩ := q7; exact again I7 n7
    | brk => obtain ⟨σ7, H7, I7, q7⟩ := q7; exact ⟨σ7, H7, I7.unpinned, q7⟩
    | ret v => obtain ⟨x7, σ7, H7, I7, r7, q7⟩ := q7; exact ⟨x7, σ7, H7, I7.unpinned, r7, q7⟩
end

/-! ### the forms one uses -/
/-- over a list that the body leaves as it is -/
theorem for_turns {J : It} {g : TG} {tb : TS} {D : Ends} {σ : St} {H : Hp} (n : Nat) (Pv : Nat → St → Hp → Prop) (h0 : Pv 0 σ H) (go : ∀ i σ H, Pv i σ H → i < n → J.go i H) (stop : ∀ σ H, Pv n σ H → J.stop n H)
    (hs : ∀ i v σ H H', Pv i σ H → i < n → J.yld i H v H' → g v σ H' fun σ2 H2 => tb { D with nx := Pv (i + 1), ct := Pv (i + 1), bk := D.nx } σ2 H2) (hd : ∀ σ H, Pv n σ H → D.nx σ H) : Loop J g tb D σ H := by
  unfold Loop
  refine ⟨fun i m σ H => m = n - i ∧ i ≤ n ∧ Pv i σ H, ⟨_, rfl, Nat.zero_le _, h0⟩, ?_⟩
  rintro i m σ H ⟨rfl, hi, p⟩
  by_cases hlt : i < n
  · exact .inr ⟨go i σ H p hlt, Pv (i + 1), fun σ' H' p' => ⟨n - (i + 1), by omega, rfl, hlt, p'⟩, fun v H' y => hs i v σ H H' p hlt y⟩
  · obtain rfl : i = n := by omega
    exact .inl ⟨stop σ H p, hd σ H p⟩
theorem for_list {K : PySem.W.Frag} {a : Addr} {xs : List V} {g : TG} {tb : TS} {D : Ends} {σ : St} {H : Hp} (Pv : Nat → St → Hp → Prop) (h0 : Pv 0 σ H) (hl : ∀ i σ H, i ≤ xs.length → Pv i σ H → SqL K H a xs)
    (hs : ∀ i x σ H, xs[i]? = some x → Pv i σ H → g x σ H fun σ2 H2 => tb { D with nx := Pv (i + 1), ct := Pv (i + 1), bk := D.nx } σ2 H2) (hd : ∀ σ H, Pv xs.length σ H → D.nx σ H) : Loop (Itl K a) g tb D σ H := for_turns xs.length Pv h0 (fun i σ H p hi => ⟨xs, xs[i], hl i σ H (Nat.le_of_lt hi) p, by simp [hi]⟩) (fun σ H p => ⟨xs, hl _ σ H (Nat.le_refl _) p, Nat.le_refl _⟩) (fun i v σ H H' p hi y => by obtain ⟨rfl, y⟩ := y; exact hs i v σ _ (y xs (hl i σ _ (Nat.le_of_lt hi) p)) p) hd
theorem for_range {lo : Int} {n : Nat} {g : TG} {tb : TS} {D : Ends} {σ : St} {H : Hp} (Pv : Nat → St → Hp → Prop) (h0 : Pv 0 σ H)
    (hs : ∀ i σ H, i < n → Pv i σ H → g (.int (lo + i)) σ H fun σ2 H2 => tb { D with nx := Pv (i + 1), ct := Pv (i + 1), bk := D.nx } σ2 H2) (hd : ∀ σ H, Pv n σ H → D.nx σ H) : Loop (Itr lo n) g tb D σ H := for_turns n Pv h0 (fun i σ H p hi => hi) (fun σ H p => Nat.le_refl _) (fun i v σ H H' p hi y => by obtain ⟨rfl, rfl⟩ := y; exact hs i σ _ hi p) hd
end L2

namespace L2
open PySem PySem.Spec PyProof.Rows

abbrev R2 := V → V → Hp → VK → Prop
/-- a two-place operation on values: f is binaryOp op, inplaceOp op or compareOp op -/
def OpR (X : Cx) (f : Value → Value → Sem Value) (r : R2) : Prop :=
  ∀ (pins : List (Addr × Obj)) (s : Shared) (σ : St) (H : Hp) (x y : V) (v u : Value) (Q : VK), Inv X pins σ H s → RelV x v → RelV y u → r x y H Q →
    wpAny (model X.prog X.w) X.A (f v u) (EP X pins σ Q) X.xe s
/-- a one-place operation -/
def UnR (X : Cx) (f : Value → Sem Value) (r : V → Hp → VK → Prop) : Prop :=
  ∀ (pins : List (Addr × Obj)) (s : Shared) (σ : St) (H : Hp) (x : V) (v : Value) (Q : VK), Inv X pins σ H s → RelV x v → r x H Q →
    wpAny (model X.prog X.w) X.A (f v) (EP X pins σ Q) X.xe s
/-- a call of a value that is known (a builtin, a type) with values -/
def CallR (X : Cx) (f : Value) (r : List V → Hp → VK → Prop) : Prop :=
  ∀ (pins : List (Addr × Obj)) (s : Shared) (σ : St) (H : Hp) (xs : List V) (us : List Value) (Q : VK), Inv X pins σ H s → Vals xs us → r xs H Q →
    wpAny (model X.prog X.w) X.A (call f us) (EP X pins σ Q) X.xe s
/-- a value's truth -/
def TruR (X : Cx) (r : V → Hp → (Bool → Hp → Prop) → Prop) : Prop :=
  ∀ (pins : List (Addr × Obj)) (s : Shared) (σ : St) (H : Hp) (x : V) (v : Value) (Q : Bool → Hp → Prop), Inv X pins σ H s → RelV x v → r x H Q →
    wpAny (model X.prog X.w) X.A (truthy v) (TP X pins σ Q) X.xe s

def tOp (r : R2) (ta tb : TE) : TE := fun σ H Q => ta σ H fun x H1 => tb σ H1 fun y H2 => r x y H2 Q
def tUn (r : V → Hp → VK → Prop) (ta : TE) : TE := fun σ H Q => ta σ H fun x H1 => r x H1 Q
/-- ints in, under C, and a value out -/
def rI (C : Int → Int → Prop) (g : Int → Int → V) : R2 := fun x y H Q => ∃ i j, x = .int i ∧ y = .int j ∧ C i j ∧ Q (g i j) H
def rI0 (g : Int → Int → V) : R2 := fun x y H Q => ∃ i j, x = .int i ∧ y = .int j ∧ Q (g i j) H
def rU (g : Int → V) : V → Hp → VK → Prop := fun x H Q => ∃ i, x = .int i ∧ Q (g i) H

section
variable {X : Cx} {a b c : Expr} {ta tb tc : TE} {pos : Pos}

theorem binT (ha : PE X a ta) (hb : PE X b tb) {pins : List (Addr × Obj)} {s : Shared} {σ : St} {H : Hp} {R : V → V → Hp → Prop} (I : Inv X pins σ H s)
    (h : ta σ H fun x H1 => tb σ H1 fun y H2 => R x y H2) {Q : Value → Shared → Prop} {f : Value → Value → Sem Value}
    (hf : ∀ v u s2 x y H2, Inv X pins σ H2 s2 → RelV x v → RelV y u → R x y H2 → wpAny (model X.prog X.w) X.A (f v u) Q X.xe s2) :
    wpAny (model X.prog X.w) X.A (eval a X.env) (fun v s₁ => wpAny (model X.prog X.w) X.A (eval b X.env) (fun u s₂ => wpAny (model X.prog X.w) X.A (f v u) Q X.xe s₂) X.xe s₁) X.xe s := by
  refine thn (ha pins s σ H _ I h) fun v s1 ⟨x, H1, I1, r1, q1⟩ => ?_
  refine thn (hb pins s1 σ H1 _ I1 q1) fun u s2 ⟨y, H2, I2, r2, q2⟩ => ?_
  exact hf v u s2 x y H2 I2 r1 r2 q2

theorem pe_op {op : Operator} {r : R2} (ho : OpR X (binaryOp op) r) (ha : PE X a ta) (hb : PE X b tb) : PE X (.BinOp a op b pos) (tOp r ta tb) := by
  intro pins s σ H Q I h
  exact wpAny_BinOp (binT ha hb I h fun v u s2 x y H2 I2 rx ry q => ho pins s2 σ H2 x y v u Q I2 rx ry q)
theorem pe_un {op : UnaryOp} {r : V → Hp → VK → Prop} (ho : UnR X (unaryOp op) r) (ha : PE X a ta) : PE X (.UnaryOp op a pos) (tUn r ta) := by
  intro pins s σ H Q I h
  exact UnaryOp_ (thn (ha pins s σ H _ I h) fun v s1 ⟨x, H1, I1, r1, q1⟩ => ho pins s1 σ H1 x v Q I1 r1 q1)

/-! ### ints -/
theorem opI {f : Value → Value → Sem Value} {C : Int → Int → Prop} {g : Int → Int → Int}
    (rule : ∀ (i j : Int) (t u : Tok) (s : Shared) (Q : Value → Shared → Prop) (E : Value → Shared → Prop), C i j → Q (.int (g i j) s.toks) { s with toks := s.toks + 1 } → wpAny (model X.prog X.w) X.A (f (.int i t) (.int j u)) Q E s) :
    OpR X f (rI C fun i j => .int (g i j)) := by
  intro pins s σ H x y v u Q I rx ry h
  obtain ⟨i, j, rfl, rfl, hc, q⟩ := h
  obtain ⟨t, rfl⟩ := rx
  obtain ⟨t', rfl⟩ := ry
  exact rule i j t t' s _ _ hc ⟨.int (g i j), H, I.tok _, ⟨_, rfl⟩, q⟩
theorem opI0 {f : Value → Value → Sem Value} {g : Int → Int → Int}
    (rule : ∀ (i j : Int) (t u : Tok) (s : Shared) (Q : Value → Shared → Prop) (E : Value → Shared → Prop), Q (.int (g i j) s.toks) { s with toks := s.toks + 1 } → wpAny (model X.prog X.w) X.A (f (.int i t) (.int j u)) Q E s) :
    OpR X f (rI0 fun i j => .int (g i j)) := by
  intro pins s σ H x y v u Q I rx ry h
  obtain ⟨i, j, rfl, rfl, q⟩ := h
  obtain ⟨t, rfl⟩ := rx
  obtain ⟨t', rfl⟩ := ry
  exact rule i j t t' s _ _ ⟨.int (g i j), H, I.tok _, ⟨_, rfl⟩, q⟩
theorem opB0 {f : Value → Value → Sem Value} {g : Int → Int → Bool}
    (rule : ∀ (i j : Int) (t u : Tok) (s : Shared) (Q : Value → Shared → Prop) (E : Value → Shared → Prop), Q (.bool (g i j)) s → wpAny (model X.prog X.w) X.A (f (.int i t) (.int j u)) Q E s) :
    OpR X f (rI0 fun i j => .bl (g i j)) := by
  intro pins s σ H x y v u Q I rx ry h
  obtain ⟨i, j, rfl, rfl, q⟩ := h
  obtain ⟨t, rfl⟩ := rx
  obtain ⟨t', rfl⟩ := ry
  exact rule i j t t' s _ _ ⟨.bl (g i j), H, I, rfl, q⟩

def CDiv (i j : Int) : Prop := 0 < j ∧ j < 1073741824
def CPow (i j : Int) : Prop := 0 ≤ j ∧ j ≤ 1000000 ∧ i.natAbs < 2 ^ 64
def CMul (i j : Int) : Prop := (-(2 ^ 64) < i ∧ i < 2 ^ 64) ∨ (-(2 ^ 64) < j ∧ j < 2 ^ 64)
theorem CMul.ok {i j : Int} (h : CMul i j) : IntMulOk i j := by
  rcases h with ⟨h1, h2⟩ | ⟨h1, h2⟩
  · exact .of_left (intBits_le_64 h1 h2)
  · exact .of_right (intBits_le_64 h1 h2)

theorem op_add : OpR X (binaryOp .Add) (rI0 fun i j => .int (i + j)) := opI0 fun _ _ _ _ _ _ _ q => add_int q
theorem op_sub : OpR X (binaryOp .Sub) (rI0 fun i j => .int (i - j)) := opI0 fun _ _ _ _ _ _ _ q => sub_int q
theorem op_mul : OpR X (binaryOp .Mult) (rI CMul fun i j => .int (i * j)) := opI fun _ _ _ _ _ _ _ hc q => mul_int q hc.ok
/-- // by a positive divisor -/
theorem op_fdiv : OpR X (binaryOp .FloorDiv) (rI CDiv fun i j => .int (i / j)) := opI fun i j _ _ _ _ _ hc q => by
  have h1 : (0 : Int) < j := hc.1
  have h2 : j < 1073741824 := hc.2
  exact floordiv_int (by omega) (by rw [Int.fdiv_eq_ediv_of_nonneg i (by omega)]; exact q) (.inl (PyProof.noPylong_small (by omega)))
/-- % by a positive divisor of any size -/
theorem op_mod : OpR X (binaryOp .Mod) (rI (fun _ j => 0 < j) fun i j => .int (i % j)) := opI fun i j _ _ _ _ _ hc q => by
  have h1 : (0 : Int) < j := hc
  exact mod_int' (by omega) (by rw [Int.fmod_eq_emod_of_nonneg i (by omega)]; exact q)
theorem op_pow : OpR X (binaryOp .Pow) (rI CPow fun i j => .int (i ^ j.toNat)) := opI fun _ _ _ _ _ _ _ hc q => pow_int_small hc.1 hc.2.1 hc.2.2 q


theorem unI {f : Value → Sem Value} {g : Int → Int}
    (rule : ∀ (i : Int) (t : Tok) (s : Shared) (Q : Value → Shared → Prop) (E : Value → Shared → Prop), Q (.int (g i) s.toks) { s with toks := s.toks + 1 } → wpAny (model X.prog X.w) X.A (f (.int i t)) Q E s) :
    UnR X f (rU fun i => .int (g i)) := by
  intro pins s σ H x v Q I rx h
  obtain ⟨i, rfl, q⟩ := h
  obtain ⟨t, rfl⟩ := rx
  exact rule i t s _ _ ⟨.int (g i), H, I.tok _, ⟨_, rfl⟩, q⟩
theorem un_neg : UnR X (unaryOp .USub) (rU fun i => .int (-i)) := unI fun _ _ _ _ _ q => neg_int q

/-! ### bools among ints: n += (a < b) -/
end

/-! ### comparisons -/
/-- the scalars that == tells apart as data does -/
def scal : V → V → Bool
  | .non, .non => true | .non, .int _ => true | .int _, .non => true | .non, .bl _ => true | .bl _, .non => true | .non, .str _ => true | .str _, .non => true
  | .int _, .int _ => true | .bl _, .bl _ => true | .str _, .str _ => true | .byt _, .byt _ => true
  | .int _, .str _ => true | .str _, .int _ => true | .bl _, .str _ => true | .str _, .bl _ => true
  | _, _ => false
def rEq : R2 := fun x y H Q => scal x y = true ∧ Q (.bl (decide (x = y))) H
def rNe : R2 := fun x y H Q => scal x y = true ∧ Q (.bl (!decide (x = y))) H

theorem dec_int {i j : Int} : decide (V.int i = V.int j) = (i == j) := by
  rw [Bool.eq_iff_iff]
  simp
theorem dec_bl {i j : Bool} : decide (V.bl i = V.bl j) = (i == j) := by
  rw [Bool.eq_iff_iff]
  simp
theorem dec_str {i j : Str} : decide (V.str i = V.str j) = (i == j) := by
  rw [Bool.eq_iff_iff]
  simp
theorem dec_byt {i j : Array UInt8} : decide (V.byt i = V.byt j) = (i.toList == j.toList) := by
  rw [Bool.eq_iff_iff]
  cases i
  cases j
  simp

section
variable {X : Cx} {a b c : Expr} {ta tb tc : TE} {pos : Pos}
theorem fin_bl {pins : List (Addr × Obj)} {σ : St} {H : Hp} {s : Shared} {Q : VK} {k k' : Bool} (I : Inv X pins σ H s) (q : Q (.bl k) H) (e : k = k') : EP X pins σ Q (.bool k') s := by
  subst e
  exact ⟨.bl k, H, I, rfl, q⟩
theorem op_eq : OpR X (compareOp .Eq) rEq := by
  intro pins s σ H x y v u Q I rx ry h
  obtain ⟨hs, q⟩ := h
  cases x with
  | non =>
    cases rx
    cases y with
    | non => cases ry; exact PySem.EqNone.eq_none_none (fin_bl I q (by simp))
    | bl j => cases ry; exact PySem.EqNone.eq_none_bool (fin_bl I q (by simp))
    | int j => obtain ⟨t', rfl⟩ := ry; exact PySem.EqNone.eq_none_int (fin_bl I q (by simp))
    | str j => obtain ⟨t', rfl⟩ := ry; exact PySem.EqNone.eq_none_str (fin_bl I q (by simp))
    | _ => exact absurd (show false = true from hs) Bool.false_ne_true
  | bl i =>
    cases rx
    cases y with
    | non => cases ry; exact PySem.EqNone.eq_bool_none (fin_bl I q (by simp))
    | bl j => cases ry; exact eq_bool (fin_bl I q dec_bl)
    | str j => obtain ⟨t', rfl⟩ := ry; exact PySem.EqMixed.eq_bool_str (fin_bl I q (by simp))
    | _ => exact absurd (show false = true from hs) Bool.false_ne_true
  | int i =>
    obtain ⟨t, rfl⟩ := rx
    cases y with
    | non => cases ry; exact PySem.EqNone.eq_int_none (fin_bl I q (by simp))
    | int j => obtain ⟨t', rfl⟩ := ry; exact eq_int (fin_bl I q dec_int)
    | str j => obtain ⟨t', rfl⟩ := ry; exact PySem.EqMixed.eq_int_str (fin_bl I q (by simp))
    | _ => exact absurd (show false = true from hs) Bool.false_ne_true
  | str i =>
    obtain ⟨t, rfl⟩ := rx
    cases y with
    | non => cases ry; exact PySem.EqNone.eq_str_none (fin_bl I q (by simp))
    | bl j => cases ry; exact PySem.EqMixed.eq_str_bool (fin_bl I q (by simp))
    | int j => obtain ⟨t', rfl⟩ := ry; exact PySem.EqMixed.eq_str_int (fin_bl I q (by simp))
    | str j => obtain ⟨t', rfl⟩ := ry; exact eq_str (fin_bl I q dec_str)
    | _ => exact absurd (show false = true from hs) Bool.false_ne_true
  | byt i =>
    obtain ⟨t, rfl⟩ := rx
    cases y with
    | byt j => obtain ⟨t', rfl⟩ := ry; exact PySem.W.eq_bytes (fin_bl I q dec_byt)
    | _ => exact absurd (show false = true from hs) Bool.false_ne_true
  | _ => cases y <;> exact absurd (show false = true from hs) Bool.false_ne_true
theorem op_ne : OpR X (compareOp .NotEq) rNe := by
  intro pins s σ H x y v u Q I rx ry h
  obtain ⟨hs, q⟩ := h
  cases x with
  | non =>
    cases rx
    cases y with
    | non => cases ry; exact PySem.EqNone.ne_none_none (fin_bl I q (by simp))
    | bl j => cases ry; exact PySem.EqNone.ne_none_bool (fin_bl I q (by simp))
    | int j => obtain ⟨t', rfl⟩ := ry; exact PySem.EqNone.ne_none_int (fin_bl I q (by simp))
    | str j => obtain ⟨t', rfl⟩ := ry; exact PySem.EqNone.ne_none_str (fin_bl I q (by simp))
    | _ => exact absurd (show false = true from hs) Bool.false_ne_true
  | bl i =>
    cases rx
    cases y with
    | non => cases ry; exact PySem.EqNone.ne_bool_none (fin_bl I q (by simp))
    | bl j => cases ry; exact ne_bool (fin_bl I q (congrArg not dec_bl))
    | str j => obtain ⟨t', rfl⟩ := ry; exact PySem.EqMixed.ne_bool_str (fin_bl I q (by simp))
    | _ => exact absurd (show false = true from hs) Bool.false_ne_true
  | int i =>
    obtain ⟨t, rfl⟩ := rx
    cases y with
    | non => cases ry; exact PySem.EqNone.ne_int_none (fin_bl I q (by simp))
    | int j => obtain ⟨t', rfl⟩ := ry; exact ne_int (fin_bl I q (congrArg not dec_int))
    | str j => obtain ⟨t', rfl⟩ := ry; exact PySem.EqMixed.ne_int_str (fin_bl I q (by simp))
    | _ => exact absurd (show false = true from hs) Bool.false_ne_true
  | str i =>
    obtain ⟨t, rfl⟩ := rx
    cases y with
    | non => cases ry; exact PySem.EqNone.ne_str_none (fin_bl I q (by simp))
    | bl j => cases ry; exact PySem.EqMixed.ne_str_bool (fin_bl I q (by simp))
    | int j => obtain ⟨t', rfl⟩ := ry; exact PySem.EqMixed.ne_str_int (fin_bl I q (by simp))
    | str j => obtain ⟨t', rfl⟩ := ry; exact ne_str (fin_bl I q (congrArg not dec_str))
    | _ => exact absurd (show false = true from hs) Bool.false_ne_true
  | byt i =>
    obtain ⟨t, rfl⟩ := rx
    cases y with
    | byt j => obtain ⟨t', rfl⟩ := ry; exact PySem.W.ne_bytes (fin_bl I q (congrArg not dec_byt))
    | _ => exact absurd (show false = true from hs) Bool.false_ne_true
  | _ => cases y <;> exact absurd (show false = true from hs) Bool.false_ne_true

theorem op_lt : OpR X (compareOp .Lt) (rI0 fun i j => .bl (decide (i < j))) := opB0 fun _ _ _ _ _ _ _ q => lt_int q
theorem op_le : OpR X (compareOp .LtE) (rI0 fun i j => .bl (decide (i ≤ j))) := opB0 fun _ _ _ _ _ _ _ q => le_int q
theorem op_gt : OpR X (compareOp .Gt) (rI0 fun i j => .bl (decide (j < i))) := opB0 fun _ _ _ _ _ _ _ q => gt_int q




theorem nomark (b : Expr) {op : CmpOp} (h : op ≠ .In := by decide) (h2 : op ≠ .NotIn := by decide) : behindInMarks op b = false := by
  have e1 : (op == CmpOp.In) = false := by cases op <;> first | rfl | exact absurd rfl h
  have e2 : (op == CmpOp.NotIn) = false := by cases op <;> first | rfl | exact absurd rfl h2
  cases b <;> simp [behindInMarks, e1, e2]
/-- a comparison as a value; hm: nomark b, or (for in, not in) by with_unfolding_all rfl -/
theorem pe_cmpR {op : CmpOp} {r : R2} (ho : OpR X (compareOp op) r) (ha : PE X a ta) (hb : PE X b tb) (hm : behindInMarks op b = false) : PE X (.Compare a [op] [b] pos) (tOp r ta tb) := by
  intro pins s σ H Q I h
  exact wpAny_Compare1 (binT ha hb I h fun v u s2 x y H2 I2 rx ry q => ho pins s2 σ H2 x y v u Q I2 rx ry q) hm
/-- a reading of a value as a test -/
def tTest (t : TE) : TT := fun σ H Q => t σ H fun x H' => ∃ k, x = .bl k ∧ Q k H'
theorem pt_cmpR {op : CmpOp} {r : R2} (ho : OpR X (compareOp op) r) (ha : PE X a ta) (hb : PE X b tb) (hm : behindInMarks op b = false) : PT X (.Compare a [op] [b] pos) (tTest (tOp r ta tb)) := by
  intro pins s σ H Q I h
  refine wpAny_isTrue_Compare1 (thn (ha pins s σ H _ I h) fun v s1 ⟨x, H1, I1, r1, q1⟩ => thn (hb pins s1 σ H1 _ I1 q1) fun u s2 ⟨y, H2, I2, r2, q2⟩ =>
    thn (ho pins s2 σ H2 x y v u _ I2 r1 r2 q2) fun c s3 ⟨z, H3, I3, r3, k, e, q3⟩ => ?_) hm
  subst e
  cases r3
  exact wpAny_truthy_bool ⟨H3, I3, q3⟩
/-- a op1 b op2 c -/
def tChain (r r' : R2) (ta tb tc : TE) : TE := fun σ H Q => ta σ H fun x H1 => tb σ H1 fun y H2 => r x y H2 fun z H3 => ∃ k, z = .bl k ∧
  (if k = true then tc σ H3 fun w' H4 => r' y w' H4 Q else Q (.bl false) H3)
theorem pe_chain {op op' : CmpOp} {r r' : R2} (ho : OpR X (compareOp op) r) (ho' : OpR X (compareOp op') r') (ha : PE X a ta) (hb : PE X b tb) (hc : PE X c tc)
    (hm : lastMarks [op, op'] [b, c] = false := by with_unfolding_all rfl) : PE X (.Compare a [op, op'] [b, c] pos) (tChain r r' ta tb tc) := by
  intro pins s σ H Q I h
  refine Compare_chain (thn (ha pins s σ H _ I h) fun v s1 ⟨x, H1, I1, r1, q1⟩ => chain_link (thn (hb pins s1 σ H1 _ I1 q1) fun u s2 ⟨y, H2, I2, r2, q2⟩ =>
    thn (ho pins s2 σ H2 x y v u _ I2 r1 r2 q2) fun d s3 ⟨z, H3, I3, r3, k, e, q3⟩ => ?_)) hm
  subst e
  cases r3
  refine wpAny_truthy_bool ?_
  cases k with
  | false => exact ite_ff ⟨.bl false, H3, I3, rfl, q3⟩
  | true => exact ite_tt (chain_last (thn (hc pins s3 σ H3 _ I3 q3) fun w' s4 ⟨z', H4, I4, r4, q4⟩ => ho' pins s4 σ H4 y z' u w' Q I4 r2 r4 q4))
theorem pt_chain {op op' : CmpOp} {r r' : R2} (ho : OpR X (compareOp op) r) (ho' : OpR X (compareOp op') r') (ha : PE X a ta) (hb : PE X b tb) (hc : PE X c tc)
    (hm : lastMarks [op, op'] [b, c] = false := by with_unfolding_all rfl) : PT X (.Compare a [op, op'] [b, c] pos) (tTest (tChain r r' ta tb tc)) := by
  intro pins s σ H Q I h
  refine isTrue_chain (thn (ha pins s σ H _ I h) fun v s1 ⟨x, H1, I1, r1, q1⟩ => test_link (thn (hb pins s1 σ H1 _ I1 q1) fun u s2 ⟨y, H2, I2, r2, q2⟩ =>
    thn (ho pins s2 σ H2 x y v u _ I2 r1 r2 q2) fun d s3 ⟨z, H3, I3, r3, k, e, q3⟩ => ?_)) hm
  subst e
  cases r3
  refine wpAny_truthy_bool ?_
  cases k with
  | false =>
    obtain ⟨k', e', q'⟩ := q3
    cases e'
    exact ite_ff ⟨H3, I3, q'⟩
  | true =>
    refine ite_tt (test_last (thn (hc pins s3 σ H3 _ I3 q3) fun w' s4 ⟨z', H4, I4, r4, q4⟩ => thn (ho' pins s4 σ H4 y z' u w' _ I4 r2 r4 q4) fun d' s5 ⟨z2, H5, I5, r5, k2, e2, q5⟩ => ?_))
    subst e2
    cases r5
    exact wpAny_truthy_bool ⟨H5, I5, q5⟩

/-! ### truth -/
/-- a value's truth by the abstract heap -/
def TruV (K : PySem.W.Frag) (x : V) (H : Hp) (k : Bool) : Prop :=
  match x with
  | .non => k = false
  | .bl b => k = b
  | .int i => k = (i != 0)
  | .str y => y.length ≤ sizeLine ∧ k = ((y.length : Int) != 0)
  | .byt y => y.size ≤ sizeLine ∧ k = ((y.size : Int) != 0)
  | .ref p => (∃ xs, SqL K H p xs ∧ k = !xs.isEmpty) ∨ (∃ xs, SqT K H p xs ∧ k = !xs.isEmpty) ∨ ∃ kvs, H p = some (.dK kvs) ∧ k = !kvs.isEmpty
  | _ => False
theorem isEmpty_kv {κ : Type} {kvs : List (κ × V)} {vs : List (κ × Value)} (r : KV kvs vs) : (!vs.isEmpty) = !kvs.isEmpty := by
  cases r <;> rfl
theorem isEmpty_of {xs : List V} {its : List Value} (r : Vals xs its) : (!its.toArray.isEmpty) = !xs.isEmpty := by
  cases r <;> simp
theorem line63 : (sizeLine : Nat) < 2 ^ 63 := by rw [sizeLine_eq]; decide
theorem tru_ok : TruR X (fun x H Q => ∃ k, TruV X.K x H k ∧ Q k H) := by
  intro pins s σ H x v Q I rx h
  obtain ⟨k, e, q⟩ := h
  have hl := line63
  have hs : sizeLine = 16777216 := sizeLine_eq
  cases x with
  | non =>
    cases rx
    have e' : k = false := e
    subst e'
    exact truthy_none ⟨H, I, q⟩
  | bl b =>
    cases rx
    have e' : k = b := e
    subst e'
    exact wpAny_truthy_bool ⟨H, I, q⟩
  | int i =>
    obtain ⟨t, rfl⟩ := rx
    have e' : k = (i != 0) := e
    subst e'
    exact PySem.P.truthy_int ⟨H, I, q⟩
  | str y =>
    obtain ⟨t, rfl⟩ := rx
    obtain ⟨hy, e'⟩ : y.length ≤ sizeLine ∧ k = ((y.length : Int) != 0) := e
    subst e'
    exact PySem.P.truthy_str (by omega) ⟨H, I.tok _, q⟩
  | byt y =>
    obtain ⟨t, rfl⟩ := rx
    obtain ⟨hy, e'⟩ : y.size ≤ sizeLine ∧ k = ((y.size : Int) != 0) := e
    subst e'
    exact PySem.W.truthy_bytes (by omega) ⟨H, I.tok _, q⟩
  | ref p =>
    cases rx
    have e' : (∃ xs, SqL X.K H p xs ∧ k = !xs.isEmpty) ∨ (∃ xs, SqT X.K H p xs ∧ k = !xs.isEmpty) ∨ ∃ kvs, H p = some (.dK kvs) ∧ k = !kvs.isEmpty := e
    rcases e' with ⟨xs, hx, e'⟩ | ⟨xs, hx, e'⟩ | ⟨kvs, hx, e'⟩
    · subst e'
      obtain ⟨its, r, pl, hz⟩ := I.list hx
      have hlen := r.length
      exact wpAny_truthy_list pl.isList (by simp only [List.size_toArray]; omega) ⟨H, I.tok _, by rw [isEmpty_of r]; exact q⟩
    · subst e'
      obtain ⟨its, r, pl, hz⟩ := I.tuple hx
      have hlen := r.length
      exact truthy_tuple pl (by simp only [List.size_toArray]; omega) ⟨H, I.tok _, by rw [isEmpty_of r]; exact q⟩
    · subst e'
      obtain ⟨hz, hS, vs, r, m⟩ : kvs.length ≤ sizeLine ∧ (p == sysModules) = false ∧ ∃ vs, KV kvs vs ∧ s.heap.DictOf (mixKind X.prog X.w) p vs := I.hok p _ hx
      have hlen : kvs.length = vs.length := Paired.length r
      exact wpAny_truthy_dict hS m (by omega) ⟨H, I.tok _, by rw [isEmpty_kv r]; exact q⟩
  | _ => exact (show False from e).elim

/-! ### strs and bytes -/


/-! ### scalar builtins, by CallR -/
theorem vals1 {x : V} {us : List Value} (r : Vals [x] us) : ∃ u, us = [u] ∧ RelV x u := by
  cases r with
  | cons r1 r2 => cases r2; exact ⟨_, rfl, r1⟩
theorem vals2 {x y : V} {us : List Value} (r : Vals [x, y] us) : ∃ u w', us = [u, w'] ∧ RelV x u ∧ RelV y w' := by
  cases r with
  | cons r1 r2 =>
    cases r2 with
    | cons r3 r4 => cases r4; exact ⟨_, _, rfl, r1, r3⟩
/-- len of a str, a bytes, a list, a tuple -/
def LenV (K : PySem.W.Frag) (x : V) (H : Hp) (n : Nat) : Prop :=
  match x with
  | .str y => y.length ≤ sizeLine ∧ n = y.length
  | .byt y => y.size ≤ sizeLine ∧ n = y.size
  | .ref p => (∃ xs, SqL K H p xs ∧ n = xs.length) ∨ ∃ xs, SqT K H p xs ∧ n = xs.length
  | _ => False
theorem call_len : CallR X (.builtin "len") (fun xs H Q => ∃ x n, xs = [x] ∧ LenV X.K x H n ∧ Q (.int n) H) := by
  intro pins s σ H xs us Q I r h
  obtain ⟨x, n, rfl, e, q⟩ := h
  obtain ⟨u, rfl, rx⟩ := vals1 r
  have hl := line63
  have hs : sizeLine = 16777216 := sizeLine_eq
  cases x with
  | str y =>
    obtain ⟨t, rfl⟩ := rx
    obtain ⟨hy, e'⟩ : y.length ≤ sizeLine ∧ n = y.length := e
    subst e'
    exact len_str (by omega) ⟨.int _, H, I.tok _, ⟨_, rfl⟩, q⟩
  | byt y =>
    obtain ⟨t, rfl⟩ := rx
    obtain ⟨hy, e'⟩ : y.size ≤ sizeLine ∧ n = y.size := e
    subst e'
    exact PySem.W.len_bytes (by omega) ⟨.int _, H, I.tok _, ⟨_, rfl⟩, q⟩
  | ref p =>
    cases rx
    have e' : (∃ xs, SqL X.K H p xs ∧ n = xs.length) ∨ ∃ xs, SqT X.K H p xs ∧ n = xs.length := e
    rcases e' with ⟨xs, hx, e'⟩ | ⟨xs, hx, e'⟩
    · subst e'
      obtain ⟨its, r', pl, hz⟩ := I.list hx
      have hlen := r'.length
      exact Calls.call_len_list pl.isList (by simp only [List.size_toArray]; omega) ⟨.int xs.length, H, I.tok _, ⟨_, by simp only [List.size_toArray]; rw [hlen]⟩, q⟩
    · subst e'
      obtain ⟨its, r', pl, hz⟩ := I.tuple hx
      have hlen := r'.length
      exact len_tuple pl (by simp only [List.size_toArray]; omega) ⟨.int xs.length, H, I.tok _, ⟨_, by simp only [List.size_toArray]; rw [hlen]⟩, q⟩
  | _ => exact (show False from e).elim
end
end L2

namespace L2
open PySem PySem.Spec PyProof.Rows

/-! ### an instance, its attributes a map -/



section
variable {prog : Program} {w : World} {A : Around} {E : Value → Shared → Prop} {s : Shared} {K : PySem.W.Frag} {x dx C f : Addr} {mA : Str → Option Value} {name : Str} {v : Value}





end

/-! ### the attributes as a list of pairs -/


section
variable {P : Program} {w : World} {H H' : Hp} {h h' : Heap} {a C dx : Addr} {fs fs' : List (Str × V)}
end

/-! ### what of the text a class must have -/

section
variable {X : Cx} {pins : List (Addr × Obj)} {σ : St} {H : Hp} {s : Shared} {a C dx : Addr} {fs : List (Str × V)} {f : Str} {v : V} {A : Around} {E : Value → Shared → Prop}






end

/-! ### readings and rules -/

section
variable {X : Cx} {o e value : Expr} {f : Str} {pos pos' tpos : Pos} {ta tv : TE}

end

/-! ### isinstance -/
section
variable {X : Cx} {pins : List (Addr × Obj)} {σ : St} {H : Hp} {s : Shared} {A : Around} {E : Value → Shared → Prop} {Q : Value → Shared → Prop} {c : Value} {b : Bool}
end
end L2

namespace L2
open PySem PySem.Spec PyProof.Rows

/-! ### room -/
structure Room (k : Nat) (A : Around) : Prop where
  hd : A.handled = none
  dp : A.depth + 3 * k + 5 < recursionLimit
  un : A.units + 16 * k + 200 < cLine
  gd : A.guards = some []
theorem Room.mono {j k : Nat} {A : Around} (r : Room k A) (h : j ≤ k) : Room j A := ⟨r.hd, by have := r.dp; omega, by have := r.un; omega, r.gd⟩
theorem Room.deeper {k : Nat} {A : Around} (r : Room (k + 1) A) (env : Env) : Room k (A.deeper env) :=
  ⟨r.hd, by have := r.dp; show A.depth + 1 + 3 * k + 5 < _; omega, by have := r.un; show A.units + 3 + 16 * k + 200 < _; omega, by first | exact r.gd | (simpa [Around.deeper] using r.gd)⟩
theorem Room.depth {k : Nat} {A : Around} (r : Room k A) : A.depth < recursionLimit := by have := r.dp; omega
theorem Room.units {k : Nat} {A : Around} (r : Room k A) : A.units + 64 < cLine := by have := r.un; omega

/-! ### argument lists and displays -/
def tNil : TA := fun _ H Q => Q [] H
def tCons (ta : TE) (tr : TA) : TA := fun σ H Q => ta σ H fun x H1 => tr σ H1 fun xs H2 => Q (x :: xs) H2
section
variable {X : Cx} {e : Expr} {es : List Expr} {te : TE} {t : TA} {pos : Pos}
theorem pa_nil : PA X [] tNil := fun _ _ _ _ H Q I h => Calls.spliced_nil ⟨[], H, I, .nil, h⟩
theorem pa_cons (ha : PE X e te) (hr : PA X es t) (hs : starEach (e :: es) X.env = (false, eval e X.env) :: starEach es X.env := by rfl) : PA X (e :: es) (tCons te t) := by
  intro pos pins s σ H Q I h
  rw [hs]
  show wpAny _ _ (spliced ((false, eval e X.env) :: backTo pos (starEach es X.env))) _ _ s
  refine Calls.spliced_cons (thn (ha pins s σ H _ I h) fun u s1 ⟨x, H1, I1, r1, q1⟩ => ?_)
  exact thn (hr pos pins s1 σ H1 _ I1 q1) fun us s2 ⟨xs, H2, I2, r2, q2⟩ => ⟨x :: xs, H2, I2, .cons r1 r2, q2⟩

/-- a tuple, a list of written items -/
def tTup (t : TA) : TE := fun σ H Q => t σ H fun xs H1 => xs.length ≤ sizeLine ∧ ∀ p, H1 p = none → Q (.ref p) (upd H1 p (.tup xs))
def tLst (t : TA) : TE := fun σ H Q => t σ H fun xs H1 => xs.length ≤ sizeLine ∧ ∀ p, H1 p = none → Q (.ref p) (upd H1 p (.lst xs))
theorem pe_tup {x1} (h : PA X es t) : PE X (.Tuple es x1 pos) (tTup t) := by
  intro pins s σ H Q I hq
  refine wpAny_Tuple_spliced (thn (h pos pins s σ H _ I hq) fun us s1 ⟨xs, H1, I1, r, z, q⟩ => ⟨by rw [← r.length]; exact z, ?_⟩)
  have hf : H1 s1.heap.objs.size = none := I1.hok.fresh (Nat.le_refl _)
  refine ⟨.ref s1.heap.objs.size, upd H1 s1.heap.objs.size (.tup xs), I1.laid (t' := s1.toks) (fun b u e => Heap.get?_push_of_some _ e) (Nat.le_refl _) ?_, rfl, q _ hf⟩
  exact ⟨z, us, r, ⟨_, Heap.get?_push_size _ rfl, rfl, _, rfl⟩⟩
theorem pe_lst (h : PA X es t) : PE X (.List es pos) (tLst t) := by
  intro pins s σ H Q I hq
  refine wpAny_List_spliced (thn (h pos pins s σ H _ I hq) fun us s1 ⟨xs, H1, I1, r, z, q⟩ => ⟨by rw [← r.length]; exact z, ?_⟩)
  have hf : H1 s1.heap.objs.size = none := I1.hok.fresh (Nat.le_refl _)
  refine ⟨.ref s1.heap.objs.size, upd H1 s1.heap.objs.size (.lst xs), I1.laid (t' := s1.toks) (fun b u e => Heap.get?_push_of_some _ e) (Nat.le_refl _) ?_, rfl, q _ hf⟩
  exact ⟨z, us, 0, r, Heap.get?_push_size _ rfl⟩
end

/-! ### what a def promises -/
/-- a def's promise: the bound arguments in the parameters' order, the heap, the wanted end, the wanted exception -/
abbrev Sp := List V → Hp → VK → XK → Prop
/-- how an exception lies behind a call (file 08 gives it): the callers' frames, abstract heap and state ahead of the call, the wish, the exception, the state -/
abbrev CXT := List Env → Hp → Shared → XK → Value → Shared → Prop

/-- the state at a call -/
structure Env0 (P : Program) (w : World) (K : PySem.W.Frag) (mg : Str → Option Value) (base : Heap) (A : Around) (outer : List Env) (s : Shared) (H : Hp) : Prop where
  frames : A.frames = some outer
  mod : Mod K mg base
  bs : ∀ b o, base.get? b = some o → s.heap.get? b = some o ∧ H b = none
  bsz : base.objs.size ≤ s.heap.objs.size
  funs : s.heap.FunFrames base outer
  frf : ∀ b ∈ frs outer, H b = none
  hok : HOk P w H s.heap
  bare : AllBare s.gens
/-- a call's end -/
def CE (outer : List Env) (P : Program) (w : World) (H : Hp) (s : Shared) (Q : VK) (u : Value) (s' : Shared) : Prop :=
  ∃ v H', s'.os = s.os ∧ AllBare s'.gens ∧ Un (frs outer) [] H H' s.heap s'.heap ∧ HOk P w H' s'.heap ∧ RelV v u ∧ Q v H'
def CR (CX : CXT) (outer : List Env) (P : Program) (w : World) (H : Hp) (s : Shared) (Q : VK) (E : XK) (r : Result) (s' : Shared) : Prop :=
  match r with
  | .ok (.ret u) => CE outer P w H s Q u s'
  | .ok _ => False
  | .error e => CX outer H s E e s'
structure FnOk (P : Program) (w : World) (K : PySem.W.Frag) (mg : Str → Option Value) (base : Heap) (CX : CXT) (k : Nat) (f : Addr) (fd : FuncData) (ps : List Str) (sp : Sp) : Prop where
  len : ∀ vs H Q E, sp vs H Q E → vs.length = ps.length
  run : ∀ (A : Around) (outer : List Env) (s : Shared) (H : Hp) (args : Args) (us : List Value) (vs : List V) (Q : VK) (E : XK), Room k A → Env0 P w K mg base A outer s H → BindsTo s fd args (ps.zip us) → Vals vs us → sp vs H Q E →
    codeAny (model P w) A (.call (.ref f) args) (CR CX outer P w H s Q E) s


section
variable {X : Cx} {pins : List (Addr × Obj)} {σ : St} {H : Hp} {s s' : Shared}
/-- from a body: what a callee wants -/
theorem Inv.env0 (I : Inv X pins σ H s) : Env0 X.prog X.w X.K X.mg X.base X.A X.stack s H :=
  ⟨I.ok.frames, I.ok.mod, I.bs, Nat.le_trans I.ok.bsz I.sz, I.stack, I.stkFree, I.hok, I.bare⟩
/-- behind a call -/
theorem Inv.after {Q : VK} {u : Value} (I : Inv X pins σ H s) (h : CE X.stack X.prog X.w H s Q u s') : EP X pins σ Q u s' := by
  obtain ⟨v, H', os, bare, un, hok, r, q⟩ := h
  obtain ⟨hh, g, d, t, os'⟩ := s'
  obtain rfl : os' = s.os := os
  exact ⟨v, H', I.call (h' := hh) (g' := g) (d' := d) (t' := t) (ch := []) un hok bare (fun b z => absurd z (by simp)), r, q⟩
end

/-! ### calls -/
/-- f(..): the written arguments, then the defaults dvs; E: what is wanted of an exception -/
def tCall (sp : Sp) (dvs : List V) (E : XK) (t : TA) : TE := fun σ H Q => t σ H fun vs H1 => sp (vs ++ dvs) H1 Q E

/-- how the parameters are bound: us the positional arguments, kw the keywords' values by name, ds the defaults that fill up -/
def Binds (K : PySem.W.Frag) (fd : FuncData) (ps : List Str) (ds : List Value) : Prop :=
  ∀ (s : Shared) (us : List Value), K.In s.heap → (us ++ ds).length = ps.length → BindsTo s fd ⟨us, []⟩ (ps.zip (us ++ ds))
/-- every parameter is given -/
theorem Binds.all {K : PySem.W.Frag} {fd : FuncData} {ps : List Str} (h : ∀ us : List Value, us.length = ps.length → bindArgs fd ⟨us, []⟩ = pure (ps.zip us)) : Binds K fd ps [] := fun s us _ hl => by
  rw [List.append_nil] at hl ⊢
  exact .of_eq (h us hl)

/-- an exception of a callee reaches what this body wants of exceptions -/
def Passes (CX : CXT) (X : Cx) (E : XK) : Prop := ∀ (pins : List (Addr × Obj)) (σ : St) (H : Hp) (s : Shared) (e : Value) (s' : Shared), Inv X pins σ H s → CX X.stack H s E e s' → X.xe e s'

section
variable {X : Cx} {CX : CXT} {k : Nat} {f C : Addr} {fd : FuncData} {ps : List Str} {sp : Sp} {dvs : List V} {ds : List Value} {E : XK} {x m : Str} {p pos apos : Pos} {e o : Expr} {es : List Expr} {ta : TE} {t : TA}

/-- the callee runs -/
theorem run_fn {pins : List (Addr × Obj)} {σ : St} {H : Hp} {s : Shared} {Q : VK} {us : List Value} {vs : List V} (F : FnOk X.prog X.w X.K X.mg X.base CX k f fd ps sp) (hr : Room k X.A) (hb : Binds X.K fd ps ds) (hd : Vals dvs ds) (hx : Passes CX X E)
    (I : Inv X pins σ H s) (r : Vals vs us) (h : sp (vs ++ dvs) H Q E) : wpAny (model X.prog X.w) X.A (call (.ref f) us) (EP X pins σ Q) X.xe s := by
  have r2 : Vals (vs ++ dvs) (us ++ ds) := r.append hd
  have hl : (us ++ ds).length = ps.length := by rw [← r2.length]; exact F.len _ _ _ _ h
  refine wpAny_call (codeAny_mono (F.run X.A X.stack s H ⟨us, []⟩ (us ++ ds) (vs ++ dvs) Q E hr I.env0 (hb s us I.kIn hl) r2 h) fun r s' hq => ?_)
  cases r with
  | error e => exact hx pins σ H s e s' I hq
  | ok fl =>
    cases fl with
    | ret u => exact I.after hq
    | next => exact False.elim hq
    | brk => exact False.elim hq
    | cont => exact False.elim hq

theorem pe_call (F : FnOk X.prog X.w X.K X.mg X.base CX k f fd ps sp) (hr : Room k X.A) (hg : Gl X x) (hm : X.mg x = some (.ref f)) (hk : PySem.W.keepIn X.K (.ref f) = true) (hb : Binds X.K fd ps ds) (hd : Vals dvs ds) (hx : Passes CX X E)
    (ha : PA X (e :: es) t) (hdb : (x == ("__debug__" : Str)) = false := by decide) (he : starEach (e :: es) X.env = (false, eval e X.env) :: starEach es X.env := by rfl) (hpl : (backTo pos (starEach es X.env)).any (·.1) = false := by rfl) :
    PE X (.Call (.Name x p) (e :: es) [] pos) (tCall sp dvs E t) := by
  intro pins s σ H Q I h
  refine wpAny_Call_Name_kw (ld_glob I hg hm ?_ hdb)
  refine PySem.W.callWith_K (h₀ := X.base) I.ok.mod.kin hk (thn (ha pos pins s σ H _ I h) fun us s1 ⟨vs, H1, I1, r, q⟩ => ⟨I1.kIn, ?_⟩) he hpl
  exact run_fn F hr hb hd hx I1 r q



end

/-! ### keywords -/
section
variable {X : Cx} {CX : CXT} {k : Nat} {f C : Addr} {fd : FuncData} {ps ks : List Str} {sp : Sp} {E : XK} {x m : Str} {p pos apos kpos : Pos} {e o : Expr} {es : List Expr} {kws : List Keyword} {te ta : TE} {t tk : TA} {nm : Option Str}

variable {g : List Value → List Value → List Value} {gV : List V → List V → List V}
end

/-! ### a def's body keeps its promise -/
/-- names: the parameters first -/
structure FnScope (N P : List Str) (sc : Scope) : Prop where
  kind : sc.kind = .function
  co : sc.isCoroutine = false
  gen : sc.isGenerator = false
  nd : N.Nodup
  pre : N.take P.length = P
  par : ∀ x ∈ P, sc.names.lookup x = some .local ∨ sc.names.lookup x = some .cell
  nofree : ∀ y ∈ sc.names, y.2 ≠ .free

theorem bindL_out {kindOf : Str → Option NameKind} {x : Str} : ∀ {binds : List (Str × Value)} {m : Str → Option Value}, (∀ v, (x, v) ∉ binds) → bindL kindOf binds m x = m x
  | [], _, _ => rfl
  | (n, v) :: r, m, h => by
    unfold bindL
    rw [bindL_out fun w hw => h w (List.mem_cons_of_mem _ hw)]
    split
    · have : x ≠ n := by rintro rfl; exact h v List.mem_cons_self
      simp [this]
    · rfl
theorem bindC_out {kindOf : Str → Option NameKind} {x : Str} : ∀ {binds : List (Str × Value)} {m : Str → Option Value}, (∀ v, (x, v) ∉ binds) → bindC kindOf binds m x = m x
  | [], _, _ => rfl
  | (n, v) :: r, m, h => by
    unfold bindC
    rw [bindC_out fun w hw => h w (List.mem_cons_of_mem _ hw)]
    split
    · rfl
    · have : x ≠ n := by rintro rfl; exact h v List.mem_cons_self
      simp [this]
theorem bindL_get {kindOf : Str → Option NameKind} {x : Str} {v : Value} : ∀ {P : List Str} {vs : List Value} {i : Nat} {m : Str → Option Value}, P.Nodup → P[i]? = some x → vs[i]? = some v → kindOf x = some .local →
    bindL kindOf (P.zip vs) m x = some v
  | [], _, _, _, _, h, _, _ => by simp at h
  | _ :: _, [], _, _, _, _, h, _ => by simp at h
  | p :: P, w :: vs, 0, m, nd, h1, h2, hk => by
    simp at h1 h2; subst h1; subst h2
    show bindL kindOf ((p, w) :: P.zip vs) m p = _
    unfold bindL
    rw [bindL_out fun v hv => (List.nodup_cons.mp nd).1 (List.of_mem_zip hv).1, if_pos hk]
    simp
  | p :: P, w :: vs, i + 1, m, nd, h1, h2, hk => by
    show bindL kindOf ((p, w) :: P.zip vs) m x = _
    unfold bindL
    exact bindL_get (i := i) (List.nodup_cons.mp nd).2 (by simpa using h1) (by simpa using h2) hk
theorem bindC_get {kindOf : Str → Option NameKind} {x : Str} {v : Value} : ∀ {P : List Str} {vs : List Value} {i : Nat} {m : Str → Option Value}, P.Nodup → P[i]? = some x → vs[i]? = some v → kindOf x ≠ some .local →
    bindC kindOf (P.zip vs) m x = some v
  | [], _, _, _, _, h, _, _ => by simp at h
  | _ :: _, [], _, _, _, _, h, _ => by simp at h
  | p :: P, w :: vs, 0, m, nd, h1, h2, hk => by
    simp at h1 h2; subst h1; subst h2
    show bindC kindOf ((p, w) :: P.zip vs) m p = _
    unfold bindC
    rw [bindC_out fun v hv => (List.nodup_cons.mp nd).1 (List.of_mem_zip hv).1, if_neg hk]
    simp
  | p :: P, w :: vs, i + 1, m, nd, h1, h2, hk => by
    show bindC kindOf ((p, w) :: P.zip vs) m x = _
    unfold bindC
    exact bindC_get (i := i) (List.nodup_cons.mp nd).2 (by simpa using h1) (by simpa using h2) hk

/-- the names' values at the entry -/
def start (N : List Str) (vs : List V) : St := vs.map some ++ List.replicate (N.length - vs.length) none

/-- the context of a def's body, at its entry; an exception leaves the frame, then lies as CX says -/
def cxOf (CX : CXT) (P : Program) (w : World) (K : PySem.W.Frag) (mg : Str → Option Value) (base : Heap) (N : List Str) (qual : Str) (scope : Scope) (f : Addr) (cd : Value) (A : Around) (outer : List Env) (s : Shared) (H : Hp) (E : XK) : Cx where
  prog := P
  w := w
  K := K
  mg := mg
  base := base
  A := A.deeper (envOfC qual scope s.heap.objs.size f cd)
  N := N
  s₀ := s
  H₀ := H
  env := envOfC qual scope s.heap.objs.size f cd
  outer := outer
  stack := envOfC qual scope s.heap.objs.size f cd :: outer
  ex := []
  calm := true
  fn := fun _ => true
  pn := []
  xe := fun e s' => wpAny (model P w) (A.deeper (envOfC qual scope s.heap.objs.size f cd)) (leaving (envOfC qual scope s.heap.objs.size f cd) e) (fun _ s'' => CX outer H s E e s'') (fun e' s'' => CX outer H s E e' s'') s'

theorem cell_has {sc : Scope} {n : Nat} {x : Str} (h : sc.names.lookup x = some .cell) : ∃ c, (cellsFrom n sc.names []).lookup x = some c := by
  have q := PySem.W.cellsFrom_some sc.names n [] (.inl h)
  exact Option.isSome_iff_exists.mp q

theorem inv_start {CX : CXT} {P : Program} {w : World} {K : PySem.W.Frag} {mg : Str → Option Value} {base : Heap} {N ps : List Str} {qual : Str} {scope : Scope} {f : Addr} {cd : Value} {A : Around} {outer : List Env} {s s1 : Shared} {H : Hp} {E : XK} {us : List Value} {vs : List V}
    (S : FnScope N ps scope) (hd : A.handled = none) (e0 : Env0 P w K mg base A outer s H) (hl : vs.length = ps.length) (r : Vals vs us)
    (x : InCallC s s.heap.objs.size (bindL (envOfC qual scope s.heap.objs.size f cd).kindOf (ps.zip us) fun _ => none) (cellsFrom (s.heap.objs.size + 1) scope.names []) (bindC (envOfC qual scope s.heap.objs.size f cd).kindOf (ps.zip us) fun _ => none) s1) :
    Inv (cxOf CX P w K mg base N qual scope f cd A outer s H E) [] (start N vs) H s1 := by
  have hpl : ps.length ≤ N.length := by have := congrArg List.length S.pre; rw [List.length_take] at this; omega
  obtain ⟨h1, tk, rfl, hk⟩ := x.done
  have noA : ∀ b : Addr, b ∉ (cxOf CX P w K mg base N qual scope f cd A outer s H E).ex := fun b z => absurd (show b ∈ ([] : List Addr) from z) (by simp)
  refine ⟨⟨e0.mod, S.kind, rfl, rfl, Nat.le_refl _, fun y z c h1 h2 => ?_, fun y hy => ?_, fun y c _ h => ?_, fun _ => hd, Around.frames_deeper e0.frames, .inr ⟨rfl, rfl⟩, fun b z => absurd z (noA b), e0.bs, e0.bsz, fun b _ _ => noA b, fun b z => absurd z (noA b), e0.funs, e0.frf⟩,
    rfl, e0.bare, Un.kept hk, ⟨_, x.toInCall.ns, fun i y v h1 h2 h3 => ?_⟩, fun y c h => ⟨_, x.cell y c h⟩, e0.hok.fresh (Nat.le_refl _), fun y c h => ?_, fun p hp => absurd (show p ∈ ([] : List (Addr × Obj)) from hp) (by simp), e0.hok.kept hk, ?_⟩
  · exact name_of_addr x.apart (PySem.mem_of_lookup h1) (PySem.mem_of_lookup h2)
  · have hy : scope.names.lookup y = some .cell ∨ scope.names.lookup y = some .free := hy
    rcases hy with hy | hy
    · exact cell_has hy
    · exact absurd rfl (S.nofree _ (PySem.mem_of_lookup hy))
  · exact Nat.le_of_lt (x.above y c (PySem.mem_of_lookup h))
  · have hi : i < vs.length := by
      unfold start at h2
      by_cases hi : i < vs.length
      · exact hi
      · rw [List.getElem?_append_right (by simpa using hi)] at h2
        rw [List.getElem?_replicate] at h2
        split at h2 <;> cases h2
    have ha : vs[i]? = some v := by
      unfold start at h2
      rw [List.getElem?_append_left (by simpa using hi), List.getElem?_map] at h2
      cases e : vs[i]? with
      | none => rw [e] at h2; cases h2
      | some a => rw [e] at h2; cases h2; rfl
    obtain ⟨u, hu, rv⟩ := r.get ha
    have hp : ps[i]? = some y := by
      rw [← S.pre, List.getElem?_take_of_lt (by omega)]; exact h1
    have ndP : ps.Nodup := by rw [← S.pre]; exact S.nd.sublist (List.take_sublist _ _)
    refine ⟨u, rv, ?_⟩
    rcases S.par y (List.mem_of_getElem? hp) with k | k
    · exact .inl ⟨k, bindL_get ndP hp hu k⟩
    · obtain ⟨c, e⟩ := cell_has (n := s.heap.objs.size + 1) k
      refine .inr ⟨.inl k, c, e, ?_⟩
      have q := x.cell y c e
      rw [bindC_get ndP hp hu (by show scope.names.lookup y ≠ _; rw [k]; decide)] at q
      exact q
  · exact e0.hok.fresh (Nat.le_of_lt (x.above y c (PySem.mem_of_lookup h)))
  · unfold start
    show _ = N.length
    rw [List.length_append, List.length_map, List.length_replicate]
    omega

/-- THE RULE: a def (or a method) of the text, by its body. The body's reading t is chosen for each entry; it is run at the parameters' values -/
theorem fn_of {CX : CXT} {P : Program} {w : World} {K : PySem.W.Frag} {mg : Str → Option Value} {base : Heap} {k : Nat} {f : Addr} {name qual : Str} {params : Arguments} {body : List Stmt} {scope : Scope} {dV kV doc pm cdv ct oc : Value} {an od : Option Addr}
    {osl : Array (Option Value)} {N ps : List Str} {sp : Sp} (lk : K.lookup f = some ⟨oc, od, .func (PySem.W.fnOf name qual params body scope dV kV doc pm an cdv ct), osl⟩) (hcd : PySem.W.codeIn K cdv qual = true) (S : FnScope N ps scope)
    (len : ∀ vs H Q E, sp vs H Q E → vs.length = ps.length)
    (hbody : ∀ (A : Around) (outer : List Env) (s : Shared) (H : Hp) (vs : List V) (Q : VK) (E : XK), Room k (A.deeper (envOfC qual scope s.heap.objs.size f cdv)) → sp vs H Q E →
      ∃ t, PSs (cxOf CX P w K mg base N qual scope f cdv A outer s H E) body t ∧ t { nx := fun _ H' => Q .non H', rt := Q } (start N vs) H) :
    FnOk P w K mg base CX (k + 1) f (PySem.W.fnOf name qual params body scope dV kV doc pm an cdv ct) ps sp := by
  refine ⟨len, fun A outer s H args us vs Q E hr e0 hb r hsp => ?_⟩
  have hl := len _ _ _ _ hsp
  have KX : K.In s.heap := e0.mod.kin.keeps fun b o e => (e0.bs b o e).1
  have lim : s.heap.NoLimit := e0.mod.nolimit.keeps fun b o e => (e0.bs b o e).1
  have hkind : ∀ y ∈ ps.zip us, scope.names.lookup y.1 = some .local ∨ (scope.names.lookup y.1 = some .cell ∧ ((cellsFrom (s.heap.objs.size + 1) scope.names []).lookup y.1).isSome = true) := fun ⟨n, v⟩ hy => by
    rcases S.par n (List.of_mem_zip hy).1 with q | q
    · exact .inl q
    · exact .inr ⟨q, PySem.W.cellsFrom_some _ _ _ (.inl q)⟩
  refine codeAny_call_function hr.depth (KX _ _ lk) rfl S.co S.gen rfl (PySem.W.codeRec_of KX hcd) (hb _ _ _ _ ?_)
  refine wpAny_newFunctionEnv_cells S.kind hkind fun env he s1 x => ?_
  subst he
  refine ⟨lim.keeps x.toInCall.keep, codeAny_func ?_⟩
  obtain ⟨t, ht, hq⟩ := hbody A outer s H vs Q E (hr.deeper _) hsp
  have I : Inv (cxOf CX P w K mg base N qual scope f cdv A outer s H E) [] (start N vs) H s1 := inv_start S hr.hd e0 hl r x
  refine wpAny_mono (ht [] s1 (start N vs) H _ I hq) (fun fl s' hs => ?_) fun e s' hs => hs
  have fin : ∀ {σ' : St} {H' : Hp} {v : V} {u : Value}, Inv (cxOf CX P w K mg base N qual scope f cdv A outer s H E) [] σ' H' s' → RelV v u → Q v H' → CE outer P w H s Q u s' :=
    fun {σ' H' v u} J rv q => ⟨v, H', J.os, J.bare, J.base, J.hok, rv, q⟩
  cases fl with
  | ret u =>
    obtain ⟨v, σ', H', J, rv, q⟩ := hs
    exact fin J rv q
  | next =>
    obtain ⟨σ', H', J, q⟩ := hs
    exact fin (v := V.non) (u := Value.none) J rfl q
  | brk =>
    obtain ⟨_, _, _, q⟩ := hs
    exact False.elim q
  | cont =>
    obtain ⟨_, _, _, q⟩ := hs
    exact False.elim q
end L2

namespace L2
open PySem PySem.Spec PyProof.Rows
section
variable {X : Cx} {x : Str} {p pos : Pos} {e : Expr} {es : List Expr} {t : TA} {id T : String} {r : List V → Hp → VK → Prop}

def tCB (r : List V → Hp → VK → Prop) (t : TA) : TE := fun σ H Q => t σ H fun vs H1 => r vs H1 Q
/-- f(e, ..), f a built-in function -/
theorem pe_callB (hc : CallR X (.builtin id) r) (hm : X.mg x = none) (ha : PA X (e :: es) t) (hg : Gl X x := by rfl) (hv : bootBuiltins x = some (.builtin id) := by decide +kernel) (hn : x ≠ "__name__" := by decide) (hdb : (x == ("__debug__" : Str)) = false := by decide)
    (he : starEach (e :: es) X.env = (false, eval e X.env) :: starEach es X.env := by rfl) (hpl : (backTo pos (starEach es X.env)).any (·.1) = false := by rfl) : PE X (.Call (.Name x p) (e :: es) [] pos) (tCB r t) := by
  intro pins s σ H Q I h
  refine wpAny_Call_Name_kw (ld_blt I hg hm hv ?_ hn hdb)
  exact PyProof.Rows.callWith_builtin1 (thn (ha pos pins s σ H _ I h) fun us s1 ⟨vs, H1, I1, r1, q1⟩ => hc pins s1 σ H1 vs us Q I1 r1 q1) he hpl
/-- T(e, ..), T a built-in type -/
theorem pe_callTy (hc : CallR X (.type T) r) (hm : X.mg x = none) (ha : PA X (e :: es) t) (hg : Gl X x := by rfl) (hv : bootBuiltins x = some (.type T) := by decide +kernel) (hn : x ≠ "__name__" := by decide) (hdb : (x == ("__debug__" : Str)) = false := by decide)
    (he : starEach (e :: es) X.env = (false, eval e X.env) :: starEach es X.env := by rfl) (hpl : (backTo pos (starEach es X.env)).any (·.1) = false := by rfl) : PE X (.Call (.Name x p) (e :: es) [] pos) (tCB r t) := by
  intro pins s σ H Q I h
  refine wpAny_Call_Name_kw (ld_blt I hg hm hv ?_ hn hdb)
  exact PyProof.Rows.callWith_type1 (thn (ha pos pins s σ H _ I h) fun us s1 ⟨vs, H1, I1, r1, q1⟩ => hc pins s1 σ H1 vs us Q I1 r1 q1) he hpl
end
end L2

namespace HT
open PySem PyProof.Rows



section
open PySem.SeqAt
open PySem.AutoSeq1 (wpAny_loadPart')
open PySem.MeetsSeq PySem.MeetsSeq2 PySem.MeetsSeq3

end

section
variable {prog : Program} {w : World} {A : Around} {E : Value → Shared → Prop} {s : Shared}



/-! ### t[a:b], not the whole -/
/-- a slice's bound as a place among n (d where it is left out) -/
def sIx (n d : Nat) : Option Int → Nat
  | none => d
  | some v => if v < 0 then (v + (n : Int)).toNat else min v.toNat n
theorem sIx_none (n d : Nat) : sIx n d none = d := rfl
theorem sIx_nat (n d k : Nat) : sIx n d (some (k : Int)) = min k n := by
  show (if (k : Int) < 0 then ((k : Int) + (n : Int)).toNat else min (k : Int).toNat n) = min k n
  rw [if_neg (by omega), Int.toNat_natCast]

end
end HT

namespace L2
open PySem PySem.Spec PyProof.Rows

/-! ### the parts of a slice -/
abbrev TO := St → Hp → (Option Int → Hp → Prop) → Prop
/-- a slice's part (left out, or an int) -/
def PO (X : Cx) (e : Option Expr) (t : TO) : Prop :=
  ∀ (pins : List (Addr × Obj)) (s : Shared) (σ : St) (H : Hp) (Q : Option Int → Hp → Prop), Inv X pins σ H s → t σ H Q →
    wpAny (model X.prog X.w) X.A (evalPart e X.env) (fun u s' => ∃ o H', Inv X pins σ H' s' ∧ IsPart u o ∧ Q o H') X.xe s
def tNoPart : TO := fun _ H Q => Q none H
def tPart (t : TE) : TO := fun σ H Q => t σ H fun x H1 => ∃ i, x = .int i ∧ Q (some i) H1


section
variable {X : Cx} {e : Expr} {te : TE} {lo hi : Option Expr} {tl th : TO} {pos p2 : Pos}

theorem po_none : PO X none tNoPart := by
  intro pins s σ H Q I h
  rw [evalPart_none]
  exact wpAny_pure ⟨none, H, I, .none, h⟩
theorem po_some (h : PE X e te) : PO X (some e) (tPart te) := by
  intro pins s σ H Q I hw
  rw [evalPart_some]
  refine thn (h pins s σ H _ I hw) fun u s1 ⟨x, H1, I1, r1, q1⟩ => ?_
  obtain ⟨i, rfl, q⟩ := q1
  obtain ⟨t, rfl⟩ := r1
  exact ⟨some i, H1, I1, .int i t, q⟩

/-- what a slice of a value is, by values: the slice object stands at sl -/
def SlR (X : Cx) (r : V → Option Int → Option Int → Hp → VK → Prop) : Prop :=
  ∀ (pins : List (Addr × Obj)) (s : Shared) (σ : St) (H : Hp) (x : V) (v vl vu : Value) (lo hi : Option Int) (sl : Addr) (Q : VK), Inv X pins σ H s → RelV x v → s.heap.IsSliceOf sl vl vu .none → IsPart vl lo → IsPart vu hi → r x lo hi H Q →
    ∃ T id, typeLookup (.type T) "__getitem__" = pure (some (.builtin id)) ∧ s.TypeIs v T ∧ wpAny (model X.prog X.w) X.A (getItem v (.ref sl)) (EP X pins σ Q) X.xe s
def tSl (r : V → Option Int → Option Int → Hp → VK → Prop) (te : TE) (tl th : TO) : TE := fun σ H Q => te σ H fun x H1 => tl σ H1 fun l H2 => th σ H2 fun u H3 => r x l u H3 Q
/-- a[lo:hi], any a -/
theorem pe_slice {r : V → Option Int → Option Int → Hp → VK → Prop} (hr : SlR X r) (he : PE X e te) (hl : PO X lo tl) (hu : PO X hi th) : PE X (.Subscript e (.Slice lo hi none p2) pos) (tSl r te tl th) := by
  intro pins s σ H Q I h
  refine Subscript_ (thn (he pins s σ H _ I h) fun v s1 ⟨x, H1, I1, r1, q1⟩ => ?_)
  refine wpAny_Slice (thn (hl pins s1 σ H1 _ I1 q1) fun vl s2 ⟨l, H2, I2, pl, q2⟩ => thn (hu pins s2 σ H2 _ I2 q2) fun vu s3 ⟨u, H3, I3, pu, q3⟩ => ?_)
  rw [evalPart_none]
  refine wpAny_pure ?_
  have I4 : Inv X pins σ H3 { s3 with heap := s3.heap.push { cls := .type "slice", data := .fields #[vl, vu, .none] } } := I3.kept (t' := s3.toks) fun b ob q => Heap.get?_push_of_some _ q
  obtain ⟨T, id, hT, ht, hg⟩ := hr pins { s3 with heap := s3.heap.push { cls := .type "slice", data := .fields #[vl, vu, .none] } } σ H3 x v vl vu l u s3.heap.objs.size Q I4 r1 (Heap.IsSliceOf.new ..) pl pu q3
  show wpAny (model X.prog X.w) X.A (subscriptTail e (.Slice lo hi none p2) v (.ref s3.heap.objs.size)) (EP X pins σ Q) X.xe { s3 with heap := s3.heap.push { cls := .type "slice", data := .fields #[vl, vu, .none] } }
  exact tail_any (ops := [.ref s3.heap.objs.size, v]) ht hT hg (by with_unfolding_all rfl)

/-- the items of xs[lo:hi] -/
def cutV (xs : List V) (lo hi : Option Int) : List V := (xs.drop (HT.sIx xs.length 0 lo)).take (HT.sIx xs.length xs.length hi - HT.sIx xs.length 0 lo)
theorem cutV_length (xs : List V) (lo hi : Option Int) : (cutV xs lo hi).length ≤ xs.length := by
  unfold cutV
  rw [List.length_take, List.length_drop]
  omega

/-! ### t < u, t + u -/
end
end L2

namespace L2
open PySem PySem.Spec PyProof.Rows

/-! ### places -/
/-- the place that an index of any sign means -/
def ixN (n : Nat) (i : Int) : Option Nat := if 0 ≤ i then (if i < n then some i.toNat else none) else if -(n : Int) ≤ i then some (i + n).toNat else none
def atI {α : Type} (xs : List α) (i : Int) : Option α := (ixN xs.length i).bind fun j => xs[j]?
theorem ixN_seq {n : Nat} {i : Int} {j : Nat} (h : ixN n i = some j) : seqIndex? i n = some j ∧ j < n ∧ -(n : Int) ≤ i ∧ i < n := by
  unfold ixN at h
  by_cases h0 : 0 ≤ i
  · rw [if_pos h0] at h
    by_cases h1 : i < n
    · rw [if_pos h1] at h
      have e : i.toNat = j := Option.some.inj h
      exact ⟨by rw [seqIndex_of h0 h1, e], by omega, by omega, h1⟩
    · rw [if_neg h1] at h; cases h
  · rw [if_neg h0] at h
    by_cases h1 : -(n : Int) ≤ i
    · rw [if_pos h1] at h
      have e : (i + n).toNat = j := Option.some.inj h
      exact ⟨by rw [seqIndex_neg (by omega) h1, e], by omega, h1, by omega⟩
    · rw [if_neg h1] at h; cases h
theorem atI_get {α : Type} {xs : List α} {i : Int} {v : α} (h : atI xs i = some v) : ∃ j, seqIndex? i xs.length = some j ∧ xs[j]? = some v ∧ j < xs.length ∧ -(xs.length : Int) ≤ i ∧ i < xs.length := by
  unfold atI at h
  cases e : ixN xs.length i with
  | none => rw [e] at h; cases h
  | some j =>
    rw [e] at h
    obtain ⟨h1, h2, h3, h4⟩ := ixN_seq e
    exact ⟨j, h1, h, h2, h3, h4⟩
theorem atI_nat {α : Type} {xs : List α} {j : Nat} {v : α} (h : xs[j]? = some v) : atI xs (j : Int) = some v := by
  have hj : j < xs.length := (List.getElem?_eq_some_iff.mp h).1
  have e : ixN xs.length (j : Int) = some j := by
    unfold ixN
    rw [if_pos (by omega), if_pos (by omega)]; simp
  unfold atI; rw [e]; exact h
theorem atI_last {α : Type} (xs : List α) (v : α) : atI (xs ++ [v]) (-1) = some v := by
  have hl : (xs ++ [v]).length = xs.length + 1 := by simp
  have e : ixN (xs ++ [v]).length (-1) = some xs.length := by
    unfold ixN
    rw [hl, if_neg (by decide), if_pos (by omega)]
    congr 1
    omega
  unfold atI
  rw [e]
  show (xs ++ [v])[xs.length]? = some v
  simp

/-! ### what may be subscripted -/
/-- what stands as an index of a plain subscript -/
def PlainIx (b : Expr) : Prop := ∀ o i, subscripted b false o i = operate [o, i] (getItem o i)
/-- a subscript by values -/
def IxR (X : Cx) (r : R2) : Prop :=
  ∀ (value slice : Expr) (pins : List (Addr × Obj)) (s : Shared) (σ : St) (H : Hp) (x y : V) (v u : Value) (Q : VK), Inv X pins σ H s → RelV x v → RelV y u → r x y H Q →
    subscripted slice false v u = operate [v, u] (getItem v u) → wpAny (model X.prog X.w) X.A (subscriptTail value slice v u) (EP X pins σ Q) X.xe s
/-- a call of a builtin's method by values: the receiver, the arguments -/
def MtR (X : Cx) (id : String) (r : V → List V → Hp → VK → Prop) : Prop :=
  ∀ (pins : List (Addr × Obj)) (s : Shared) (σ : St) (H : Hp) (x : V) (xs : List V) (v : Value) (us : List Value) (Q : VK), Inv X pins σ H s → RelV x v → Vals xs us → r x xs H Q →
    wpAny (model X.prog X.w) X.A (call (.builtin id) (v :: us)) (EP X pins σ Q) X.xe s
section
variable {X : Cx} {a b : Expr} {ta tb : TE} {pos : Pos}
theorem IxR.or {r r' : R2} (h : IxR X r) (h' : IxR X r') : IxR X (fun x y H Q => r x y H Q ∨ r' x y H Q) := by
  intro value slice pins s σ H x y v u Q I rx ry q hs
  rcases q with q | q
  · exact h value slice pins s σ H x y v u Q I rx ry q hs
  · exact h' value slice pins s σ H x y v u Q I rx ry q hs
/-- a[b] -/
theorem pe_ix {r : R2} (hr : IxR X r) (ha : PE X a ta) (hb : PE X b tb) (hs : PlainIx b := by exact fun _ _ => rfl) : PE X (.Subscript a b pos) (tOp r ta tb) := by
  intro pins s σ H Q I h
  exact Subscript_ (binT ha hb I h fun v u s2 x y H2 I2 rx ry q => hr a b pins s2 σ H2 x y v u Q I2 rx ry q (hs _ _))

def rIxL (K : PySem.W.Frag) : R2 := fun x y H Q => ∃ p xs i v, x = .ref p ∧ y = .int i ∧ SqL K H p xs ∧ atI xs i = some v ∧ Q v H
def rIxT (K : PySem.W.Frag) : R2 := fun x y H Q => ∃ p xs i v, x = .ref p ∧ y = .int i ∧ SqT K H p xs ∧ atI xs i = some v ∧ Q v H
def rIxS : R2 := fun x y H Q => ∃ z i c, x = .str z ∧ y = .int i ∧ z.length ≤ sizeLine ∧ atI z.cps.toList i = some c ∧ Q (.str ⟨#[c]⟩) H
theorem ix_list : IxR X (rIxL X.K) := by
  intro value slice pins s σ H x y v u Q I rx ry h hs
  obtain ⟨p, xs, i, z, rfl, rfl, hq, he, q⟩ := h
  cases rx
  obtain ⟨t, rfl⟩ := ry
  obtain ⟨its, r, pl, hz⟩ := I.list hq
  obtain ⟨j, h1, h2, h3, h4, h5⟩ := atI_get he
  obtain ⟨w, ew, rw'⟩ := r.get h2
  have hl := r.length
  have hn := line63
  have fin : EP X pins σ Q w s := ⟨z, H, I, rw', q⟩
  by_cases h0 : 0 ≤ i
  · have hj : i.toNat = j := by
      rw [seqIndex_of h0 h5] at h1
      exact Option.some.inj h1
    exact item_listR pl.isList h0 (by omega) (by rw [hj]; simpa using ew) fin hs
  · have hj : (i + (its.toArray.size : Int)).toNat = j := by
      rw [seqIndex_neg (by omega) h4] at h1
      rw [List.size_toArray, ← hl]
      exact Option.some.inj h1
    exact subscriptTail_builtinR (x := w) pl.isList.typeIs slot_list_getitem.lookup
      (wpAny_getItem_list_neg (Q := fun r s' => r = w ∧ EP X pins σ Q r s') pl.isList (by omega) (by rw [List.size_toArray] <;> omega) (by omega) (by rw [hj]; simpa using ew) ⟨rfl, fin⟩) hs
theorem ix_tup : IxR X (rIxT X.K) := by
  intro value slice pins s σ H x y v u Q I rx ry h hs
  obtain ⟨p, xs, i, z, rfl, rfl, hq, he, q⟩ := h
  cases rx
  obtain ⟨t, rfl⟩ := ry
  obtain ⟨its, r, pl, hz⟩ := I.tuple hq
  obtain ⟨j, h1, h2, h3, h4, h5⟩ := atI_get he
  obtain ⟨w, ew, rw'⟩ := r.get h2
  have hl := r.length
  have hn := line63
  have fin : EP X pins σ Q w s := ⟨z, H, I, rw', q⟩
  exact subscriptTail_builtinR (x := w) pl.typeIs slot_tuple_getitem.lookup
    (getItem_tuple (j := j) (Q := fun r s' => r = w ∧ EP X pins σ Q r s') pl (by omega) (by omega) (by rw [List.size_toArray, ← hl]; exact h1) (by simpa using ew) ⟨rfl, fin⟩) hs
theorem ix_str : IxR X rIxS := by
  intro value slice pins s σ H x y v u Q I rx ry h hs
  obtain ⟨z, i, c, rfl, rfl, hz, he, q⟩ := h
  obtain ⟨t, rfl⟩ := rx
  obtain ⟨t', rfl⟩ := ry
  obtain ⟨j, h1, h2, h3, h4, h5⟩ := atI_get he
  have hl : z.cps.toList.length = z.length := by simp [Str.length]
  rw [hl] at h1 h4 h5
  have hn := line63
  exact tail_any (typeIs_str s z t) slot_str_getitem.lookup (getItem_str (c := c) (by
    have e1 : decide (i < -(2 ^ 63 : Int)) = false := decide_eq_false (by omega)
    have e2 : decide (i ≥ 2 ^ 63) = false := decide_eq_false (by omega)
    rw [e1, e2, Bool.or_false]) (by rw [h1]; simpa using h2) ⟨.str ⟨#[c]⟩, H, I.tok _, ⟨_, rfl⟩, q⟩) hs
/-- list, tuple or str -/
def rIx (K : PySem.W.Frag) : R2 := fun x y H Q => rIxL K x y H Q ∨ rIxT K x y H Q ∨ rIxS x y H Q
theorem ix_seq : IxR X (rIx X.K) := ix_list.or (ix_tup.or ix_str)

/-! ### xs[i] = v, any sign -/
/-- the list's object behind a store -/
theorem mapSeq_set (its : List Value) (n j : Nat) (u : Value) : Obj.mapSeq (·.setIfInBounds j u) { cls := .type "list", data := .seq its.toArray n } = { cls := .type "list", data := .seq (its.set j u).toArray n } := by
  simp [Obj.mapSeq]
theorem Inv.lst {pins : List (Addr × Obj)} {σ : St} {H : Hp} {s : Shared} {p : Addr} {xs : List V} (I : Inv X pins σ H s) (h : H p = some (.lst xs)) :
    ∃ (its : List Value) (n : Nat), Vals xs its ∧ s.heap.get? p = some { cls := .type "list", data := .seq its.toArray n } ∧ xs.length ≤ sizeLine := by
  obtain ⟨z, its, n, r, e⟩ := I.hok p _ h
  exact ⟨its, n, r, e, z⟩
/-- the list at p is written by an update of its object -/
theorem Inv.lstUpd {pins : List (Addr × Obj)} {σ : St} {H : Hp} {s : Shared} {p : Addr} {xs ys : List V} {its its' : List Value} {n n' : Nat} {f : Obj → Obj} (I : Inv X pins σ H s) (h : H p = some (.lst xs))
    (ho : s.heap.get? p = some { cls := .type "list", data := .seq its.toArray n }) (hf : f { cls := .type "list", data := .seq its.toArray n } = { cls := .type "list", data := .seq its'.toArray n' }) (r : Vals ys its') (hz : ys.length ≤ sizeLine) (t : Nat) :
    Inv X pins σ (upd H p (.lst ys)) { s with heap := s.heap.update p f, toks := t } := by
  have e : (s.heap.update p f).get? p = some { cls := .type "list", data := .seq its'.toArray n' } := by
    rw [Heap.get?_update_self f ho (by rw [hf] <;> rfl), hf]
  refine I.write (x := p) (e := p) (by rw [h]; trivial) (.inl rfl) (fun b u hb q => (Heap.get?_update_other _ _ (Ne.symm hb)).trans q) ⟨_, e⟩ ?_
  exact ⟨hz, its', n', r, e⟩
def rSetL : V → V → V → Hp → (Hp → Prop) → Prop := fun o i v H Q => ∃ p xs k j, o = .ref p ∧ i = .int k ∧ H p = some (.lst xs) ∧ ixN xs.length k = some j ∧ Q (upd H p (.lst (xs.set j v)))
theorem set_list : PSet X rSetL := by
  intro pins s σ H o i v ov iv u Q I ro ri rv h
  obtain ⟨p, xs, k, j, rfl, rfl, hp, hj, q⟩ := h
  cases ro
  obtain ⟨t, rfl⟩ := ri
  obtain ⟨its, n, r, ho, hz⟩ := I.lst hp
  obtain ⟨h1, h2, h3, h4⟩ := ixN_seq hj
  have hl := r.length
  have hn := line63
  have I' : Inv X pins σ (upd H p (.lst (xs.set j v))) { s with heap := s.heap.update p (Obj.mapSeq (·.setIfInBounds j u)) } :=
    I.lstUpd hp ho (mapSeq_set its n j u) (r.set rv j) (by rw [List.length_set]; exact hz) s.toks
  by_cases h0 : 0 ≤ k
  · have hk : k.toNat = j := by
      rw [seqIndex_of h0 h4] at h1
      exact Option.some.inj h1
    exact PySem.W.ki_setAt ho h0 (by omega) (by rw [List.size_toArray, ← hl]; exact h4) (by rw [hk]; exact ⟨_, I', q⟩)
  · have hk : (k + (its.toArray.size : Int)).toNat = j := by
      rw [seqIndex_neg (by omega) h3] at h1
      rw [List.size_toArray, ← hl]
      exact Option.some.inj h1
    exact PySem.W.ki_setBack ho (by omega) (by rw [List.size_toArray, ← hl]; exact h3) (by omega) (by rw [hk]; exact ⟨_, I', q⟩)

/-! ### slices -/
theorem slice_bounds (lo hi : Option Int) (n : Nat) : (sliceBounds lo hi none n).1 = ((HT.sIx n 0 lo : Nat) : Int) ∧ (sliceBounds lo hi none n).2.1 = ((HT.sIx n n hi : Nat) : Int) ∧ (sliceBounds lo hi none n).2.2 = 1 := by
  refine ⟨?_, ?_, rfl⟩
  · cases lo with
    | none => simp [sliceBounds, HT.sIx]
    | some i =>
      simp only [sliceBounds, HT.sIx, Option.getD_none, show (1 : Int) > 0 by decide, if_true]
      by_cases h : i < 0
      · simp only [h, if_true] <;> omega
      · simp only [h, if_false] <;> omega
  · cases hi with
    | none => simp [sliceBounds, HT.sIx]
    | some i =>
      simp only [sliceBounds, HT.sIx, Option.getD_none, show (1 : Int) > 0 by decide, if_true]
      by_cases h : i < 0
      · simp only [h, if_true] <;> omega
      · simp only [h, if_false] <;> omega
theorem slicePick_cut (its : List Value) (lo hi : Option Int) : slicePick its.toArray lo hi none = ((its.drop (HT.sIx its.length 0 lo)).take (HT.sIx its.length its.length hi - HT.sIx its.length 0 lo)).toArray := by
  obtain ⟨h1, h2, h3⟩ := slice_bounds lo hi its.toArray.size
  unfold slicePick
  rw [h1, h2, h3]
  simp only [sliceRange_one, pick_run, List.size_toArray] <;> rfl
/-- xs[lo:hi] of a list: a new list -/
def rSlL (K : PySem.W.Frag) : V → Option Int → Option Int → Hp → VK → Prop := fun x lo hi H Q => ∃ a xs, x = .ref a ∧ SqL K H a xs ∧ ∀ p, H p = none → Q (.ref p) (upd H p (.lst (cutV xs lo hi)))
theorem sl_list : SlR X (rSlL X.K) := by
  intro pins s σ H x v vl vu lo hi sl Q I rx hs pl pu h
  obtain ⟨a, xs, rfl, hx, q⟩ := h
  cases rx
  obtain ⟨its, r, ht, hz⟩ := I.list hx
  have hlen := r.length
  refine ⟨"list", _, slot_list_getitem.lookup, ht.isList.typeIs, ?_⟩
  refine wpAny_getItem_list_slice ht.isList hs pl pu .none (by simp) ?_ (by rw [List.size_toArray] <;> omega)
  rw [slicePick_cut, ← hlen]
  refine ⟨.ref s.heap.objs.size, _, I.laid (t' := s.toks) (o := .lst (cutV xs lo hi)) (fun b ob q => Heap.get?_push_of_some _ q) (Nat.le_refl _) ?_, rfl, q _ (I.hok.fresh (Nat.le_refl _))⟩
  exact ⟨Nat.le_trans (cutV_length xs lo hi) hz, _, 0, (r.drop (HT.sIx xs.length 0 lo)).take (HT.sIx xs.length xs.length hi - HT.sIx xs.length 0 lo), Heap.get?_push_size _ rfl⟩

/-! ### in, not in: flat items -/
def flatV : V → Bool
  | .non => true
  | .bl _ => true
  | .int _ => true
  | .str _ => true
  | _ => false
/-- == of flat values -/
def eqV : V → V → Bool
  | .non, .non => true
  | .bl a, .bl b => a == b
  | .bl a, .int b => (if a then 1 else 0) == b
  | .int a, .bl b => a == (if b then 1 else 0)
  | .int a, .int b => a == b
  | .str a, .str b => a == b
  | _, _ => false
theorem eqAt_V {A : Around} {s : Shared} {y x : V} {u v : Value} (ry : RelV y u) (rx : RelV x v) (fy : flatV y = true) (fx : flatV x = true) : SeqAt.EqAt A s u v (eqV y x) := by
  cases y with
  | non =>
    cases ry
    cases x with
    | non => cases rx; exact SeqAt.EqAt.same _
    | bl b => cases rx; exact SeqAt.EqAt.none_bool b
    | int b => obtain ⟨t, rfl⟩ := rx; exact SeqAt.EqAt.none_int b t
    | str b => obtain ⟨t, rfl⟩ := rx; exact SeqAt.EqAt.none_str b t
    | _ => exact absurd (show false = true from fx) Bool.false_ne_true
  | bl a =>
    cases ry
    cases x with
    | non => cases rx; exact SeqAt.EqAt.bool_none a
    | bl b => cases rx; exact SeqAt.EqAt.bool_bool a b
    | int b => obtain ⟨t, rfl⟩ := rx; exact SeqAt.EqAt.bool_int a b t
    | str b => obtain ⟨t, rfl⟩ := rx; exact SeqAt.EqAt.bool_str a b t
    | _ => exact absurd (show false = true from fx) Bool.false_ne_true
  | int a =>
    obtain ⟨t', rfl⟩ := ry
    cases x with
    | non => cases rx; exact SeqAt.EqAt.int_none a t'
    | bl b => cases rx; exact SeqAt.EqAt.int_bool a t' b
    | int b => obtain ⟨t, rfl⟩ := rx; exact SeqAt.EqAt.int_int a t' b t
    | str b => obtain ⟨t, rfl⟩ := rx; exact SeqAt.EqAt.int_str a t' b t
    | _ => exact absurd (show false = true from fx) Bool.false_ne_true
  | str a =>
    obtain ⟨t', rfl⟩ := ry
    cases x with
    | non => cases rx; exact SeqAt.EqAt.str_none a t'
    | bl b => cases rx; exact SeqAt.EqAt.str_bool a t' b
    | int b => obtain ⟨t, rfl⟩ := rx; exact SeqAt.EqAt.str_int a t' b t
    | str b => obtain ⟨t, rfl⟩ := rx; exact SeqAt.EqAt.str_str a t' b t
    | _ => exact absurd (show false = true from fx) Bool.false_ne_true
  | _ => exact absurd (show false = true from fy) Bool.false_ne_true
/-- the items' answers, read off the values (a value's own answer does not lean on its token) -/
def eqU (x : V) (u : Value) : Bool := match u with
  | .none => eqV .non x
  | .bool b => eqV (.bl b) x
  | .int i _ => eqV (.int i) x
  | .str z _ => eqV (.str z) x
  | _ => false
theorem eqU_of {x y : V} {u : Value} (r : RelV y u) (f : flatV y = true) : eqU x u = eqV y x := by
  cases y with
  | non => cases r; rfl
  | bl b => cases r; rfl
  | int i => obtain ⟨t, rfl⟩ := r; rfl
  | str z => obtain ⟨t, rfl⟩ := r; rfl
  | _ => exact absurd (show false = true from f) Bool.false_ne_true
theorem any_eqU {x : V} : ∀ {xs : List V} {us : List Value}, Vals xs us → xs.all flatV = true → us.any (eqU x) = xs.any fun y => eqV y x
  | _, _, .nil, _ => rfl
  | y :: xs, u :: us, .cons r t, f => by
    rw [List.all_cons, Bool.and_eq_true] at f
    rw [List.any_cons, List.any_cons, eqU_of r f.1, any_eqU t f.2]
theorem mem_eqAt {A : Around} {s : Shared} {x : V} {v : Value} (rx : RelV x v) (fx : flatV x = true) : ∀ {xs : List V} {us : List Value}, Vals xs us → xs.all flatV = true → ∀ u ∈ us, SeqAt.EqAt A s u v (eqU x u)
  | _, _, .nil, _ => fun u hu => by cases hu
  | y :: xs, u :: us, .cons r t, f => fun u' hu => by
    rw [List.all_cons, Bool.and_eq_true] at f
    rcases List.mem_cons.mp hu with rfl | hu
    · rw [eqU_of r f.1]; exact eqAt_V r rx f.1 fx
    · exact mem_eqAt rx fx t f.2 u' hu
def inV (x : V) (xs : List V) : Bool := xs.any fun y => eqV y x
/-- x in a list or tuple of flat items -/
def rIn (K : PySem.W.Frag) (neg : Bool) : R2 := fun x y H Q => ∃ p xs, y = .ref p ∧ (SqL K H p xs ∨ SqT K H p xs) ∧ flatV x = true ∧ xs.all flatV = true ∧ Q (.bl (if neg then !inV x xs else inV x xs)) H
theorem op_in_seq : OpR X (compareOp .In) (rIn X.K false) := by
  intro pins s σ H x y v u Q I rx ry h
  obtain ⟨p, xs, rfl, hq, fx, fs, q⟩ := h
  cases ry
  rcases hq with hq | hq
  · obtain ⟨its, r, pl, hz⟩ := I.list hq
    refine SeqAt.in_listAt (eqU x) pl.isList (fun w hw => mem_eqAt rx fx r fs w (by simpa using hw)) ⟨.bl _, H, I, rfl, ?_⟩
    rw [show its.toArray.any (eqU x) = its.any (eqU x) by simp, any_eqU r fs]
    exact q
  · obtain ⟨its, r, pl, hz⟩ := I.tuple hq
    refine SeqAt.in_tupleAt (eqU x) pl (fun w hw => mem_eqAt rx fx r fs w (by simpa using hw)) ⟨.bl _, H, I, rfl, ?_⟩
    rw [show its.toArray.any (eqU x) = its.any (eqU x) by simp, any_eqU r fs]
    exact q

/-! ### len, list(x), tuple(x) of any list or tuple that is read -/
theorem call_list_of : CallR X (.type "list") (fun xs H Q => ∃ p ys, xs = [.ref p] ∧ (SqL X.K H p ys ∨ SqT X.K H p ys) ∧ ∀ l, H l = none → Q (.ref l) (upd H l (.lst ys))) := by
  intro pins s σ H xs us Q I r h
  obtain ⟨p, ys, rfl, hq, q⟩ := h
  obtain ⟨u, rfl, rx⟩ := vals1 r
  cases rx
  have fin : ∀ (its : List Value), Vals ys its → ys.length ≤ sizeLine → ∀ (h' : Heap) (c' : Nat), (∀ b o', s.heap.get? b = some o' → h'.get? b = some o') →
      h'.get? s.heap.objs.size = some { cls := .type "list", dict := none, data := .seq its.toArray c', slots := #[] } → EP X pins σ Q (.ref s.heap.objs.size) { s with heap := h' } := fun its r' hz h' c' kp e =>
    ⟨.ref s.heap.objs.size, _, I.laid (t' := s.toks) kp (Nat.le_refl _) (show ObjOk X.prog X.w _ h' _ (.lst ys) from ⟨hz, its, c', r', e⟩), rfl, q _ (I.hok.fresh (Nat.le_refl _))⟩
  rcases hq with hq | hq
  · obtain ⟨its, r', pl, hz⟩ := I.list hq
    have hlen := r'.length
    obtain ⟨o, ho, hc, n, hd⟩ := pl.isList
    exact call_list_seq p (.inl rfl) ho hc hd (fun h' c' kp e => fin its r' hz h' c' kp e) (by simp only [List.size_toArray] <;> omega)
  · obtain ⟨its, r', pl, hz⟩ := I.tuple hq
    have hlen := r'.length
    obtain ⟨o, ho, hc, n, hd⟩ := pl
    exact call_list_seq p (.inr rfl) ho hc hd (fun h' c' kp e => fin its r' hz h' c' kp e) (by simp only [List.size_toArray] <;> omega)

/-! ### the call of a builtin's method: o.m(..) -/
/-- the value is of that builtin type -/
def tyV (K : PySem.W.Frag) (T : String) (x : V) (H : Hp) : Prop := match x with
  | .str _ => T = "str"
  | .int _ => T = "int"
  | .ref p => (T = "list" ∧ ∃ xs, SqL K H p xs) ∨ (T = "tuple" ∧ ∃ o, K.lookup p = some o ∧ o.cls = .type "tuple" ∧ o.dict = none) ∨
      (T = "dict" ∧ ((∃ kvs, H p = some (.dK kvs)) ∨ ∃ kvs, H p = some (.dT kvs))) ∨ (T = "set" ∧ ∃ S n, H p = some (.set S n))
  | _ => False
theorem tyV_is {pins : List (Addr × Obj)} {σ : St} {H : Hp} {s : Shared} {T : String} {x : V} {v : Value} (I : Inv X pins σ H s) (r : RelV x v) (ty : tyV X.K T x H) :
    s.TypeIs v T ∧ ∀ a, v = .ref a → ∃ ob, s.heap.get? a = some ob ∧ ob.dict = none := by
  cases x with
  | str z =>
    obtain ⟨t, rfl⟩ := r
    cases (show T = "str" from ty)
    exact ⟨typeIs_str s z t, fun _ e => nomatch e⟩
  | int i =>
    obtain ⟨t, rfl⟩ := r
    cases (show T = "int" from ty)
    exact ⟨typeIs_int s i t, fun _ e => nomatch e⟩
  | ref p =>
    cases r
    rcases ty with ⟨rfl, xs, hq⟩ | ⟨rfl, o, hk, hc, hd⟩ | ⟨rfl, hk⟩ | ⟨rfl, S, n, hk⟩
    · obtain ⟨its, _, pl, _⟩ := I.list hq
      refine ⟨pl.isList.typeIs, fun a e => ?_⟩
      cases e
      obtain ⟨o, n, e, c, hd, _⟩ := pl
      exact ⟨o, e, hd⟩
    · refine ⟨⟨o, I.kIn p o hk, hc⟩, fun a e => ?_⟩
      cases e
      exact ⟨o, I.kIn _ o hk, hd⟩
    · have z : ∃ o, s.heap.get? p = some o ∧ o.ExactDict := by
        rcases hk with ⟨kvs, hk⟩ | ⟨kvs, hk⟩
        · obtain ⟨_, _, _, _, o, _, _, e, ex, _⟩ := I.hok p _ hk
          exact ⟨o, e, ex⟩
        · obtain ⟨_, _, _, _, o, _, _, e, ex, _⟩ := I.hok p _ hk
          exact ⟨o, e, ex⟩
      obtain ⟨o, e, ex⟩ := z
      refine ⟨⟨o, e, ex.1⟩, fun a e2 => ?_⟩
      cases e2
      exact ⟨o, e, ex.2.1⟩
    · obtain ⟨o, _, _, _, e, ex, _⟩ := I.hok p _ hk
      refine ⟨⟨o, e, ex.1⟩, fun a e2 => ?_⟩
      cases e2
      exact ⟨o, e, ex.2.1⟩
  | _ => exact False.elim ty
def tBM0 (K : PySem.W.Frag) (T : String) (r : V → List V → Hp → VK → Prop) (to : TE) : TE := fun σ H Q => to σ H fun x H1 => tyV K T x H1 ∧ r x [] H1 Q
def tBM (K : PySem.W.Frag) (T : String) (r : V → List V → Hp → VK → Prop) (to : TE) (t : TA) : TE := fun σ H Q => to σ H fun x H1 => tyV K T x H1 ∧ t σ H1 fun xs H2 => r x xs H2 Q
variable {o e : Expr} {es : List Expr} {to : TE} {t : TA} {name : Str} {apos cpos : Pos} {T id : String} {r : V → List V → Hp → VK → Prop}
theorem pe_bm0 (pa : PlainAttrs T) (slot : Slot T name id) (hty : typeOf (.builtin id) = pure (.type "method_descriptor")) (hm : MtR X id r) (ho : PE X o to)
    (hbase : attributeBase o name X.env (eval o X.env) = eval o X.env := by rfl) (hline : (apos.endLine == cpos.line) = true := by rfl) : PE X (.Call (.Attribute o name apos) [] [] cpos) (tBM0 X.K T r to) := by
  intro pins s σ H Q I h
  refine wpAny_Call_method0_late hbase hline (thn (ho pins s σ H _ I h) fun v s1 ⟨x, H1, I1, r1, ty, q1⟩ => ?_)
  obtain ⟨h1, h2⟩ := tyV_is I1 r1 ty
  exact ⟨T, id, pa, slot, hty, h1, h2, Calls.callWith_builtin rfl (PySem.evalArgs_none (hm pins s1 σ H1 x [] v [] Q I1 r1 .nil q1))⟩
theorem pe_bm (pa : PlainAttrs T) (slot : Slot T name id) (hty : typeOf (.builtin id) = pure (.type "method_descriptor")) (hm : MtR X id r) (ho : PE X o to) (ha : PA X (e :: es) t)
    (hbase : attributeBase o name X.env (eval o X.env) = eval o X.env := by rfl)
    (hfew : ((backTo cpos (starEach (e :: es) X.env)).all (fun x => !x.1) && (backToKw cpos (keywordEach [] X.env)).all (fun x => x.1.isSome)
      && decide ((e :: es).length + ([] : List Keyword).length + (if ([] : List Keyword).isEmpty then 0 else 1) < 30)) = true := by rfl)
    (hline : (apos.endLine == cpos.line) = true := by rfl) (hs : starEach (e :: es) X.env = (false, eval e X.env) :: starEach es X.env := by rfl) (hplain : (backTo cpos (starEach es X.env)).any (·.1) = false := by rfl) :
    PE X (.Call (.Attribute o name apos) (e :: es) [] cpos) (tBM X.K T r to t) := by
  intro pins s σ H Q I h
  refine wpAny_Call_method_late hbase hfew hline rfl (thn (ho pins s σ H _ I h) fun v s1 ⟨x, H1, I1, r1, ty, q1⟩ => ?_)
  obtain ⟨h1, h2⟩ := tyV_is I1 r1 ty
  refine ⟨T, id, pa, slot, hty, h1, h2, ?_⟩
  have hA := ha cpos pins s1 σ H1 _ I1 q1
  rw [hs] at hA ⊢
  refine Calls.callWith_builtin (by show (false || (backTo cpos (starEach es X.env)).any (·.1)) = false; rw [hplain] <;> rfl) (Calls.evalArgs_plain ?_)
  exact thn hA fun us s2 ⟨vs, H2, I2, r2, q2⟩ => hm pins s2 σ H2 x vs v us Q I2 r1 r2 q2
/- xs.append(e), list.index on a module's tuple .. are MtR facts of 06m -/
end
end L2

namespace L2
open PySem PySem.Spec PyProof.Rows

def MtM (X : Cx) (id : String) (r : V → List V → Hp → VK → Prop) : Prop :=
  ∀ (pins : List (Addr × Obj)) (s : Shared) (σ : St) (H : Hp) (x : V) (xs : List V) (v : Value) (us : List Value) (Q : VK), Inv X pins σ H s → RelV x v → Vals xs us → r x xs H Q →
    wpAny (model X.prog X.w) X.A (call (.builtin id) (v :: us)) (EP X pins σ Q) X.xe s

/-! ### lists of values -/
theorem Vals.one : ∀ {x : V} {us : List Value}, Vals [x] us → ∃ u, us = [u] ∧ RelV x u
  | _, _, .cons r .nil => ⟨_, rfl, r⟩
theorem Vals.zero : ∀ {us : List Value}, Vals [] us → us = []
  | _, .nil => rfl

section
variable {X : Cx} {pins : List (Addr × Obj)} {σ : St} {H : Hp} {s : Shared} {l b : Addr} {xs ys zs : List V}

/-! ### the two steps: a tracked list is rewritten, a new list is laid -/
theorem Inv.lset {its its' : List Value} {n : Nat} {f : Array Value → Array Value} {t' : Nat} (I : Inv X pins σ H s) (hH : H l = some (.lst xs))
    (e : s.heap.get? l = some { cls := .type "list", data := .seq its.toArray n }) (hf : f its.toArray = its'.toArray) (hv : Vals ys its') (hz : ys.length ≤ sizeLine) :
    Inv X pins σ (upd H l (.lst ys)) { s with heap := s.heap.update l (Obj.mapSeq f), toks := t' } := by
  have q := PySem.IsL.update e f
  rw [hf] at q
  refine I.write (x := l) (e := l) (by rw [hH]; exact trivial) (.inl rfl) (fun b' u hb hu => (Heap.get?_update_other s.heap (Obj.mapSeq f) (Ne.symm hb)).trans hu) ⟨_, q⟩ ?_
  exact ⟨hz, its', _, hv, q⟩
theorem Inv.lnew {its : List Value} {t' : Nat} (I : Inv X pins σ H s) (hv : Vals ys its) (hz : ys.length ≤ sizeLine) :
    Inv X pins σ (upd H s.heap.objs.size (.lst ys)) { s with heap := s.heap.push { cls := .type "list", data := .seq its.toArray }, toks := t' } :=
  I.laid (fun _ _ q => Heap.get?_push_of_some _ q) (Nat.le_refl _) ⟨hz, its, 0, hv, Heap.get?_push_size _ rfl⟩
theorem Inv.fresh (I : Inv X pins σ H s) : H s.heap.objs.size = none := I.hok.fresh (Nat.le_refl _)
theorem Inv.lstM (I : Inv X pins σ H s) (hH : H l = some (.lst xs)) : xs.length ≤ sizeLine ∧ ∃ (its : List Value) (n : Nat), Vals xs its ∧ xs.length = its.length ∧ s.heap.get? l = some { cls := .type "list", data := .seq its.toArray n } := by
  obtain ⟨z, its, n, r, e⟩ := I.hok l _ hH
  exact ⟨z, its, n, r, r.length, e⟩

theorem notLongL {n : Nat} (h : n ≤ sizeLine) : Builtin.List.listTooLong n = false := by
  unfold Builtin.List.listTooLong
  exact decide_eq_false (by omega)
end

section
variable {X : Cx}

/-! ### methods -/
def rAppend : V → List V → Hp → VK → Prop := fun x vs H Q => ∃ l xs y, x = .ref l ∧ vs = [y] ∧ H l = some (.lst xs) ∧ xs.length < sizeLine ∧ Q .non (upd H l (.lst (xs ++ [y])))
theorem mt_append : MtM X "list.append" rAppend := by
  intro pins s σ H x vs v us Q I rx rv h
  obtain ⟨l, xs, y, rfl, rfl, hH, hz, q⟩ := h
  cases rx
  obtain ⟨u, rfl, ru⟩ := rv.one
  obtain ⟨z, its, n, r, hl, e⟩ := I.lstM hH
  refine call_meets F.slot_list_append ⟨_, e, rfl⟩ F.entry_list_append (F.args_list_append_2 _ _) (PySem.list_append l its.toArray n u (by rw [List.size_toArray]; omega)) ⟨e, ?_⟩
  refine ⟨.non, _, I.lset (its' := its ++ [u]) hH e (by simp) (r.append (.cons ru .nil)) ?_, rfl, q⟩
  rw [List.length_append, List.length_singleton]
  omega

def rExtend : V → List V → Hp → VK → Prop := fun x vs H Q => ∃ l b xs zs, x = .ref l ∧ vs = [.ref b] ∧ H l = some (.lst xs) ∧ H b = some (.lst zs) ∧ xs.length + zs.length ≤ sizeLine ∧ Q .non (upd H l (.lst (xs ++ zs)))
theorem mt_extend : MtM X "list.extend" rExtend := by
  intro pins s σ H x vs v us Q I rx rv h
  obtain ⟨l, b, xs, zs, rfl, rfl, hH, hB, hz, q⟩ := h
  cases rx
  obtain ⟨u, rfl, ru⟩ := rv.one
  cases ru
  obtain ⟨z, its, n, r, hl, e⟩ := I.lstM hH
  obtain ⟨z2, its2, n2, r2, hl2, e2⟩ := I.lstM hB
  have hsz : its.toArray.size + its2.toArray.size ≤ sizeLine := by rw [List.size_toArray, List.size_toArray]; omega
  have hlong : ¬ (!its.toArray.isEmpty && Builtin.List.listTooLong (its.toArray.size + its2.toArray.size)) = true := by
    rw [notLongL hsz, Bool.and_false]
    exact Bool.false_ne_true
  refine call_meets F.slot_list_extend ⟨_, e, rfl⟩ F.entry_list_extend (F.args_list_extend_2 _ _)
    (AutoSeq1.list_extend_list_list_0 l its.toArray n b its2.toArray n2 hlong (by rw [List.size_toArray]; omega) (by omega)) ⟨e, e2, ?_⟩
  refine ⟨.non, _, I.lset (its' := its ++ its2) hH e (by simp) (r.append r2) ?_, rfl, q⟩
  rw [List.length_append]
  omega




def rClear : V → List V → Hp → VK → Prop := fun x vs H Q => ∃ l xs, x = .ref l ∧ vs = [] ∧ H l = some (.lst xs) ∧ Q .non (upd H l (.lst []))
theorem mt_clear : MtM X "list.clear" rClear := by
  intro pins s σ H x vs v us Q I rx rv h
  obtain ⟨l, xs, rfl, rfl, hH, q⟩ := h
  cases rx
  have hus := rv.zero
  subst hus
  obtain ⟨z, its, n, r, hl, e⟩ := I.lstM hH
  refine call_meets F.slot_list_clear ⟨_, e, rfl⟩ F.entry_list_clear (F.args_list_clear_1 _) (AutoSeq1.list_clear_list_0 l its.toArray n (by rw [List.size_toArray]; omega)) ⟨e, ?_⟩
  exact ⟨.non, _, I.lset (its' := []) (ys := []) hH e rfl .nil (Nat.zero_le _), rfl, q⟩

/-! ### list + list, list += list, list * int -/
def rCat : R2 := fun x y H Q => ∃ l b xs zs, x = .ref l ∧ y = .ref b ∧ H l = some (.lst xs) ∧ H b = some (.lst zs) ∧ xs.length + zs.length ≤ sizeLine ∧ ∀ p, H p = none → Q (.ref p) (upd H p (.lst (xs ++ zs)))
theorem op_cat : OpR X (binaryOp .Add) rCat := by
  intro pins s σ H x y v u Q I rx ry h
  obtain ⟨l, b, xs, zs, rfl, rfl, hH, hB, hz, q⟩ := h
  cases rx
  cases ry
  obtain ⟨z, its, n, r, hl, e⟩ := I.lstM hH
  obtain ⟨z2, its2, n2, r2, hl2, e2⟩ := I.lstM hB
  refine PySem.P.add_list e e2 ?_ (by rw [List.size_toArray, List.size_toArray]; omega)
  have ea : its.toArray ++ its2.toArray = (its ++ its2).toArray := by simp
  rw [ea]
  exact ⟨.ref _, _, I.lnew (t' := s.toks) (r.append r2) (by rw [List.length_append]; omega), rfl, q _ I.fresh⟩

/-! ### del xs[i] -/
end

/-! ### xs[a:b] = ys -/
section
variable {prog : Program} {w : World} {A : Around} {E : Value → Shared → Prop} {s : Shared}
end

section
variable {X : Cx}
end
end L2

namespace L2
open PySem PySem.Spec PyProof.Rows

/-! ### lists of pairs as tables -/
section
variable {κ : Type} [DecidableEq κ]
def valV (kvs : List (κ × V)) (k : κ) : Option V := (kvs.find? fun kv => decide (kv.1 = k)).map (·.2)
/-- in its place, or at the end -/
def putK (kvs : List (κ × V)) (k : κ) (v : V) : List (κ × V) :=
  if (kvs.any fun kv => decide (kv.1 = k)) = true then kvs.map (fun kv => if kv.1 = k then (kv.1, v) else kv) else kvs ++ [(k, v)]

theorem valV_pos {p : κ × V} {r : List (κ × V)} {k : κ} (e : p.1 = k) : valV (p :: r) k = some p.2 := by simp [valV, List.find?_cons, e]
theorem valV_neg {p : κ × V} {r : List (κ × V)} {k : κ} (e : ¬ p.1 = k) : valV (p :: r) k = valV r k := by simp [valV, List.find?_cons, e]
theorem valV_any (k : κ) : ∀ kvs : List (κ × V), (kvs.any fun kv => decide (kv.1 = k)) = (valV kvs k).isSome
  | [] => rfl
  | p :: r => by
    rw [List.any_cons]
    by_cases e : p.1 = k
    · simp only [valV_pos e, decide_eq_true e, Bool.true_or, Option.isSome_some]
    · rw [valV_neg e, decide_eq_false e, Bool.false_or]; exact valV_any k r
theorem valV_map (k j : κ) (y : V) : ∀ kvs : List (κ × V), valV (kvs.map fun kv => if kv.1 = k then (kv.1, y) else kv) j = (valV kvs j).map fun x => if j = k then y else x
  | [] => rfl
  | p :: r => by
    have ih := valV_map k j y r
    rw [List.map_cons]
    by_cases h : p.1 = k
    · rw [if_pos h]
      by_cases e : p.1 = j
      · rw [valV_pos (p := (p.1, y)) e, valV_pos e, Option.map_some, if_pos (e.symm.trans h)]
      · rw [valV_neg (p := (p.1, y)) e, valV_neg e, ih]
    · rw [if_neg h]
      by_cases e : p.1 = j
      · rw [valV_pos (p := p) e, valV_pos e, Option.map_some, if_neg (fun z => h (e.trans z))]
      · rw [valV_neg (p := p) e, valV_neg e, ih]
theorem valV_snoc (k j : κ) (y : V) : ∀ kvs : List (κ × V), valV kvs k = none → valV (kvs ++ [(k, y)]) j = if j = k then some y else valV kvs j
  | [], _ => by
    by_cases e : k = j
    · rw [if_pos e.symm]; exact valV_pos (p := (k, y)) e
    · rw [if_neg (fun z => e z.symm)]; exact valV_neg (p := (k, y)) e
  | p :: r, hn => by
    rw [List.cons_append]
    have hk : ¬ p.1 = k := fun z => by rw [valV_pos z] at hn; cases hn
    rw [valV_neg hk] at hn
    have ih := valV_snoc k j y r hn
    by_cases e : p.1 = j
    · rw [valV_pos e, valV_pos e, if_neg (fun z => hk (e.trans z))]
    · rw [valV_neg e, valV_neg e, ih]
theorem valV_put (kvs : List (κ × V)) (k j : κ) (y : V) : valV (putK kvs k y) j = if j = k then some y else valV kvs j := by
  unfold putK
  by_cases a : (kvs.any fun kv => decide (kv.1 = k)) = true
  · rw [if_pos a, valV_map]
    rw [valV_any] at a
    by_cases e : j = k
    · obtain ⟨x, hx⟩ := Option.isSome_iff_exists.mp a
      rw [if_pos e, e, hx, Option.map_some, if_pos rfl]
    · rw [if_neg e]
      cases valV kvs j with
      | none => rfl
      | some x => rw [Option.map_some, if_neg e]
  · rw [if_neg a]
    refine valV_snoc k j y kvs ?_
    rw [valV_any] at a
    cases q : valV kvs k with
    | none => rfl
    | some x => rw [q] at a; exact (a rfl).elim
theorem length_putK (kvs : List (κ × V)) (k : κ) (v : V) : (putK kvs k v).length ≤ kvs.length + 1 := by
  unfold putK
  split
  · rw [List.length_map]; omega
  · rw [List.length_append, List.length_cons, List.length_nil]; omega
theorem putK_new {kvs : List (κ × V)} {k : κ} (v : V) (h : valV kvs k = none) : putK kvs k v = kvs ++ [(k, v)] := by
  unfold putK
  rw [valV_any, h]
  exact if_neg (by decide)

theorem RelO.isSome_eq {o : Option V} {u : Option Value} (r : RelO o u) : o.isSome = u.isSome := by
  cases o with
  | none => cases u with
    | none => rfl
    | some _ => exact (show False from r).elim
  | some _ => cases u with
    | none => exact (show False from r).elim
    | some _ => rfl
theorem RelO.getD {o : Option V} {u : Option Value} {d : V} {d' : Value} (r : RelO o u) (rd : RelV d d') : RelV (o.getD d) (u.getD d') := by
  cases o with
  | none => cases u with
    | none => exact rd
    | some _ => exact (show False from r).elim
  | some _ => cases u with
    | none => exact (show False from r).elim
    | some _ => exact r

/-- raw tables of the same keys -/
theorem KV.val {kvs : List (κ × V)} {vs : List (κ × Value)} (r : KV kvs vs) (k : κ) : RelO (valV kvs k) (valueAt vs k) := by
  unfold KV at r
  induction r with
  | nil => exact True.intro
  | @cons p q ps qs h t ih =>
    obtain ⟨h1, h2⟩ := h
    by_cases e : p.1 = k
    · have e' : q.1 = k := h1.symm.trans e
      have b : valueAt (q :: qs) k = some q.2 := by simp [valueAt, List.find?_cons, e']
      rw [valV_pos e, b]; exact h2
    · have e' : ¬ q.1 = k := fun z => e (h1.trans z)
      have b : valueAt (q :: qs) k = valueAt qs k := by simp [valueAt, List.find?_cons, e']
      rw [valV_neg e, b]; exact ih
theorem KV.any {kvs : List (κ × V)} {vs : List (κ × Value)} (r : KV kvs vs) (k : κ) : (kvs.any fun kv => decide (kv.1 = k)) = vs.any fun kv => decide (kv.1 = k) := by
  unfold KV at r
  induction r with
  | nil => rfl
  | cons h t ih => rw [List.any_cons, List.any_cons, ih, h.1]
theorem KV.repl {kvs : List (κ × V)} {vs : List (κ × Value)} (r : KV kvs vs) (k : κ) {y : V} {u : Value} (ry : RelV y u) :
    KV (kvs.map fun kv => if kv.1 = k then (kv.1, y) else kv) (vs.map fun kv => if kv.1 = k then (kv.1, u) else kv) := by
  unfold KV at r ⊢
  induction r with
  | nil => exact .nil
  | @cons p q ps qs h t ih =>
    rw [List.map_cons, List.map_cons]
    refine .cons ?_ ih
    obtain ⟨h1, h2⟩ := h
    by_cases e : p.1 = k
    · rw [if_pos e, if_pos (h1.symm.trans e)]; exact ⟨h1, ry⟩
    · rw [if_neg e, if_neg (fun z => e (h1.trans z))]; exact ⟨h1, h2⟩
theorem KV.put {kvs : List (κ × V)} {vs : List (κ × Value)} (r : KV kvs vs) (k : κ) {y : V} {u : Value} (ry : RelV y u) : KV (putK kvs k y) (stored vs k u) := by
  unfold putK stored
  rw [r.any k]
  by_cases e : (vs.any fun kv => decide (kv.1 = k)) = true
  · rw [if_pos e, if_pos e]; exact r.repl k ry
  · rw [if_neg e, if_neg e]; exact Paired.snoc r ⟨rfl, ry⟩
theorem KV.keys {kvs : List (κ × V)} {vs : List (κ × Value)} (r : KV kvs vs) : kvs.map (·.1) = vs.map (·.1) := by
  unfold KV at r
  induction r with
  | nil => rfl
  | cons h t ih => rw [List.map_cons, List.map_cons, ih, h.1]
theorem KV.length {kvs : List (κ × V)} {vs : List (κ × Value)} (r : KV kvs vs) : kvs.length = vs.length := Paired.length r
end


/-! ### a tracked dict, its keys ints and texts or tuples of these -/
theorem kV_is {P : Program} {w : World} {k : Key} {u : Value} (r : RelV (kV k) u) : (mixKind P w).is k u = true := by
  cases k with
  | inl i => obtain ⟨t, e⟩ := (show ∃ t, u = Value.int i t from r); subst e; exact mixKind_int P w i t
  | inr x => obtain ⟨t, e⟩ := (show ∃ t, u = Value.str x t from r); subst e; exact mixKind_str P w x t
theorem items_are {P : Program} {w : World} : ∀ {ks : List Key} {us : List Value}, Vals (ks.map kV) us → ItemsAre (mixKind P w) ks us
  | [], _, r => by rw [List.map_nil] at r; cases r; exact .nil
  | k :: ks, _, r => by
    rw [List.map_cons] at r
    cases r with
    | cons h t => exact .cons (kV_is h) (items_are t)

/-- raw entries of a dict with tuple keys -/
abbrev KT (H : Hp) : List (List Key × V) → List (List Key × Addr × Value) → Prop := Paired fun p q => p.1 = q.1 ∧ H q.2.1 = some (.tup (p.1.map kV)) ∧ RelV p.2 q.2.2
theorem KT.val {H : Hp} {kvs : List (List Key × V)} {xs : List (List Key × Addr × Value)} (r : KT H kvs xs) (k : List Key) : RelO (valV kvs k) ((atKey xs k).map (·.2)) := by
  induction r with
  | nil => exact True.intro
  | @cons p q ps qs h t ih =>
    obtain ⟨h1, _, h2⟩ := h
    by_cases e : p.1 = k
    · have e' : q.1 = k := h1.symm.trans e
      have b : atKey (q :: qs) k = some q.2 := by simp [atKey, List.find?_cons, e']
      rw [valV_pos e, b]; exact h2
    · have e' : ¬ q.1 = k := fun z => e (h1.trans z)
      have b : atKey (q :: qs) k = atKey qs k := by simp [atKey, List.find?_cons, e']
      rw [valV_neg e, b]; exact ih
theorem KT.repl {H : Hp} {kvs : List (List Key × V)} {xs : List (List Key × Addr × Value)} (r : KT H kvs xs) (k : List Key) {y : V} {u : Value} (ry : RelV y u) :
    KT H (kvs.map fun kv => if kv.1 = k then (kv.1, y) else kv) (xs.map (putAt k u)) := by
  induction r with
  | nil => exact .nil
  | @cons p q ps qs h t ih =>
    rw [List.map_cons, List.map_cons]
    refine .cons ?_ ih
    obtain ⟨h1, h2, h3⟩ := h
    unfold putAt
    by_cases e : p.1 = k
    · rw [if_pos e, if_pos (h1.symm.trans e)]; exact ⟨h1, h2, ry⟩
    · rw [if_neg e, if_neg (fun z => e (h1.trans z))]; exact ⟨h1, h2, h3⟩
theorem KT.put {H : Hp} {kvs : List (List Key × V)} {xs : List (List Key × Addr × Value)} (r : KT H kvs xs) (k : List Key) {b : Addr} {y : V} {u : Value} (hb : H b = some (.tup (k.map kV))) (ry : RelV y u) :
    KT H (putK kvs k y) (storedH xs k b u) := by
  have e : (kvs.any fun kv => decide (kv.1 = k)) = (atKey xs k).isSome := by
    rw [valV_any, (r.val k).isSome_eq, Option.isSome_map]
  unfold putK storedH
  rw [e]
  by_cases q : (atKey xs k).isSome = true
  · rw [if_pos q, if_pos q]; exact r.repl k ry
  · rw [if_neg q, if_neg q]; exact Paired.snoc r ⟨rfl, hb, ry⟩
theorem KT.keeps {H H' : Hp} {kvs : List (List Key × V)} {xs : List (List Key × Addr × Value)} (r : KT H kvs xs) (ht : ∀ b ys, H b = some (.tup ys) → H' b = some (.tup ys)) : KT H' kvs xs :=
  Paired.mapP r fun _ _ z => ⟨z.1, ht _ _ z.2.1, z.2.2⟩

section
variable {P : Program} {w : World} {H : Hp} {h : Heap} {a : Addr}
theorem rd_of {u : HO} (ok : HOk P w H h) (e : Rd H a u) : ObjOk P w H h a u := e.ok ok
theorem dk_rd {kvs : List (Key × V)} (ok : HOk P w H h) (e : Rd H a (.dK kvs)) : kvs.length ≤ sizeLine ∧ (a == sysModules) = false ∧ ∃ vs, KV kvs vs ∧ h.DictOf (mixKind P w) a vs :=
  show ObjOk P w H h a (.dK kvs) from rd_of ok e
theorem dk_of {kvs : List (Key × V)} (ok : HOk P w H h) (e : H a = some (.dK kvs)) : kvs.length ≤ sizeLine ∧ (a == sysModules) = false ∧ ∃ vs, KV kvs vs ∧ h.DictOf (mixKind P w) a vs := dk_rd ok (.inl e)
/-- a tracked tuple of ints and texts is a key -/
theorem key_of {ks : List Key} (ok : HOk P w H h) (e : H a = some (.tup (ks.map kV))) : (tupleKind (mixKind P w)).is h ks a := by
  obtain ⟨_, its, r, o, h1, h2, n, h3⟩ := (show ObjOk P w H h a (.tup (ks.map kV)) from ok a _ e)
  exact ⟨o, its.toArray, n, h1, h2, h3, by simpa using items_are r⟩
theorem dt_rd {kvs : List (List Key × V)} (ok : HOk P w H h) (e : Rd H a (.dT kvs)) : kvs.length ≤ sizeLine ∧ (a == sysModules) = false ∧
    ∃ xs, KT H kvs xs ∧ h.DictOfH (tupleKind (mixKind P w)) a xs := by
  obtain ⟨z, y, xs, r, o, es, ep, h1, h2, h3, h4, h5⟩ := (show ObjOk P w H h a (.dT kvs) from rd_of ok e)
  refine ⟨z, y, xs, r, o, es, ep, h1, h2, h3, h4, fun x hx => ?_, h5⟩
  have all : ∀ {l : List (List Key × V)} {m : List (List Key × Addr × Value)}, KT H l m → ∀ x ∈ m, (tupleKind (mixKind P w)).is h x.1 x.2.1 := by
    intro l m q
    induction q with
    | nil => intro x hx; exact nomatch hx
    | @cons p q ps qs hq t ih =>
      intro x hx
      rcases List.mem_cons.mp hx with e | hx
      · subst e
        exact key_of ok (by rw [← hq.1]; exact hq.2.1)
      · exact ih x hx
  exact all r x hx
theorem dt_of {kvs : List (List Key × V)} (ok : HOk P w H h) (e : H a = some (.dT kvs)) : kvs.length ≤ sizeLine ∧ (a == sysModules) = false ∧
    ∃ xs, KT H kvs xs ∧ h.DictOfH (tupleKind (mixKind P w)) a xs := dt_rd ok (.inl e)
end

/-- what the dict at a holds at the key y -/
def DGet (H : Hp) (a : Addr) (y : V) (r : Option V) : Prop :=
  (∃ kvs k, Rd H a (.dK kvs) ∧ y = kV k ∧ r = valV kvs k) ∨ ∃ kvs k b, Rd H a (.dT kvs) ∧ y = .ref b ∧ H b = some (.tup (k.map kV)) ∧ r = valV kvs k
/-- the heap behind a[y] = v -/
def DPut (H : Hp) (a : Addr) (y v : V) (H' : Hp) : Prop :=
  (∃ kvs k, H a = some (.dK kvs) ∧ y = kV k ∧ kvs.length < sizeLine ∧ H' = upd H a (.dK (putK kvs k v))) ∨
  ∃ kvs k b, H a = some (.dT kvs) ∧ y = .ref b ∧ H b = some (.tup (k.map kV)) ∧ kvs.length < sizeLine ∧ H' = upd H a (.dT (putK kvs k v))
theorem DGet.k {H : Hp} {a : Addr} {kvs : List (Key × V)} {k : Key} (e : H a = some (.dK kvs)) : DGet H a (kV k) (valV kvs k) := .inl ⟨kvs, k, .inl e, rfl, rfl⟩
theorem DGet.t {H : Hp} {a b : Addr} {kvs : List (List Key × V)} {k : List Key} (e : H a = some (.dT kvs)) (eb : H b = some (.tup (k.map kV))) : DGet H a (.ref b) (valV kvs k) := .inr ⟨kvs, k, b, .inl e, rfl, eb, rfl⟩
theorem DPut.k {H : Hp} {a : Addr} {kvs : List (Key × V)} {k : Key} {v : V} (e : H a = some (.dK kvs)) (hl : kvs.length < sizeLine) : DPut H a (kV k) v (upd H a (.dK (putK kvs k v))) := .inl ⟨kvs, k, e, rfl, hl, rfl⟩


section
variable {X : Cx} {pins : List (Addr × Obj)} {σ : St} {H : Hp} {s : Shared} {a : Addr} {y v : V} {u r : Value} {o : Option V} {A : Around} {E : Value → Shared → Prop}

theorem Inv.big (I : Inv X pins σ H s) : sysModules < s.heap.objs.size := by
  have h : mainGlobals < s.heap.objs.size := (I.mod.glob.keeps I.bk).lt
  exact Nat.lt_trans (by decide) h

/-- y in d -/
theorem d_in {Q : Value → Shared → Prop} (hu : A.units + 1 < cLine) (I : Inv X pins σ H s) (g : DGet H a y o) (ry : RelV y u) (h : ∀ s', Inv X pins σ H s' → Q (.bool o.isSome) s') :
    wpAny (model X.prog X.w) A (compareOp .In u (.ref a)) Q E s := by
  rcases g with ⟨kvs, k, e, ey, l⟩ | ⟨kvs, k, b, e, ey, eb, l⟩
  · subst ey
    obtain ⟨z, hd, vs, rel, dd⟩ := dk_rd I.hok e
    refine wpAny_in_of (kV_is ry) hd dd.mapOf ?_
    rw [← (rel.val k).isSome_eq, ← l]
    exact h _ (I.tok _)
  · subst ey
    cases (show u = Value.ref b from ry)
    obtain ⟨z, hd, xs, rel, dd⟩ := dt_rd I.hok e
    refine wpAny_in_heap (tupleKind_room_in1 hu) (key_of I.hok eb) hd dd ?_
    have q := (rel.val k).isSome_eq
    rw [Option.isSome_map] at q
    rw [← q, ← l]
    exact h _ (I.tok _)
theorem d_notIn {Q : Value → Shared → Prop} (hu : A.units + 1 < cLine) (I : Inv X pins σ H s) (g : DGet H a y o) (ry : RelV y u) (h : ∀ s', Inv X pins σ H s' → Q (.bool (!o.isSome)) s') :
    wpAny (model X.prog X.w) A (compareOp .NotIn u (.ref a)) Q E s := by
  rcases g with ⟨kvs, k, e, ey, l⟩ | ⟨kvs, k, b, e, ey, eb, l⟩
  · subst ey
    obtain ⟨z, hd, vs, rel, dd⟩ := dk_rd I.hok e
    refine wpAny_notIn_of (kV_is ry) hd dd.mapOf ?_
    rw [← (rel.val k).isSome_eq, ← l]
    exact h _ (I.tok _)
  · subst ey
    cases (show u = Value.ref b from ry)
    obtain ⟨z, hd, xs, rel, dd⟩ := dt_rd I.hok e
    refine wpAny_notIn_heap (tupleKind_room_in1 hu) (key_of I.hok eb) hd dd ?_
    have q := (rel.val k).isSome_eq
    rw [Option.isSome_map] at q
    rw [← q, ← l]
    exact h _ (I.tok _)
/-- a dict's object is replaced -/
theorem d_write {h' : Heap} {t' : Nat} {ob : HO} (I : Inv X pins σ H s) (mu : Mut (H a)) (hs : Heap.SameBut a s.heap h') (he : ∃ q, h'.get? a = some q) (new : ObjOk X.prog X.w (upd H a ob) h' a ob) :
    Inv X pins σ (upd H a ob) { s with heap := h', toks := t' } :=
  I.write (x := a) (e := a) mu (.inl rfl) (fun b q hb z => (hs.2 b hb).trans z) he new
theorem dk_new {P : Program} {w : World} {H' : Hp} {h' : Heap} {kvs : List (Key × V)} {vs : List (Key × Value)} (z : kvs.length ≤ sizeLine) (hd : (a == sysModules) = false) (rel : KV kvs vs) (dd : h'.DictOf (mixKind P w) a vs) :
    ObjOk P w H' h' a (.dK kvs) := ⟨z, hd, vs, rel, dd⟩
/-- d[y] = v -/
theorem d_setItem {H' : Hp} {Q : Unit → Shared → Prop} (hu : A.units + 1 < cLine) (I : Inv X pins σ H s) (g : DPut H a y v H') (ry : RelV y u) (rv : RelV v r) (h : ∀ s', Inv X pins σ H' s' → Q () s') :
    wpAny (model X.prog X.w) A (setItem (.ref a) u r) Q E s := by
  rcases g with ⟨kvs, k, e, ey, l, eH⟩ | ⟨kvs, k, b, e, ey, eb, l, eH⟩
  · subst ey eH
    obtain ⟨z, hd, vs, rel, dd⟩ := dk_of I.hok e
    have hz : vs.length ≤ sizeLine := by rw [← rel.length]; exact z
    have hl : (putK kvs k v).length ≤ sizeLine := by have := length_putK kvs k v; omega
    refine wpAny_setItem_pairs (hsz := hz) (kV_is ry) dd fun h' dd' hs => h _ ?_
    have he : ∃ q, h'.get? a = some q := let ⟨q, _, _, hq, _⟩ := dd'; ⟨q, hq⟩
    exact d_write I (by rw [e]; exact True.intro) hs he (dk_new hl hd (rel.put k rv) dd')
  · subst ey eH
    cases (show u = Value.ref b from ry)
    obtain ⟨z, hd, xs, rel, dd⟩ := dt_of I.hok e
    have hz : xs.length ≤ sizeLine := by rw [← Paired.length rel]; exact z
    have hl : (putK kvs k v).length ≤ sizeLine := by have := length_putK kvs k v; omega
    refine wpAny_setItem_heap (hsz := hz) (tupleKind_room_in1 hu) (key_of I.hok eb) dd fun h' dd' hs => h _ ?_
    obtain ⟨q, es, ep, hq, h2, h3, h4, _, h5⟩ := dd'
    refine d_write I (by rw [e]; exact True.intro) hs ⟨q, hq⟩ ⟨hl, hd, _, (rel.put k eb rv).keeps fun c ys ec => ?_, q, es, ep, hq, h2, h3, h4, h5⟩
    rw [upd_ne (ne_of ec e (fun z => nomatch z))]
    exact ec
end

section
variable {X : Cx} {pins : List (Addr × Obj)} {σ : St} {H : Hp} {s : Shared} {a : Addr} {kvs : List (Key × V)} {k : Key} {u : Value} {A : Around} {E : Value → Shared → Prop}
end


/-! ### readings and rules -/



section
variable {X : Cx} {o i e value : Expr} {pos pos' tpos : Pos} {td ty tv : TE}
end


/-! ### displays -/
theorem dk_empty {P : Program} {w : World} {H : Hp} (h : Heap) (hb : sysModules < h.objs.size) : ObjOk P w H (h.push { cls := .type "dict", data := .dict #[] }) h.objs.size (.dK []) :=
  ⟨Nat.zero_le _, beq_eq_false_iff_ne.mpr (Ne.symm (Nat.ne_of_lt hb)), [], .nil, Heap.DictOf.new h⟩
theorem dt_empty {P : Program} {w : World} {H : Hp} (h : Heap) (hb : sysModules < h.objs.size) : ObjOk P w H (h.push { cls := .type "dict", data := .dict #[] }) h.objs.size (.dT []) :=
  ⟨Nat.zero_le _, beq_eq_false_iff_ne.mpr (Ne.symm (Nat.ne_of_lt hb)), [], .nil, _, #[], 0, Heap.get?_push_size _ rfl, ⟨rfl, rfl, rfl⟩, rfl, rfl, List.nodup_nil⟩
/-- {}, to be a dict of the kind that is wanted -/
def tDNewK : TE := fun _ H Q => ∀ p, H p = none → Q (.ref p) (upd H p (.dK []))
section
variable {X : Cx} {pos : Pos}
theorem pe_dnewK : PE X (.Dict [] [] pos) tDNewK := fun pins s σ H Q I h =>
  wpAny_Dict_empty ⟨.ref s.heap.objs.size, _, I.laid (a := s.heap.objs.size) (o := .dK []) (t' := s.toks) (fun _ _ q => Heap.get?_push_of_some _ q) (Nat.le_refl _) (dk_empty s.heap I.big), rfl, h _ (I.hok.fresh (Nat.le_refl _))⟩
end




/-! ### methods -/


section
variable {X : Cx} {pins : List (Addr × Obj)} {σ : St} {H : Hp} {s : Shared} {a : Addr} {y d : V} {u r : Value} {o : Option V} {A : Around} {E : Value → Shared → Prop}
/-- d.get(y, x) -/
theorem d_get2 {Q : Value → Shared → Prop} (hu : A.units + 1 < cLine) (I : Inv X pins σ H s) (g : DGet H a y o) (ry : RelV y u) (rd : RelV d r) (h : ∀ w' s', Inv X pins σ H s' → RelV (o.getD d) w' → Q w' s') :
    wpAny (model X.prog X.w) A (call (.builtin "dict.get") [.ref a, u, r]) Q E s := by
  rcases g with ⟨kvs, k, e, ey, l⟩ | ⟨kvs, k, b, e, ey, eb, l⟩
  · subst ey
    obtain ⟨z, hd, vs, rel, dd⟩ := dk_rd I.hok e
    refine call_meetsIn PySem.F.slot_dict_get dd.typeIs PySem.F.entry_dict_get (PySem.F.args_dict_get_3 _ _ _) (meets_dict_get_default (mixKind X.prog X.w) a (kV_is ry) hd r) ⟨_, dd.mapOf, h _ _ (I.tok _) ?_⟩
    rw [l]
    exact (rel.val k).getD rd
  · subst ey
    cases (show u = Value.ref b from ry)
    obtain ⟨z, hd, xs, rel, dd⟩ := dt_rd I.hok e
    refine call_meetsIn PySem.F.slot_dict_get dd.typeIs PySem.F.entry_dict_get (PySem.F.args_dict_get_3 _ _ _) (meetsH_dict_get_default (tupleKind (mixKind X.prog X.w)) a b hd r) ⟨tupleKind_room_in1 hu, k, xs, key_of I.hok eb, dd, h _ _ (I.tok _) ?_⟩
    rw [l]
    exact (rel.val k).getD rd
end

section
variable {X : Cx} {o e f : Expr} {apos cpos : Pos} {td ty tx : TE}
end

/-! ### dict(d): a copy -/
section
variable {X : Cx} {pins : List (Addr × Obj)} {σ : St} {H : Hp} {s : Shared} {a : Addr} {kvs : List (Key × V)} {A : Around} {E : Value → Shared → Prop}
end


section
variable {X : Cx} {pins : List (Addr × Obj)} {σ : St} {H : Hp} {s : Shared} {a : Addr} {y : V} {u : Value} {A : Around} {E : Value → Shared → Prop}
end
end L2

namespace Att
open PySem PySem.W PySem.Calls PyProof.Rows

/-! ### the script -/
theorem ints_of_wellAll {P : Params} {h : Heap} : ∀ (ns : List Int) (vs : List Value), WellAll P h vs (ns.map WData.int) → IntsAre vs ns := by
  intro ns
  induction ns with
  | nil =>
    intro vs w
    rw [List.map_nil] at w
    cases w
    exact .nil
  | cons n ns ih =>
    intro vs w
    rw [List.map_cons] at w
    cases w with
    | cons a b =>
      cases a
      exact .cons _ _ (ih _ b)

theorem script_of {l : OpenLaw} {n : Nat} (hn : l.most = some n) {P : Params} {h : Heap} {args : List WData} {vals : List Value}
    (hpre : l.row.toRowW.claim.pre args = true) (hwl : WellAll P h vals args) :
    ∃ a vs ns, vals = [Value.ref a] ∧ args = [WData.list (ns.map WData.int)] ∧ h.get? a = some { cls := .type "list", data := .seq vs.toArray } ∧ IntsAre vs ns ∧ ns.length ≤ n := by
  have hsh : WShape.hasAll [] args [.list .int] = true := (pre_splitW hpre).1
  have hc : l.pre.holds [] { args := args } = true := (pre_splitW hpre).2
  obtain ⟨d, r, rfl, h1, h2⟩ := hasAllW_cons hsh
  obtain rfl := hasAllW_nil h2
  obtain ⟨xs, rfl, h3⟩ := hasW_list h1
  obtain ⟨ns, rfl⟩ := items_int h3
  have hlen : ns.length ≤ n := by
    unfold OpenLaw.pre at hc
    have h4 : (WTm.not (.lt (.lit (.int (n : Int))) (.len (.arg 0)))).holds [] { args := [.list (ns.map .int)] } = true := by
      have h4 := (holds_andW hc).1
      rw [hn] at h4
      exact h4
    have h5 := condW_of h4 (w_not (w_lt w_lit (w_len_list (w_arg rfl))))
    rw [List.length_map] at h5
    refine Nat.le_of_not_lt fun q => ?_
    have q' : (n : Int) < ((ns.length : Nat) : Int) := by omega
    first
      | (rw [decide_eq_true q'] at h5; exact absurd h5 (by decide))
      | (simp at h5; omega)
  cases hwl with
  | cons w1 w2 =>
    cases w2
    cases w1 with
    | list ho hall => exact ⟨_, _, ns, rfl, rfl, ho, ints_of_wellAll ns _ hall, hlen⟩

theorem post_true (l : OpenLaw) (args : List WData) : l.row.toRowW.claim.post args (.bool true) args = true :=
  postW_of (r := l.row.toRowW) (X := (true == true))
    (show WShape.has [] (.bool true) .bool = true by first | rfl | decide | simp [WShape.has, WShape.arms, WShape.armsAll])
    (show (WTm.eq .res (.lit (.bool true))).value [] { args := args, res := some (.bool true), after := args } = some (.bool (true == true)) from w_eq_bool (w_res rfl) w_lit) rfl

/-! ### the attachment: holds_open's last premise (the goal 'hc' behind k_head) from a wpAny of the law's body -/

/-- the same from a codeAny of the CALL (for a layer whose function contracts speak of calls) -/
theorem attach_call {l : OpenLaw} {n : Nat} {q : Program} {loose : List Str} {XP : (Str → Option Value) → Heap → Prop} {YP : World → Heap → Prop} {d : DefRec}
    (hn : l.most = some n) (hdf : d.params.defaults = [])
    (call : ∀ (w : World) (s₀ s₁ : Shared) (mg mb : Str → Option Value) (fa : Addr) (o : Obj) (pm cd doc : Value) (a : Addr) (vs : List Value) (ns : List Int),
      Ground q loose [] XP w s₀ mg mb s₁.heap → YP w s₁.heap →
      s₁.heap.get? fa = some o → o.data = .func (docDef d.name d.params d.body d.scope pm cd doc) → s₁.heap.CodeRec cd d.name → mg d.name = some (.ref fa) →
      s₁.heap.get? a = some { cls := .type "list", data := .seq vs.toArray } → IntsAre vs ns → ns.length ≤ n → s₁.gens = #[] →
      codeAny (model l.prog w) callerA (.call (.ref fa) ⟨[.ref a], []⟩) (fun r s' => r = .ok (.ret (.bool true)) ∧ OldK s₁.heap s'.heap ∧ s'.os = s₁.os ∧ AllBare s'.gens) s₁) :
    WalkO q loose XP YP l.row.toRowW d [] (fun f vs => PySem.call f vs) := by
  intro w s₀ s₁ mg mb G Y fa o pm cd doc dV kV ho hd hcd hD hmg hg args vals as hpre hlay hrd hwl hlo
  obtain rfl : dV = .none := Dflts.none hD hdf
  obtain rfl : kV = .none := Dflts.noKw hD
  obtain ⟨a, vs, ns, rfl, rfl, hobj, hints, hlen⟩ := script_of hn hpre hwl
  refine enter_call (codeAny_mono (call w s₀ s₁ mg mb fa o pm cd doc a vs ns G Y ho (fd_plain hd) hcd hmg hobj hints hlen hg) fun r s' hq => ?_)
  obtain ⟨rfl, h2, h3, h4⟩ := hq
  exact ⟨.inl ⟨.bool true, .bool true, [], rfl, fun _ => rfl, .bool true, post_true l _, fun _ => ⟨List.Pairwise.nil, fun _ hm => (nomatch hm)⟩⟩, h2, h3, h4⟩


/-! ### rules over ANY heap (no ledger) from facts about the written part K: the library's own take a ledger (News) for what they write -/
section
variable {prog : Program} {w : World} {A : Around} {E : Value → Shared → Prop} {s : Shared} {K : Frag}





/-! the whole heap as the ledger: makes every rule that writes through a ledger a rule over any heap -/

end
end Att

namespace L2
open PySem PySem.Spec PyProof.Rows

theorem vals_ints : ∀ {vs : List Value} {ns : List Int}, IntsAre vs ns → Vals (ns.map V.int) vs
  | _, _, .nil => .nil
  | _, _, .cons n t h => .cons ⟨t, rfl⟩ (vals_ints h)

/-- nothing is tracked but the script, known to the object (or it is an object of the module) -/
def Only (H : Hp) : Prop := ∀ b, H b = none ∨ ∃ o xs, H b = some (.frz o (.lst xs))

/-- THE HEAD: the law's promise, at the heap behind the top. F, the promise of the law's def, may use that base is part of the heap (so K.In base, base.Ns mainGlobals mg stand in Mod) -/
theorem law_call {P : Program} {w : World} {K : PySem.W.Frag} {mg mb : Str → Option Value} {CX : CXT} {k : Nat} {fa a : Addr} {fd : FuncData} {x : Str} {sp : Sp} {s₁ : Shared} {vs : List Value} {ns : List Int}
    (KX : K.In s₁.heap) (hns : s₁.heap.Ns mainGlobals mg) (hb : s₁.heap.Ns builtinsNs mb) (hbb : ∀ x : Str, x ≠ "__name__" → mb x = bootBuiltins x) (hlim : s₁.heap.NoLimit) (hg : s₁.gens = #[])
    (ha : s₁.heap.get? a = some { cls := .type "list", data := .seq vs.toArray }) (hi : IntsAre vs ns) (hl : ns.length ≤ sizeLine) (hr : Room k callerA)
    (F : ∀ base : Heap, K.In base → base.Ns mainGlobals mg → FnOk P w K mg base CX k fa fd [x] sp) (hbind : ∀ (s : Shared) (u : Value), BindsTo s fd ⟨[u], []⟩ [(x, u)])
    (hsp : ∀ H : Hp, Only H → SqL K H a (ns.map V.int) → sp [.ref a] H (fun v _ => v = .bl true) fun _ _ _ => False)
    (hCX : ∀ H e s', CX [] H s₁ (fun _ _ _ => False) e s' → False) :
    codeAny (model P w) callerA (.call (.ref fa) ⟨[.ref a], []⟩) (fun r s' => r = .ok (.ret (.bool true)) ∧ OldK s₁.heap s'.heap ∧ s'.os = s₁.os ∧ AllBare s'.gens) s₁ := by
  have rv := vals_ints hi
  have lenV := hi.length
  -- from an abstract heap in which nothing but the script may be tracked
  have core : ∀ H : Hp, Only H → SqL K H a (ns.map V.int) → HOk P w H s₁.heap → (∀ b, H b ≠ none → b = a) → (H a ≠ none → K.lookup a = none) →
      codeAny (model P w) callerA (.call (.ref fa) ⟨[.ref a], []⟩) (fun r s' => r = .ok (.ret (.bool true)) ∧ OldK s₁.heap s'.heap ∧ s'.os = s₁.os ∧ AllBare s'.gens) s₁ := by
    intro H hO hS hok hA hK
    have base_of : ∀ {b : Addr} {o : Obj}, s₁.heap.get? b = some o → H b = none → (hidT s₁.heap H).get? b = some o := fun e n => hidT_get e n
    have noA : ∀ {b : Addr} {o : Obj} {es : Array DictEntry} {ep : Nat}, s₁.heap.get? b = some o → o.data = .dict es ep → H b = none := fun {b o es ep} e d => by
      cases q : H b with
      | none => rfl
      | some u =>
        have e' : b = a := hA b (by rw [q]; simp)
        subst e'
        rw [ha] at e; cases e
        have d' : Data.seq vs.toArray _ = Data.dict es ep := d
        cases d'
    have nsK : ∀ {b : Addr} {m : Str → Option Value}, s₁.heap.Ns b m → (hidT s₁.heap H).Ns b m := fun {b m} ⟨o, es, ep, e, d, r⟩ => ⟨o, es, ep, base_of e (noA e d), d, r⟩
    have hKb : K.In (hidT s₁.heap H) := fun b o e => base_of (KX b o e) (by
      cases q : H b with
      | none => rfl
      | some u =>
        have e' : b = a := hA b (by rw [q]; simp)
        subst e'
        rw [hK (by rw [q]; simp)] at e; cases e)
    have hM : Mod K mg (hidT s₁.heap H) := ⟨hKb, nsK hns, ⟨mb, nsK hb, hbb⟩, let ⟨mc, h1, h2⟩ := hlim; ⟨mc, nsK h1, h2⟩⟩
    have e0 : Env0 P w K mg (hidT s₁.heap H) callerA [] s₁ H := ⟨rfl, hM, fun b o e => of_hidT e, Nat.le_of_eq (hidT_size _ _), trivial, fun b hb => absurd (show b ∈ ([] : List Addr) from hb) (by simp), hok, .of_eq hg⟩
    refine codeAny_mono ((F _ hKb (nsK hns)).run callerA [] s₁ H ⟨[.ref a], []⟩ [.ref a] [.ref a] _ _ hr e0 (hbind s₁ (.ref a)) (.cons rfl .nil) (hsp H hO hS)) fun r s' h => ?_
    cases r with
    | error e => exact (hCX H e s' h).elim
    | ok fl =>
      cases fl with
      | next => exact False.elim h
      | brk => exact False.elim h
      | cont => exact False.elim h
      | ret u =>
        obtain ⟨v, H', os, bare, un, hok', r', q⟩ := h
        have q' : v = .bl true := q
        subst q'
        obtain rfl : u = Value.bool true := r'
        refine ⟨rfl, OldK.of_keep fun b o e => ?_, os, bare⟩
        cases q : H b with
        | none => exact un.keep b o e q (by intro z; exact absurd (show b ∈ ([] : List Addr) from z) (by simp)) (by simp)
        | some u =>
          rcases hO b with z | ⟨ob, xs, z⟩
          · rw [q] at z; cases z
          · have z2 := un.frzs b ob _ z
            obtain ⟨e1, _⟩ := hok b _ z
            obtain ⟨e2, _⟩ := hok' b _ z2
            rw [e] at e1; cases e1
            exact e2
  cases hk : K.lookup a with
  | some o =>
    -- the script is one of the module's own objects
    have e := KX a o hk
    rw [ha] at e
    cases e
    refine core (fun _ => none) (fun _ => .inl rfl) (.inr ⟨_, vs.toArray, _, hk, rfl, rfl, rfl, by rw [List.size_toArray, lenV]; exact hl, by simpa using rv⟩) (fun b u z => by have z' : (none : Option HO) = some u := z; cases z') (fun b z => absurd rfl z) fun z => absurd rfl z
  | none =>
    refine core (fun b => if b = a then some (.frz { cls := .type "list", data := .seq vs.toArray } (.lst (ns.map V.int))) else none) (fun b => ?_) (.inl (.inr ⟨{ cls := .type "list", data := .seq vs.toArray }, if_pos rfl⟩)) (fun b u z => ?_) (fun b z => ?_) fun _ => hk
    · by_cases hb : b = a
      · exact .inr ⟨_, _, if_pos hb⟩
      · exact .inl (if_neg hb)
    · by_cases hb : b = a
      · have z' := (if_pos hb).symm.trans z
        cases z'
        subst hb
        exact ⟨ha, by rw [List.length_map]; exact hl, vs, _, rv, ha⟩
      · have z' := (if_neg hb).symm.trans z
        cases z'
    · by_cases hb : b = a
      · exact hb
      · exact absurd (if_neg hb) z
end L2

namespace L2
open PySem PySem.Spec PyProof.Rows


/-- the goal that k_head leaves (case hc), from the law's promise. F gives the function object fd (K's own) once, then the promise over every base -/
theorem walk_of {l : PySem.W.OpenLaw} {n k : Nat} {q : Program} {loose : List Str} {XP : (Str → Option Value) → Heap → Prop} {YP : World → Heap → Prop} {d : DefRec} {K : Params → PySem.W.Frag} {CX : World → CXT} {sp : World → Sp} {x : Str}
    (hn : l.most = some n) (hn2 : n ≤ sizeLine) (hdf : d.params.defaults = []) (hr : Room k callerA)
    (hY : ∀ (w : World) (h : Heap), YP w h → (K w.params).In h)
    (F : ∀ (w : World) (mg : Str → Option Value) (fa : Addr) (h : Heap), (K w.params).In h → h.Ns mainGlobals mg → mg d.name = some (.ref fa) →
      ∃ fd : FuncData, (∀ (s : Shared) (u : Value), BindsTo s fd ⟨[u], []⟩ [(x, u)]) ∧
        ∀ base : Heap, (K w.params).In base → base.Ns mainGlobals mg → FnOk l.prog w (K w.params) mg base (CX w) k fa fd [x] (sp w))
    (hsp : ∀ (w : World) (H : Hp) (a : Addr) (ns : List Int), ns.length ≤ n → Only H → SqL (K w.params) H a (ns.map V.int) → sp w [.ref a] H (fun v _ => v = .bl true) fun _ _ _ => False)
    (hCX : ∀ (w : World) (H : Hp) (s : Shared) (e : Value) (s' : Shared), CX w [] H s (fun _ _ _ => False) e s' → False) :
    PySem.W.WalkO q loose XP YP l.row.toRowW d [] (fun f vs => PySem.call f vs) := by
  refine Att.attach_call hn hdf fun w s₀ s₁ mg mb fa o pm cd doc a vs ns G Y ho hd hcd hmg hobj hints hlen hg => ?_
  have KX := hY w _ Y
  obtain ⟨fd, hb, hF⟩ := F w mg fa _ KX G.T.g hmg
  exact law_call KX G.T.g G.T.b G.T.builtins G.T.nolimit hg hobj hints (Nat.le_trans hlen hn2) hr hF hb (fun H hO hS => hsp w H a ns hlen hO hS) fun H e s' => hCX w H s₁ e s'
end L2

/- THE LAST THEOREM (shape; LID, My.* are yours):
   My.Adr: a structure of the addresses that your layer names (classes, functions); My.Txt K t: a structure (Prop) of the equations over K;
   My.txt_mk : {K} {implicit addresses ..} (e1 : nsIn K mainGlobals "law" = some (some (.ref f))) (e2 : K.lookup f = some ⟨oc, od, .func (fnOf "law" "law" params body scope dV kV doc pm an cdv ct), sl⟩) (e3 : codeIn K cdv "law" = true) .. : ∃ t, My.Txt K t

set_option maxRecDepth 100000 in
set_option maxHeartbeats 0 in
theorem PySem.Challenge.cw_LID_holds : PySem.Challenge.rw_LID.Holds := by
  w_on; o_law; k_head; (case hw => w_witness2)
  k_fill
  refine L2.walk_of (l := PySem.Challenge.rw_LID) (n := 63) (k := 40) (x := "script") (CX := fun w => ..) (sp := fun _ => My.sp_law) rfl (by decide) rfl ⟨rfl, by decide, by decide⟩ (fun w h Y => PySem.W.kIn_of Y) ?F ?S ?C
  case F =>
    intro w mg fa h KX G hmg
    have T : ∃ t, My.Txt (L2.KOf KX) t := by
      dsimp only [L2.KOf]                          -- K must stand as «<heap const> w.params» for k_is
      refine' My.txt_mk ?e1 ?e2 ?e3 ..
      (case e1 => PySem.W.k_is)                    -- in the order: a name -> its address -> its object -> its parts
      (case e2 => PySem.W.k_is)
      ..
    obtain ⟨t, T⟩ := T
    have e0 := hmg.symm.trans (PySem.W.mg_of KX G T.law)
    cases e0                                       -- fa is the law's own address
    exact ⟨_, fun s u => .of_eq rfl, fun base kb nb => My.law_fn T kb nb⟩     -- if «.of_eq rfl» comes too early: refine' ⟨_, ?b, fun base kb nb => My.law_fn T kb nb⟩; exact fun s u => .of_eq rfl
  case S => exact fun w H a ns hl hO hS => ..
  case C => exact ..
(the tactic k_is has no namespace: write k_is) -/

/-! SHORT WORDS over the layer: a def of the text, its body, what a loop and a test want. -/
namespace L2
open PySem PySem.Spec PyProof.Rows

/-! ### the text by places -/
def defArgs (s : Stmt) : Arguments := match s with
  | .FunctionDef _ a _ _ _ _ _ _ _ _ => a
  | _ => { posonlyargs := [], args := [], vararg := none, kwonlyargs := [], kw_defaults := [], kwarg := none, defaults := [] }
def defBody (s : Stmt) : List Stmt := match s with
  | .FunctionDef _ _ b _ _ _ _ _ _ _ => b
  | _ => []
def defScope (s : Stmt) : Scope := match s with
  | .FunctionDef _ _ _ _ _ _ sc _ _ _ => sc
  | _ => { kind := .function, names := [], isGenerator := false, isCoroutine := false }

/-! ### no exception leaves a def -/
abbrev CX0 : CXT := fun _ _ _ _ _ _ => False
abbrev E0 : XK := fun _ _ _ => False
theorem pass0 {X : Cx} : Passes CX0 X E0 := fun _ _ _ _ _ _ _ h => h.elim

/-! ### a def (or method) of the text as it stands behind the top -/
structure Fun (K : PySem.W.Frag) (x qual : Str) (st : Stmt) (f : Addr) (fd : FuncData) : Prop where
  ex : ∃ (oc : Value) (od : Option Addr) (kV doc pm : Value) (an : Option Addr) (cdv ct : Value) (osl : Array (Option Value)),
    fd = PySem.W.fnOf x qual (defArgs st) (defBody st) (defScope st) .none kV doc pm an cdv ct ∧ K.lookup f = some ⟨oc, od, .func fd, osl⟩ ∧ PySem.W.codeIn K cdv qual = true
  kp : PySem.W.keepIn K (.ref f) = true
section
variable {P : Program} {w : World} {K : PySem.W.Frag} {mg : Str → Option Value} {base : Heap}
/-- THE RULE for a def: its body as a term of rules, and the reading of that term -/
theorem Fun.ok {x qual : Str} {st : Stmt} {f : Addr} {fd : FuncData} {N ps : List Str} {k : Nat} {sp : Sp} (F : Fun K x qual st f fd) (S : FnScope N ps (defScope st)) (len : ∀ vs H Q E, sp vs H Q E → vs.length = ps.length)
    (hbody : ∀ (cdv : Value) (A : Around) (outer : List Env) (s : Shared) (H : Hp) (vs : List V) (Q : VK) (E : XK), Room k (A.deeper (envOfC qual (defScope st) s.heap.objs.size f cdv)) → sp vs H Q E →
      ∃ t, PSs (cxOf CX0 P w K mg base N qual (defScope st) f cdv A outer s H E).nox (defBody st) t ∧ t { nx := fun _ H' => Q .non H', rt := Q } (start N vs) H) : FnOk P w K mg base CX0 (k + 1) f fd ps sp := by
  obtain ⟨oc, od, kV, doc, pm, an, cdv, ct, osl, rfl, lk, hcd⟩ := F.ex
  refine fn_of lk hcd S len fun A outer s H vs Q E hr hsp => ?_
  obtain ⟨t, h, q⟩ := hbody cdv A outer s H vs Q E hr hsp
  exact ⟨t, h.nox, q⟩
/-- how its arguments bind (no defaults): h is «fun _ _ _ _ _ _ us hl => match us, hl with | [_, _], _ => rfl», one _ a parameter -/
theorem Fun.binds {x qual : Str} {st : Stmt} {f : Addr} {fd : FuncData} {ps : List Str} (F : Fun K x qual st f fd)
    (h : ∀ (kV doc pm : Value) (an : Option Addr) (cdv ct : Value) (us : List Value), us.length = ps.length → bindArgs (PySem.W.fnOf x qual (defArgs st) (defBody st) (defScope st) .none kV doc pm an cdv ct) ⟨us, []⟩ = pure (ps.zip us)) : Binds K fd ps [] := by
  obtain ⟨oc, od, kV, doc, pm, an, cdv, ct, osl, rfl, lk, hcd⟩ := F.ex
  exact .all (h kV doc pm an cdv ct)
theorem fun_mk {x qual : Str} {st : Stmt} {f : Addr} {oc : Value} {od an : Option Addr} {osl : Array (Option Value)} {kV doc pm cdv ct : Value} (l : K.lookup f = some ⟨oc, od, .func (PySem.W.fnOf x qual (defArgs st) (defBody st) (defScope st) .none kV doc pm an cdv ct), osl⟩)
    (c : PySem.W.codeIn K cdv qual = true) (k : PySem.W.keepIn K (.ref f) = true) : Fun K x qual st f (PySem.W.fnOf x qual (defArgs st) (defBody st) (defScope st) .none kV doc pm an cdv ct) := ⟨⟨oc, od, kV, doc, pm, an, cdv, ct, osl, rfl, l, c⟩, k⟩
end
theorem hu_of {A : Around} {k : Nat} (hr : Room k A) : A.units + 1 < cLine := Nat.lt_of_le_of_lt (Nat.add_le_add_left (by decide : 1 ≤ 64) _) hr.units
theorem small1000 {n : Nat} (h : n ≤ 1000) : n < sizeLine := Nat.lt_of_le_of_lt h (by decide)

/-! ### expressions in short: the name that stands in the i-th slot -/
section
variable {X : Cx}
theorem pv (i : Nat) {x : Str} {pos : Pos} (hN : X.N[i]? = some x := by rfl) (hv : Vis X.env.scope x := by first | exact Or.inl rfl | exact Or.inr (Or.inl rfl) | exact Or.inr (Or.inr rfl)) (hd : (x == ("__debug__" : Str)) = false := by decide)
    (hcd : (x == ("__classdict__" : Str)) = false := by decide) : PE X (.Name x pos) (tVar i) := pe_var hN hv hd hcd
end

/-! ### tests -/
theorem iteF {A B : Prop} (h : B) : if false = true then A else B := by
  rw [if_neg Bool.false_ne_true]
  exact h
theorem iteT {A B : Prop} (h : A) : if true = true then A else B := by
  rw [if_pos rfl]
  exact h
theorem ite2 {c A B : Prop} [Decidable c] (h1 : c → A) (h2 : ¬ c → B) : if c then A else B := by
  by_cases h : c
  · rw [if_pos h]
    exact h1 h
  · rw [if_neg h]
    exact h2 h
theorem iteNS {c A B : Prop} [Decidable c] (hc : c) (h : B) : if (!decide c) = true then A else B := by
  rw [decide_eq_true hc]
  exact iteF h

/-! ### heaps -/
/-- all that was tracked is as it was -/
def Same (H H' : Hp) : Prop := ∀ b o, H b = some o → H' b = some o
theorem Same.refl (H : Hp) : Same H H := fun _ _ h => h
theorem Same.trans {H H1 H2 : Hp} (a : Same H H1) (b : Same H1 H2) : Same H H2 := fun c o h => b c o (a c o h)
theorem Same.free {H H' : Hp} (e : Same H H') {l : Addr} (h : H' l = Option.none) : H l = Option.none := by
  cases q : H l with
  | none => rfl
  | some o =>
    rw [e l o q] at h
    cases h
theorem Same.seq {K : PySem.W.Frag} {H H' : Hp} {a : Addr} {xs : List V} (e : Same H H') (h : SqL K H a xs) : SqL K H' a xs := by
  rcases h with (h | ⟨o, h⟩) | h
  · exact .inl (.inl (e _ _ h))
  · exact .inl (.inr ⟨o, e _ _ h⟩)
  · exact .inr h

/-! ### a dict's pairs: keys that differ -/
section
variable {κ : Type} [DecidableEq κ]
end
end L2


namespace L2
open PySem PySem.Spec PyProof.Rows

/-! ### isinstance -/
/-- the builtin types -/
inductive Ty where
  | int | bool | str | non | lst | tup | dct
  deriving DecidableEq
def Ty.name : Ty → String
  | .int => "int" | .bool => "bool" | .str => "str" | .non => "NoneType" | .lst => "list" | .tup => "tuple" | .dct => "dict"
/-- the builtin type of a value -/
inductive TyN (K : PySem.W.Frag) (H : Hp) : V → Ty → Prop where
  | int (i : Int) : TyN K H (.int i) .int
  | bl (b : Bool) : TyN K H (.bl b) .bool
  | str (x : Str) : TyN K H (.str x) .str
  | non : TyN K H .non .non
  | lst {a : Addr} {xs : List V} (h : SqL K H a xs) : TyN K H (.ref a) .lst
  | tup {a : Addr} {xs : List V} (h : SqT K H a xs) : TyN K H (.ref a) .tup
  | dk {a : Addr} {kvs : List (Key × V)} (h : H a = some (.dK kvs)) : TyN K H (.ref a) .dct
def isiB : Ty → Ty → Bool
  | .int, .int => true | .bool, .bool => true | .bool, .int => true | .str, .str => true | .non, .non => true | .lst, .lst => true | .tup, .tup => true | .dct, .dct => true | _, _ => false
def rIsi (K : PySem.W.Frag) : List V → Hp → VK → Prop := fun vs H Q => ∃ x T T', vs = [x, .ty (Ty.name T)] ∧ TyN K H x T' ∧ Q (.bl (isiB T' T)) H
theorem call_isi {X : Cx} : CallR X (.builtin "isinstance") (rIsi X.K) := by
  intro pins s σ H vs us Q I r h
  obtain ⟨x, T, T', rfl, ty, q⟩ := h
  obtain ⟨u, u2, rfl, ru, ru2⟩ := vals2 r
  have e2 : u2 = Value.type (Ty.name T) := ru2
  subst e2
  cases ty with
  | int i =>
    obtain ⟨t, rfl⟩ := ru
    cases T with
    | int => exact IsiPair.int_int ⟨.bl true, H, I, rfl, q⟩
    | bool => exact IsiPair.int_bool ⟨.bl false, H, I.tok _, rfl, q⟩
    | str => exact IsiPair.int_str ⟨.bl false, H, I.tok _, rfl, q⟩
    | non => exact IsiPair.int_NoneType ⟨.bl false, H, I.tok _, rfl, q⟩
    | lst => exact IsiPair.int_list ⟨.bl false, H, I.tok _, rfl, q⟩
    | tup => exact IsiPair.int_tuple ⟨.bl false, H, I.tok _, rfl, q⟩
    | dct => exact IsiPair.int_dict ⟨.bl false, H, I.tok _, rfl, q⟩
  | bl b =>
    obtain rfl : u = Value.bool b := ru
    cases T with
    | int => exact IsiPair.bool_int ⟨.bl true, H, I, rfl, q⟩
    | bool => exact IsiPair.bool_bool ⟨.bl true, H, I, rfl, q⟩
    | str => exact IsiPair.bool_str ⟨.bl false, H, I.tok _, rfl, q⟩
    | non => exact IsiPair.bool_NoneType ⟨.bl false, H, I.tok _, rfl, q⟩
    | lst => exact IsiPair.bool_list ⟨.bl false, H, I.tok _, rfl, q⟩
    | tup => exact IsiPair.bool_tuple ⟨.bl false, H, I.tok _, rfl, q⟩
    | dct => exact IsiPair.bool_dict ⟨.bl false, H, I.tok _, rfl, q⟩
  | str y =>
    obtain ⟨t, rfl⟩ := ru
    cases T with
    | int => exact IsiPair.str_int ⟨.bl false, H, I.tok _, rfl, q⟩
    | bool => exact IsiPair.str_bool ⟨.bl false, H, I.tok _, rfl, q⟩
    | str => exact IsiPair.str_str ⟨.bl true, H, I, rfl, q⟩
    | non => exact IsiPair.str_NoneType ⟨.bl false, H, I.tok _, rfl, q⟩
    | lst => exact IsiPair.str_list ⟨.bl false, H, I.tok _, rfl, q⟩
    | tup => exact IsiPair.str_tuple ⟨.bl false, H, I.tok _, rfl, q⟩
    | dct => exact IsiPair.str_dict ⟨.bl false, H, I.tok _, rfl, q⟩
  | non =>
    obtain rfl : u = Value.none := ru
    cases T with
    | int => exact IsiPair.NoneType_int ⟨.bl false, H, I.tok _, rfl, q⟩
    | bool => exact IsiPair.NoneType_bool ⟨.bl false, H, I.tok _, rfl, q⟩
    | str => exact IsiPair.NoneType_str ⟨.bl false, H, I.tok _, rfl, q⟩
    | non => exact IsiPair.NoneType_NoneType ⟨.bl true, H, I, rfl, q⟩
    | lst => exact IsiPair.NoneType_list ⟨.bl false, H, I.tok _, rfl, q⟩
    | tup => exact IsiPair.NoneType_tuple ⟨.bl false, H, I.tok _, rfl, q⟩
    | dct => exact IsiPair.NoneType_dict ⟨.bl false, H, I.tok _, rfl, q⟩
  | lst hq =>
    obtain rfl : u = Value.ref _ := ru
    obtain ⟨its, rv, ⟨o, n, e, hc, hd, hs⟩, hz⟩ := I.list hq
    cases T with
    | int => exact IsiPair.list_int e hc ⟨.bl false, H, I.tok _, rfl, q⟩
    | bool => exact IsiPair.list_bool e hc ⟨.bl false, H, I.tok _, rfl, q⟩
    | str => exact IsiPair.list_str e hc ⟨.bl false, H, I.tok _, rfl, q⟩
    | non => exact IsiPair.list_NoneType e hc ⟨.bl false, H, I.tok _, rfl, q⟩
    | lst => exact IsiPair.list_list e hc ⟨.bl true, H, I, rfl, q⟩
    | tup => exact IsiPair.list_tuple e hc ⟨.bl false, H, I.tok _, rfl, q⟩
    | dct => exact IsiPair.list_dict e hc ⟨.bl false, H, I.tok _, rfl, q⟩
  | tup hq =>
    obtain rfl : u = Value.ref _ := ru
    obtain ⟨its, rv, ⟨o, e, hc, n, hs⟩, hz⟩ := I.tuple hq
    cases T with
    | int => exact IsiPair.tuple_int e hc ⟨.bl false, H, I.tok _, rfl, q⟩
    | bool => exact IsiPair.tuple_bool e hc ⟨.bl false, H, I.tok _, rfl, q⟩
    | str => exact IsiPair.tuple_str e hc ⟨.bl false, H, I.tok _, rfl, q⟩
    | non => exact IsiPair.tuple_NoneType e hc ⟨.bl false, H, I.tok _, rfl, q⟩
    | lst => exact IsiPair.tuple_list e hc ⟨.bl false, H, I.tok _, rfl, q⟩
    | tup => exact IsiPair.tuple_tuple e hc ⟨.bl true, H, I, rfl, q⟩
    | dct => exact IsiPair.tuple_dict e hc ⟨.bl false, H, I.tok _, rfl, q⟩
  | dk hq =>
    obtain rfl : u = Value.ref _ := ru
    obtain ⟨hz, hm, vs, rel, o, es, ep, e, ex, hr⟩ := I.hok _ _ hq
    have hc := ex.1
    cases T with
    | int => exact IsiPair.dict_int e hc ⟨.bl false, H, I.tok _, rfl, q⟩
    | bool => exact IsiPair.dict_bool e hc ⟨.bl false, H, I.tok _, rfl, q⟩
    | str => exact IsiPair.dict_str e hc ⟨.bl false, H, I.tok _, rfl, q⟩
    | non => exact IsiPair.dict_NoneType e hc ⟨.bl false, H, I.tok _, rfl, q⟩
    | lst => exact IsiPair.dict_list e hc ⟨.bl false, H, I.tok _, rfl, q⟩
    | tup => exact IsiPair.dict_tuple e hc ⟨.bl false, H, I.tok _, rfl, q⟩
    | dct => exact IsiPair.dict_dict e hc ⟨.bl true, H, I, rfl, q⟩

/-! ### all, of a list of truths -/
theorem truth_bl {P : Program} {w : World} {A : Around} {bs : List Bool} {its : List Value} (r : Vals (bs.map V.bl) its) : TruthOf P w A (fun i v => its.toArray[i]? = some v) (fun i => bs.getD i false) := by
  intro i v s Q E hv hq
  have hv' : its[i]? = some v := by simpa using hv
  have hl := r.length
  rw [List.length_map] at hl
  have hi : i < its.length := (List.getElem?_eq_some_iff.mp hv').1
  have hb : (bs.map V.bl)[i]? = some (V.bl (bs.getD i false)) := by
    rw [List.getElem?_map, List.getD_eq_getElem?_getD]
    have : bs[i]? = some bs[i] := List.getElem?_eq_getElem (by omega)
    rw [this]; rfl
  obtain ⟨u, hu, ru⟩ := r.get hb
  rw [hv'] at hu
  cases hu
  have e : v = Value.bool (bs.getD i false) := ru
  subst e
  exact wpAny_truthy_bool hq
theorem range_all {bs : List Bool} : (List.range bs.length).all (fun i => bs.getD i false) = bs.all id := by
  rw [Bool.eq_iff_iff, List.all_eq_true, List.all_eq_true]
  constructor
  · intro h b hb
    obtain ⟨i, hi, e⟩ := List.mem_iff_getElem.mp hb
    have := h i (List.mem_range.mpr hi)
    rw [List.getD_eq_getElem?_getD, List.getElem?_eq_getElem hi] at this
    rw [← e]; exact this
  · intro h i hi
    have hi' := List.mem_range.mp hi
    rw [List.getD_eq_getElem?_getD, List.getElem?_eq_getElem hi']
    exact h _ (List.getElem_mem hi')
def rAll (K : PySem.W.Frag) : List V → Hp → VK → Prop := fun vs H Q => ∃ (a : Addr) (bs : List Bool), vs = [.ref a] ∧ SqL K H a (bs.map V.bl) ∧ Q (.bl (bs.all id)) H
theorem call_allL {X : Cx} (hc : X.calm = true) : CallR X (.builtin "all") (rAll X.K) := by
  intro pins s σ H vs us Q I r h
  obtain ⟨a, bs, rfl, hq, q⟩ := h
  obtain ⟨u, rfl, ru⟩ := vals1 r
  obtain rfl : u = Value.ref a := ru
  obtain ⟨its, rv, p, hz⟩ := I.list hq
  have hl := rv.length
  rw [List.length_map] at hl
  have hlt : a < s.heap.objs.size := by obtain ⟨_, e, _⟩ := p.isList; exact Heap.lt_size e
  refine call_all_walk (wpAny_pyIter_list p.isList ?_)
  refine ⟨s.heap.objs.size, [s.heap.objs.size, a], [s.heap.objs.size], its.toArray.size, (fun i v => its.toArray[i]? = some v), (fun i h => h.IsListIter s.heap.objs.size a i ∧ h.IsList a its.toArray), (fun i => bs.getD i false), rfl, Walks.list (A := X.A.in1) (I.ok.hd hc) s.heap.objs.size a (Nat.ne_of_lt hlt) its.toArray, ⟨⟨_, Heap.get?_push_size _ rfl, rfl, rfl⟩, p.isList.push _⟩, truth_bl rv, fun h' tk hk => ?_⟩
  refine ⟨.bl (bs.all id), H, I.kept fun b o e => hk b o (fun z => ?_) (Heap.get?_push_of_some _ e), ?_, q⟩
  · have z' : b = s.heap.objs.size := by simpa using z
    exact absurd (Heap.lt_size e) (by rw [z']; exact Nat.lt_irrefl _)
  · have e : its.toArray.size = bs.length := by rw [List.size_toArray, hl]
    show Value.bool _ = Value.bool _
    rw [e, range_all]

/-! ### texts: <=, join, signs -/
def rS (g : Str → Str → Bool) : R2 := fun x y H Q => ∃ a b, x = .str a ∧ y = .str b ∧ Q (.bl (g a b)) H
theorem op_leS {X : Cx} : OpR X (compareOp .LtE) (rS fun a b => !decide (b.cps.toList < a.cps.toList)) := by
  intro pins s σ H x y v u Q I rx ry h
  obtain ⟨a, b, rfl, rfl, q⟩ := h
  obtain ⟨t, rfl⟩ := rx
  obtain ⟨t', rfl⟩ := ry
  exact P.le_str ⟨.bl _, H, I, rfl, q⟩
theorem vals_strs : ∀ {xs : List Str} {its : List Value}, Vals (xs.map V.str) its → ∃ l : List (Str × Tok), its = strValues l ∧ l.map (·.1) = xs
  | [], _, .nil => ⟨[], rfl, rfl⟩
  | x :: xs, _, .cons r t => by
    obtain ⟨tk, rfl⟩ := r
    obtain ⟨l, rfl, rfl⟩ := vals_strs t
    exact ⟨(x, tk) :: l, rfl, rfl⟩
def rJoin (K : PySem.W.Frag) : V → List V → Hp → VK → Prop := fun x vs H Q => ∃ sep a xs, x = .str sep ∧ vs = [.ref a] ∧ SqL K H a (xs.map V.str) ∧ JoinOk sep xs = true ∧ Q (.str (Txt.join sep xs)) H
theorem mt_join {X : Cx} : MtR X "str.join" (rJoin X.K) := by
  intro pins s σ H x vs v us Q I rx rv h
  obtain ⟨sep, a, xs, rfl, rfl, hq, hok, q⟩ := h
  obtain ⟨t, rfl⟩ := rx
  obtain ⟨u, rfl, ru⟩ := vals1 rv
  obtain rfl : u = Value.ref a := ru
  obtain ⟨its, r, p, hz⟩ := I.list hq
  obtain ⟨l, rfl, hl⟩ := vals_strs r
  exact SC.join p.isList hl hok fun t' k => ⟨.str _, H, I.tok k, ⟨t', rfl⟩, q⟩
/-- the signs of a text -/
def Its (x : Str) : It := ⟨fun i _ => i < x.cps.size, fun i H v H' => H' = H ∧ ∃ c, x.cps[i]? = some c ∧ v = .str ⟨#[c]⟩, fun i _ => i = x.cps.size⟩
theorem turn_str {P : Program} {w : World} {K : PySem.W.Frag} {tg : Expr} {x : Str} {t : Tok} {ty : String} (it : Addr) (hn : ["enumerate", "zip", "dict_itemiterator", "dict_reverseitemiterator", "odict_iterator", "itertools.zip_longest", "itertools.pairwise"].contains ty = false)
    (W : ∀ A : Around, A.handled = none → Walks P w A it [it] [it] x.cps.size (SignAt x) (fun i h => h.IsStrIter it ty x t i))
    (hself : ∀ (A : Around) (i : Nat) (s : Shared) (Q : Value → Shared → Prop) (E : Value → Shared → Prop), s.heap.IsStrIter it ty x t i → Q (.ref it) s → wpAny (model P w) A (pyIter (.ref it)) Q E s) : Turn P w K tg (Its x) [it] it (fun i h => h.IsStrIter it ty x t i) where
  mem := by simp
  obj := fun i h st b hb => by
    have e : b = it := by simpa using hb
    subst e
    obtain ⟨o, e, c, d⟩ := st
    exact ⟨o, e, fun v z => by rw [d] at z; cases z⟩
  keep := fun i h h' st k => by
    obtain ⟨o, e, r⟩ := st
    exact ⟨o, k it (by simp) o e, r⟩
  item := by
    intro X hP hw hK hc i pins s σ H E I hf st hg
    subst hP hw hK
    obtain ⟨f0, f1, f2, f3, f4, f5⟩ := hf it (by simp)
    refine (W X.A (I.ok.hd hc)).item i s _ _ hg st fun v h' tk hv st' kk => ?_
    obtain ⟨c, u, hc', rfl⟩ := hv
    have I1 : Inv X pins σ H { s with heap := h', toks := tk } := I.turned (fun b o hb e => kk b o (by simpa using hb) e) f0 f1 f3 f4 f5
    obtain ⟨o, e, c1, d⟩ := id st'
    exact ⟨_, rfl, go_of (s := { s with heap := h', toks := tk }) e c1 d hn ⟨.str ⟨#[c]⟩, H, I1, ⟨u, rfl⟩, ⟨rfl, c, hc', rfl⟩, st', fun b hb => (hf b hb).1⟩⟩
  done := by
    intro X hP hw hK hc i pins s σ H E I hf st hg
    subst hP hw hK
    obtain ⟨f0, f1, f2, f3, f4, f5⟩ := hf it (by simp)
    have hg' : i = x.cps.size := hg
    subst hg'
    exact (W X.A (I.ok.hd hc)).done s _ _ st fun h' tk kk => ⟨rfl, I.turned (fun b o hb e => kk b o (by simpa using hb) e) f0 f1 f3 f4 f5⟩
  self := hself
def iStr (te : TE) : TI := fun σ H R => te σ H fun x H1 => ∃ y, x = .str y ∧ R (Its y) H1
theorem pi_str {X : Cx} {tg e : Expr} {te : TE} (he : PE X e te) : PI X tg e (iStr te) := by
  intro pins s σ H R I h
  refine thn (he pins s σ H _ I h) fun v s1 ⟨x, H1, I1, r1, q1⟩ => ?_
  obtain ⟨y, rfl, q⟩ := q1
  obtain ⟨t, rfl⟩ := r1
  have fin : ∀ b ∈ [s1.heap.objs.size], FpOk X pins H1 b := fun b hb => by
    have e : b = s1.heap.objs.size := by simpa using hb
    subst e
    exact I1.fpOk (Nat.le_refl _) (I1.hok.fresh (Nat.le_refl _))
  cases ha : y.cps.all (· < 128)
  · refine wpAny_pyIter_wide ha ⟨s1.heap.objs.size, [s1.heap.objs.size], _, _, H1, rfl, I1.kept (t' := s1.toks) fun b o e => Heap.get?_push_of_some _ e, turn_str (ty := "str_iterator") (t := t) _ (by decide) (fun A hA => Walks.strWide hA _ y t) (fun A i s Q E st hQ => wpAny_pyIter_striter_wide st hQ), ⟨_, Heap.get?_push_size _ rfl, rfl, rfl⟩, fin, q⟩
  · refine wpAny_pyIter_ascii ha ⟨s1.heap.objs.size, [s1.heap.objs.size], _, _, H1, rfl, I1.kept (t' := s1.toks) fun b o e => Heap.get?_push_of_some _ e, turn_str (ty := "str_ascii_iterator") (t := t) _ (by decide) (fun A hA => Walks.strAscii hA _ y t) (fun A i s Q E st hQ => wpAny_pyIter_striter_ascii st hQ), ⟨_, Heap.get?_push_size _ rfl, rfl, rfl⟩, fin, q⟩

/-! ### a thing of ours that the heap holds comes to be tracked -/
theorem Inv.track {X : Cx} {pins : List (Addr × Obj)} {σ : St} {H : Hp} {s : Shared} {T : Addr} {o : HO} (I : Inv X pins σ H s) (hn : FpOk X pins H T) (hT : ∃ ob, s.heap.get? T = some ob) (new : ObjOk X.prog X.w (upd H T o) s.heap T o) : Inv X pins σ (upd H T o) s := by
  obtain ⟨f0, f1, f2, f3, f4, f5⟩ := hn
  refine I.step (g' := s.gens) (t' := s.toks) (d' := s.drawn) (h' := s.heap) (ch := [T]) (fun b hb => ?_) (fun b ob _ _ _ e _ => e) (fun b ob _ _ _ e _ => ⟨ob.slots, e⟩) (fun b ob hb e n => ?_) (fun b ob _ e => ⟨ob, e⟩) (fun b xs e => ?_) (fun b ob u e => ?_) (fun b ps e => ?_) (fun m hm => hm) (fun b u e => ?_) I.bare
  · have e : b = T := by simpa using hb
    subst e
    exact ⟨f3, f1, f4, f5⟩
  · rw [upd_ne (by simpa using hb)]; exact n
  · rw [upd_ne (ne_of_none e f0)]; exact e
  · rw [upd_ne (ne_of_none e f0)]; exact e
  · exact ⟨#[], by rw [upd_ne (ne_of_none e f0), e]; simp⟩
  · by_cases hb : b = T
    · subst hb; rw [upd_same] at e; cases e; exact new
    · rw [upd_ne hb] at e
      exact (I.hok b u e).stay (fun c v _ q => q) (fun c q => by rw [upd_ne (ne_of_none q f0)]; exact q) fun c xs q => by rw [upd_ne (ne_of_none q f0)]; exact q

/-! ### zip of two lists, with a pair of targets -/
end L2

namespace L2
open PySem PySem.Spec PyProof.Rows

/-! ### what a block closes over -/
def closOf (env : Env) : List (Str × NameKind) → List (Str × Addr) → List (Str × Addr)
  | [], acc => acc
  | (n, k) :: r, acc => if k == .free then closOf env r ((n, (env.cells.lookup n).getD 0) :: acc) else closOf env r acc
theorem forIn_clos {env : Env} (f : Str × NameKind → List (Str × Addr) → Sem (ForInStep (List (Str × Addr))))
    (hf : ∀ n k cs, f (n, k) cs = if (k == NameKind.free) = true then (cellOf env n >>= fun a => pure (.yield ((n, a) :: cs))) else pure (.yield cs)) :
    ∀ (names : List (Str × NameKind)) (acc : List (Str × Addr)), (∀ x ∈ names, x.2 = .free → ∃ c, env.cells.lookup x.1 = some c) → forIn names acc f = pure (closOf env names acc)
  | [], acc, _ => by rw [List.forIn_nil]; rfl
  | (n, k) :: r, acc, h => by
    rw [List.forIn_cons, hf]
    unfold closOf
    by_cases hk : (k == NameKind.free) = true
    · rw [if_pos hk, if_pos hk]
      obtain ⟨c, hc⟩ := h (n, k) List.mem_cons_self (beq_iff_eq.mp hk)
      have e : cellOf env n = pure c := by unfold cellOf; rw [hc]
      rw [e, hc]
      exact forIn_clos f hf r _ fun x hx => h x (List.mem_cons_of_mem _ hx)
    · rw [if_neg hk, if_neg hk]
      exact forIn_clos f hf r _ fun x hx => h x (List.mem_cons_of_mem _ hx)
theorem closureFor_of {scope : Scope} {env : Env} (h : ∀ x ∈ scope.names, x.2 = .free → ∃ c, env.cells.lookup x.1 = some c) : closureFor scope env = pure (closOf env scope.names []) := by
  simp only [closureFor]
  rw [forIn_clos (env := env) _ (fun n k cs => by cases hk : k == NameKind.free <;> simp [hk]) scope.names [] h]
  rfl
theorem closOf_mem {env : Env} : ∀ {names : List (Str × NameKind)} {acc : List (Str × Addr)} {x : Str} {c : Addr}, (x, c) ∈ closOf env names acc → (x, c) ∈ acc ∨ ((x, NameKind.free) ∈ names ∧ c = (env.cells.lookup x).getD 0)
  | [], _, _, _, h => .inl h
  | (n, k) :: r, acc, x, c, h => by
    unfold closOf at h
    by_cases hk : (k == NameKind.free) = true
    · rw [if_pos hk] at h
      rcases closOf_mem h with h | ⟨h, e⟩
      · rcases List.mem_cons.mp h with h | h
        · cases h
          rw [beq_iff_eq.mp hk]
          exact .inr ⟨List.mem_cons_self, rfl⟩
        · exact .inl h
      · exact .inr ⟨List.mem_cons_of_mem _ h, e⟩
    · rw [if_neg hk] at h
      rcases closOf_mem h with h | ⟨h, e⟩
      · exact .inl h
      · exact .inr ⟨List.mem_cons_of_mem _ h, e⟩
theorem closOf_acc {env : Env} : ∀ {names : List (Str × NameKind)} {acc : List (Str × Addr)} {p : Str × Addr}, p ∈ acc → p ∈ closOf env names acc
  | [], _, _, h => h
  | (n, k) :: r, acc, p, h => by
    unfold closOf
    by_cases hk : (k == NameKind.free) = true
    · rw [if_pos hk]; exact closOf_acc (List.mem_cons_of_mem _ h)
    · rw [if_neg hk]; exact closOf_acc h
theorem closOf_has {env : Env} : ∀ {names : List (Str × NameKind)} {acc : List (Str × Addr)} {x : Str}, (x, NameKind.free) ∈ names → ∃ c, (x, c) ∈ closOf env names acc
  | (n, k) :: r, acc, x, h => by
    unfold closOf
    rcases List.mem_cons.mp h with h | h
    · cases h
      rw [if_pos (show (NameKind.free == NameKind.free) = true by rfl)]
      exact ⟨_, closOf_acc List.mem_cons_self⟩
    · by_cases hk : (k == NameKind.free) = true
      · rw [if_pos hk]; exact closOf_has h
      · rw [if_neg hk]; exact closOf_has h
theorem look_of_mem {α : Type} : ∀ {l : List (Str × α)} {x : Str} {c : α}, (x, c) ∈ l → ∃ c', l.lookup x = some c'
  | (n, d) :: r, x, c, h => by
    rw [List.lookup_cons]
    cases hb : x == n with
    | true => exact ⟨d, rfl⟩
    | false =>
      rcases List.mem_cons.mp h with h | h
      · cases h
        simp at hb
      · exact look_of_mem h
theorem cellsFrom_app : ∀ (names : List (Str × NameKind)) (n : Nat) (acc : List (Str × Addr)), cellsFrom n names acc = cellsFrom n names [] ++ acc
  | [], _, _ => rfl
  | (x, k) :: r, n, acc => by
    unfold cellsFrom
    by_cases hk : (k == NameKind.cell) = true
    · rw [if_pos hk, if_pos hk, cellsFrom_app r (n + 1) ((x, n) :: acc), cellsFrom_app r (n + 1) [(x, n)], List.append_assoc]
      rfl
    · rw [if_neg hk, if_neg hk]; exact cellsFrom_app r n acc
theorem cellsFrom_cell : ∀ {names : List (Str × NameKind)} {n : Nat} {acc : List (Str × Addr)} {x : Str} {c : Addr}, (x, c) ∈ cellsFrom n names acc → (x, c) ∈ acc ∨ (x, NameKind.cell) ∈ names
  | [], _, _, _, _, h => .inl h
  | (y, k) :: r, n, acc, x, c, h => by
    unfold cellsFrom at h
    by_cases hk : (k == NameKind.cell) = true
    · rw [if_pos hk] at h
      rcases cellsFrom_cell h with h | h
      · rcases List.mem_cons.mp h with h | h
        · cases h
          rw [beq_iff_eq.mp hk]
          exact .inr List.mem_cons_self
        · exact .inl h
      · exact .inr (List.mem_cons_of_mem _ h)
    · rw [if_neg hk] at h
      rcases cellsFrom_cell h with h | h
      · exact .inl h
      · exact .inr (List.mem_cons_of_mem _ h)

section
variable {M : Model} {A : Around} {E : Value → Shared → Prop} {s : Shared}
theorem nfe_comp {scope : Scope} {env : Env} {cl : List (Str × Addr)} {Q : Env → Shared → Prop}
    (hQ : Q (newEnv scope s.heap.objs.size env.globals (cellsFrom (s.heap.objs.size + 1) scope.names cl) env.qual none .none (some env) builtinsNs) { s with heap := pushCells (s.heap.push { cls := .type "dict", data := .dict #[] }) scope.names }) :
    wpAny M A (newFunctionEnv scope env.globals cl [] env.qual none .none (some env)) Q E s := by
  simp only [newFunctionEnv, Option.isSome_some, if_true]
  refine wpAny_bind (wpAny_alloc ?_)
  refine wpAny_bind (wpAny_layCells _ (fun name kind cells => by cases hkc : kind == NameKind.cell <;> simp [hkc]) _ _ _ _ ?_)
  rw [show ({ s with heap := s.heap.push { cls := .type "dict", data := .dict #[] } } : Shared).heap.objs.size = s.heap.objs.size + 1 from Heap.size_push ..]
  exact wpAny_bind (wpAny_pure (wpAny_pure hQ))
end

/-- the context of a comprehension's block: N its own names, then those that it closes over -/
abbrev cxComp (X : Cx) (N : List Str) (scope : Scope) (cs : List (Str × Addr)) (C : Addr) (s : Shared) (H : Hp) (ex : List Addr) : Cx where
  prog := X.prog
  w := X.w
  K := X.K
  mg := X.mg
  base := X.base
  A := X.A
  N := N
  s₀ := s
  H₀ := H
  env := compEnvC scope cs C X.env
  outer := X.stack
  stack := X.stack
  ex := ex
  fn := fun x => decide (scope.names.lookup x ≠ some .free)
  calm := X.calm
  pn := []
  xe := fun _ _ => False

/-- what is asked of the block's scope: psc, PN the scope and the names of the code around it; k: how many names of N are its own; caps: the places, in PN, of those behind them -/
structure CompScope (psc : Scope) (PN : List Str) (scope : Scope) (N : List Str) (k : Nat) (caps : List Nat) : Prop where
  kind : scope.kind = .function
  loc : ∀ x ∈ scope.names, x.2 = .local → scope.names.lookup x.1 = some .local
  ndn : (scope.names.map (·.1)).Nodup
  nd : N.Nodup
  len : N.length = k + caps.length
  free : ∀ x ∈ scope.names, x.2 = .free → psc.names.lookup x.1 = some .cell ∨ psc.names.lookup x.1 = some .free
  cap : ∀ p ∈ (N.drop k).zip caps, PN[p.2]? = some p.1 ∧ scope.names.lookup p.1 = some .free

/-- the block's slots at each turn's start -/
def compSt (k : Nat) (caps : List Nat) (σ : St) : St := List.replicate k none ++ caps.map fun j => (σ[j]?).getD none
theorem compSt_at {k : Nat} {caps : List Nat} {σ : St} {i : Nat} {v : V} (h : (compSt k caps σ)[i]? = some (some v)) : ∃ j, k ≤ i ∧ caps[i - k]? = some j ∧ σ[j]? = some (some v) := by
  unfold compSt at h
  by_cases hi : i < k
  · rw [List.getElem?_append_left (by simpa using hi), List.getElem?_replicate, if_pos hi] at h
    cases h
  · rw [List.getElem?_append_right (by simpa using hi), List.length_replicate, List.getElem?_map] at h
    cases e : caps[i - k]? with
    | none => rw [e] at h; cases h
    | some j =>
      rw [e] at h
      have h' : (σ[j]?).getD none = some v := Option.some.inj h
      refine ⟨j, by omega, rfl, ?_⟩
      cases q : σ[j]? with
      | none => rw [q] at h'; cases h'
      | some o => rw [q] at h'; exact congrArg some h'

theorem relabel_look {scope : Scope} {env : Env} {x : Str} {k' : NameKind} (h : (relabel scope env).names.lookup x = some k') : ∃ k, (x, k) ∈ scope.names ∧ (k' = k ∨ (k = .free ∧ k' = .cell)) := by
  have hm := PySem.mem_of_lookup h
  have hm' : (x, k') ∈ scope.names.map (fun (n, k) => if (k == NameKind.free && env.scope.kind == .function && env.kindOf n == some .cell) then (n, NameKind.cell) else (n, k)) := hm
  obtain ⟨⟨n, k⟩, h1, h2⟩ := List.mem_map.mp hm'
  dsimp only at h2
  by_cases hc : (k == NameKind.free && env.scope.kind == .function && env.kindOf n == some .cell) = true
  · rw [if_pos hc] at h2
    cases h2
    simp only [Bool.and_eq_true, beq_iff_eq] at hc
    exact ⟨k, h1, .inr ⟨hc.1.1, rfl⟩⟩
  · rw [if_neg hc] at h2
    cases h2
    exact ⟨k', h1, .inl rfl⟩
theorem map_free {f : Str × NameKind → Str × NameKind} (hf : ∀ n k, f (n, k) = (n, k) ∨ (k = .free ∧ f (n, k) = (n, NameKind.cell))) : ∀ {names : List (Str × NameKind)} {x : Str}, names.lookup x = some .free → (names.map f).lookup x = some .cell ∨ (names.map f).lookup x = some .free
  | [], _, h => by simp at h
  | (n, k) :: r, x, h => by
    have ih := @map_free f hf r x
    rw [List.lookup_cons] at h
    rw [List.map_cons]
    cases hx : x == n with
    | true =>
      rw [hx] at h
      cases h
      rcases hf n .free with e | ⟨_, e⟩
      · right; rw [e, List.lookup_cons, hx]
      · left; rw [e, List.lookup_cons, hx]
    | false =>
      rw [hx] at h
      have h' := ih h
      rcases hf n k with e | ⟨_, e⟩
      · rw [e, List.lookup_cons, hx]; exact h'
      · rw [e, List.lookup_cons, hx]; exact h'
theorem relabel_free {scope : Scope} {env : Env} {x : Str} (h : scope.names.lookup x = some .free) : (relabel scope env).names.lookup x = some .cell ∨ (relabel scope env).names.lookup x = some .free := by
  refine map_free (fun n k => ?_) h
  by_cases hc : (k == NameKind.free && env.scope.kind == .function && env.kindOf n == some .cell) = true
  · right
    refine ⟨?_, if_pos hc⟩
    simp only [Bool.and_eq_true, beq_iff_eq] at hc
    exact hc.1.1
  · left; exact if_neg hc
theorem nodup_key {names : List (Str × NameKind)} (h : (names.map (·.1)).Nodup) {x : Str} {k k' : NameKind} (h1 : (x, k) ∈ names) (h2 : (x, k') ∈ names) : k = k' := by
  induction names with
  | nil => simp at h1
  | cons p r ih =>
    rw [List.map_cons] at h
    obtain ⟨ha, hb⟩ := List.nodup_cons.mp h
    rcases List.mem_cons.mp h1 with e1 | h1 <;> rcases List.mem_cons.mp h2 with e2 | h2
    · rw [← e1] at e2; exact (Prod.mk.inj e2).2.symm
    · exact absurd (List.mem_map.mpr ⟨_, h2, by rw [← e1]⟩) ha
    · exact absurd (List.mem_map.mpr ⟨_, h1, by rw [← e2]⟩) ha
    · exact ih hb h1 h2

/-! ### the heap beside one address that is younger -/
theorem Un.but {fs ex : List Addr} {H H' : Hp} {h h1 h2 : Heap} {C : Addr} (u : Un fs ex H H' h h1) (hs : Heap.SameBut C h1 h2) (hC : h.objs.size ≤ C) : Un fs ex H H' h h2 := by
  have ne : ∀ b o, h.get? b = some o → b ≠ C := fun b o e => Nat.ne_of_lt (Nat.lt_of_lt_of_le (Heap.lt_size e) hC)
  refine ⟨fun b o e n hb hx => (hs.2 b (ne b o e)).trans (u.keep b o e n hb hx), fun b o e n hb hx => ?_, u.free, fun b o e hx => ?_, u.tups, u.frzs, u.tbls⟩
  · obtain ⟨sl, q⟩ := u.slot b o e n hb hx
    exact ⟨sl, (hs.2 b (ne b o e)).trans q⟩
  · obtain ⟨o', q⟩ := u.there b o e hx
    exact ⟨o', (hs.2 b (ne b o e)).trans q⟩
theorem HOk.but {P : Program} {w : World} {H : Hp} {h1 h2 : Heap} {C : Addr} (x : HOk P w H h1) (hs : Heap.SameBut C h1 h2) (hn : H C = none) : HOk P w H h2 := fun b u e => by
  refine (x b u e).stay (fun c v hc q => (hs.2 c ?_).trans q) (fun _ q => q) fun _ _ q => q
  rintro rfl
  rcases hc with rfl | hc
  · rw [hn] at e; cases e
  · rw [hn] at hc; cases hc

/-! ### the block -/
section
variable {X : Cx} {scope : Scope} {N : List Str} {k : Nat} {caps : List Nat} {psc : Scope} {PN : List Str} {pins : List (Addr × Obj)} {σ : St} {H : Hp} {s : Shared}
/-- the cells of the block -/
abbrev cellsC (X : Cx) (scope : Scope) (C : Addr) : List (Str × Addr) := cellsFrom (C + 1) scope.names (closOf X.env scope.names [])
theorem cellsC_split {C : Addr} (I : Inv X pins σ H s) (S : CompScope X.env.scope X.N scope N k caps) {x : Str} {c : Addr} (h : (x, c) ∈ cellsC X scope C) :
    (x, c) ∈ cellsFrom (C + 1) scope.names [] ∨ X.env.cells.lookup x = some c := by
  unfold cellsC at h
  rw [cellsFrom_app] at h
  rcases List.mem_append.mp h with h | h
  · exact .inl h
  · rcases closOf_mem h with h | ⟨h, e⟩
    · simp at h
    · obtain ⟨c', hc⟩ := I.ok.has x (S.free _ h rfl)
      rw [hc] at e
      exact .inr (by rw [hc]; exact congrArg some e.symm)
theorem comp_start {fp : List Addr} (I : Inv X pins σ H s) (S : CompScope X.env.scope X.N scope N k caps) (hf : ∀ b ∈ fp, FpOk X pins H b) (hfo : ∀ b ∈ fp, ∃ o, s.heap.get? b = some o) {D C : Nat} {h1 : Heap} {t' : Nat} (hD : D = s.heap.objs.size) (hC : C = D + 1)
    (hh : h1 = pushCells ((s.heap.push { cls := .type "list", data := .seq #[] }).push { cls := .type "dict", data := .dict #[] }) scope.names) :
    Inv (cxComp X N scope (cellsC X scope C) C s H fp) [] (compSt k caps σ) (upd H D (.lst [])) { s with heap := h1, toks := t' } := by
  have hsz1 : (s.heap.push { cls := .type "list", data := .seq #[] }).objs.size = C := by rw [Heap.size_push, hC, hD]
  have hsz2 : ((s.heap.push { cls := .type "list", data := .seq #[] }).push { cls := .type "dict", data := .dict #[] }).objs.size = C + 1 := by rw [Heap.size_push, hsz1]
  have old : ∀ b o, s.heap.get? b = some o → h1.get? b = some o := fun b o e => by
    rw [hh]; exact pushCells_keeps _ _ b o (Heap.get?_push_of_some _ (Heap.get?_push_of_some _ e))
  have hacc : h1.get? D = some { cls := .type "list", data := .seq #[] } := by
    rw [hh, hD]; exact pushCells_keeps _ _ _ _ (Heap.get?_push_of_some _ (Heap.get?_push_size _ rfl))
  have hns : h1.Ns C (fun _ => none) := by
    rw [hh, ← hsz1]
    exact (Heap.Ns.new _ (.type "dict")).keeps (pushCells_keeps _ _)
  have ok := cellsFrom_ok scope.names ((s.heap.push { cls := .type "list", data := .seq #[] }).push { cls := .type "dict", data := .dict #[] }) (C + 1) [] ⟨fun _ _ hm => (nomatch hm), List.Pairwise.nil⟩ (by rw [hsz2]; exact Nat.le_refl _)
  rw [hsz2] at ok
  have own : ∀ x c, (x, c) ∈ cellsFrom (C + 1) scope.names [] → h1.IsCell c none ∧ C + 1 ≤ c := fun x c h => by rw [hh]; exact ok.empty x c h
  have par : ∀ x c, X.env.cells.lookup x = some c → c < D := fun x c e => by
    obtain ⟨v, q⟩ := I.cell x c e
    rw [hD]; exact q.lt
  have fpD : ∀ b ∈ fp, b < D := fun b hb => by
    obtain ⟨o, e⟩ := hfo b hb
    rw [hD]; exact Heap.lt_size e
  have hCfree : H C = none := I.hok.fresh (by rw [hC, hD]; exact Nat.le_succ _)
  have split := fun x c (h : (cellsC X scope C).lookup x = some c) => cellsC_split (C := C) I S (PySem.mem_of_lookup h)
  have updn : ∀ b, b ≠ D → H b = none → (upd H D (.lst [])) b = none := fun b hb e => by rw [upd_ne hb]; exact e
  have capt : ∀ x, scope.names.lookup x = some .free → ∃ c, X.env.cells.lookup x = some c ∧ (cellsC X scope C).lookup x = some c := fun x hx => by
    have hm := PySem.mem_of_lookup hx
    obtain ⟨c0, h0⟩ := closOf_has (env := X.env) (acc := []) hm
    obtain ⟨c, hc⟩ := look_of_mem (l := cellsC X scope C) (x := x) (c := c0) (by unfold cellsC; rw [cellsFrom_app]; exact List.mem_append_right _ h0)
    refine ⟨c, ?_, hc⟩
    rcases split x c hc with q | q
    · rcases cellsFrom_cell q with z | z
      · simp at z
      · have := nodup_key S.ndn hm z; cases this
    · exact q
  have okX : (cxComp X N scope (cellsC X scope C) C s H fp).Ok := by
    refine ⟨I.ok.mod, S.kind, I.ok.glob, I.ok.blt, ?above, ?inj, ?has, ?cab, I.ok.hd, I.ok.frames, .inl rfl, ?exf, fun b o e => I.bs b o e, Nat.le_trans I.ok.bsz I.sz, ?noex, ?exfs, I.stack, I.stkFree⟩
    case above =>
      show s.heap.objs.size ≤ C
      rw [hC, hD]; exact Nat.le_succ _
    case inj =>
      intro x y c e1 e2
      rcases split x c e1 with q1 | q1 <;> rcases split y c e2 with q2 | q2
      · exact name_of_addr ok.apart q1 q2
      · have h1 : @LE.le Nat _ (C + 1) c := (own x c q1).2
        have h2 : @LT.lt Nat _ c D := par y c q2
        exfalso; omega
      · have h1 : @LE.le Nat _ (C + 1) c := (own y c q2).2
        have h2 : @LT.lt Nat _ c D := par x c q1
        exfalso; omega
      · exact I.ok.inj x y c q1 q2
    case has =>
      intro x hx
      have hx' : (relabel scope X.env).names.lookup x = some .cell ∨ (relabel scope X.env).names.lookup x = some .free := hx
      have hk : ∃ k', (x, k') ∈ scope.names ∧ (k' = .cell ∨ k' = .free) := by
        rcases hx' with q | q
        · obtain ⟨k', h1, h2⟩ := relabel_look q
          rcases h2 with h2 | ⟨h2, _⟩
          · exact ⟨k', h1, .inl h2.symm⟩
          · exact ⟨k', h1, .inr h2⟩
        · obtain ⟨k', h1, h2⟩ := relabel_look q
          rcases h2 with h2 | ⟨_, h2⟩
          · exact ⟨k', h1, .inr h2.symm⟩
          · cases h2
      obtain ⟨k', hm, hk | hk⟩ := hk
      · subst hk
        have q := PySem.W.cellsFrom_some scope.names (C + 1) (closOf X.env scope.names []) (x := x) (.inl (by
          obtain ⟨k2, hk2⟩ := look_of_mem hm
          rw [hk2, nodup_key S.ndn (PySem.mem_of_lookup hk2) hm]))
        exact Option.isSome_iff_exists.mp q
      · subst hk
        obtain ⟨c0, h0⟩ := closOf_has (env := X.env) (acc := []) hm
        exact look_of_mem (c := c0) (by show (x, c0) ∈ cellsC X scope C; unfold cellsC; rw [cellsFrom_app]; exact List.mem_append_right _ h0)
    case cab =>
      intro x c hx e
      have hx' : decide (scope.names.lookup x ≠ some .free) = true := hx
      have hx2 := of_decide_eq_true hx'
      show s.heap.objs.size ≤ c
      have e' : (cellsC X scope C).lookup x = some c := e
      have hm := PySem.mem_of_lookup e'
      unfold cellsC at hm
      rw [cellsFrom_app] at hm
      rcases List.mem_append.mp hm with z | z
      · have h1 : @LE.le Nat _ (C + 1) c := (own x c z).2
        have h2 : @LE.le Nat _ s.heap.objs.size c := by omega
        exact h2
      · rcases closOf_mem z with z | ⟨z, _⟩
        · simp at z
        · obtain ⟨k2, hk2⟩ := look_of_mem z
          exact absurd (by rw [hk2, nodup_key S.ndn (PySem.mem_of_lookup hk2) z]) hx2
    case exf =>
      intro b hb
      refine ⟨?_, fun x c e z => ?_⟩
      · have h1 : @LT.lt Nat _ b D := fpD b hb
        exact Nat.ne_of_lt (show @LT.lt Nat _ b C by omega)
      · rcases split x c e with q | q
        · have h1 : @LE.le Nat _ (C + 1) c := (own x c q).2
          have h2 : @LT.lt Nat _ b D := fpD b hb
          have z' : @Eq Nat c b := z
          omega
        · exact (hf b hb).2.2.2.2.1 x c q z
    case noex =>
      intro b o e hb
      rcases (hf b hb).2.2.2.1 with q | q
      · exact I.ok.noex b o e q
      · exact absurd (Nat.lt_of_lt_of_le (Heap.lt_size e) (Nat.le_trans I.ok.bsz q)) (Nat.lt_irrefl _)
    case exfs =>
      intro b hb z
      have z' : b ∈ frs X.stack := z
      rcases List.mem_cons.mp (I.stkSub b z') with q | q
      · exact (hf b hb).2.1 q
      · exact (hf b hb).2.2.1 q
  refine ⟨okX, rfl, I.bare, Un.laid old (by rw [hD]; exact Nat.le_refl _) (I.hok.fresh (by rw [hD]; exact Nat.le_refl _)), ⟨_, hns, ?loc⟩, ?cell, updn _ (show @Ne Nat C D by omega) hCfree, ?freeC, fun p hp => absurd hp (by simp), ?hok, ?len⟩
  case loc =>
    intro i x v e1 e2 e3
    obtain ⟨j, hi, hj, hv⟩ := compSt_at e2
    have hz : (x, j) ∈ (N.drop k).zip caps := by
      refine List.mem_iff_getElem?.mpr ⟨i - k, ?_⟩
      rw [List.getElem?_zip_eq_some]
      refine ⟨?_, hj⟩
      rw [List.getElem?_drop, show k + (i - k) = i by omega]
      exact e1
    obtain ⟨hp, hfr⟩ := S.cap (x, j) hz
    have hk := S.free (x, .free) (PySem.mem_of_lookup hfr) rfl
    obtain ⟨m, hn, hl⟩ := I.loc
    obtain ⟨u, r, l⟩ := hl j x v hp hv (by rcases hk with q | q; exact .inr (.inl q); exact .inr (.inr q))
    refine ⟨u, r, ?_⟩
    obtain ⟨c, hc1, hc2⟩ := capt x hfr
    have hcell : s.heap.IsCell c (some u) := by
      rcases l with ⟨q, _⟩ | ⟨_, c', q1, q2⟩
      · have q' : X.env.scope.names.lookup x = some .local := q
        rcases hk with z | z
        · rw [q'] at z; cases z
        · rw [q'] at z; cases z
      · rw [hc1] at q1; cases q1; exact q2
    exact .inr ⟨relabel_free hfr, c, hc2, hcell.keeps old⟩
  case cell =>
    intro x c e
    rcases split x c e with q | q
    · exact ⟨_, (own x c q).1⟩
    · obtain ⟨v, z⟩ := I.cell x c q
      exact ⟨v, z.keeps old⟩
  case freeC =>
    intro x c e
    rcases split x c e with q | q
    · have h1 : @LE.le Nat _ (C + 1) c := (own x c q).2
      have h2 : @LE.le Nat _ s.heap.objs.size c := by omega
      exact updn c (show @Ne Nat c D by omega) (I.hok.fresh h2)
    · exact updn c (Nat.ne_of_lt (par x c q)) (I.freeC x c q)
  case hok =>
    exact I.hok.laid old (by rw [hD]; exact Nat.le_refl _) ⟨Nat.zero_le _, [], 0, .nil, hacc⟩
  case len =>
    show (compSt k caps σ).length = N.length
    unfold compSt
    rw [List.length_append, List.length_replicate, List.length_map, S.len]

/-- at a turn's start the own names are forgotten, the others read anew: their cells stand as they stood -/
theorem comp_again {fp : List Addr} (I : Inv X pins σ H s) (S : CompScope X.env.scope X.N scope N k caps) {C : Addr} {pins' : List (Addr × Obj)} {σ' : St} {H' : Hp} {s' : Shared} (hfc : ∀ x c, X.env.cells.lookup x = some c → c ∉ fp) (hD : s.heap.objs.size ≤ C)
    (J : Inv (cxComp X N scope (cellsC X scope C) C s H fp) pins' σ' H' s') : Inv (cxComp X N scope (cellsC X scope C) C s H fp) pins' (compSt k caps σ) H' s' := by
  obtain ⟨m, hn, _⟩ := id J.loc
  refine ⟨J.ok, J.os, J.bare, J.base, ⟨m, hn, fun i x v e1 e2 e3 => ?_⟩, J.cell, J.free, J.freeC, J.pin, J.hok, ?_⟩
  · obtain ⟨j, hi, hj, hv⟩ := compSt_at e2
    have hz : (x, j) ∈ (N.drop k).zip caps := by
      refine List.mem_iff_getElem?.mpr ⟨i - k, ?_⟩
      rw [List.getElem?_zip_eq_some]
      refine ⟨?_, hj⟩
      rw [List.getElem?_drop, show k + (i - k) = i by omega]
      exact e1
    obtain ⟨hp, hfr⟩ := S.cap (x, j) hz
    have hk := S.free (x, .free) (PySem.mem_of_lookup hfr) rfl
    obtain ⟨m2, hn2, hl⟩ := I.loc
    obtain ⟨u, r, l⟩ := hl j x v hp hv (by rcases hk with q | q; exact .inr (.inl q); exact .inr (.inr q))
    refine ⟨u, r, ?_⟩
    have hcell : ∃ c, X.env.cells.lookup x = some c ∧ s.heap.IsCell c (some u) := by
      rcases l with ⟨q, _⟩ | ⟨_, c', q1, q2⟩
      · have q' : X.env.scope.names.lookup x = some .local := q
        rcases hk with z | z
        · rw [q'] at z; cases z
        · rw [q'] at z; cases z
      · exact ⟨c', q1, q2⟩
    obtain ⟨c, hc1, o, ho, hd⟩ := hcell
    have hc2 : (cellsC X scope C).lookup x = some c := by
      have hm := PySem.mem_of_lookup hfr
      obtain ⟨c0, h0⟩ := closOf_has (env := X.env) (acc := []) hm
      obtain ⟨c', hc'⟩ := look_of_mem (l := cellsC X scope C) (x := x) (c := c0) (by unfold cellsC; rw [cellsFrom_app]; exact List.mem_append_right _ h0)
      rcases cellsC_split (C := C) I S (PySem.mem_of_lookup hc') with q | q
      · rcases cellsFrom_cell q with z | z
        · simp at z
        · have := nodup_key S.ndn hm z; cases this
      · rw [hc1] at q; cases q; exact hc'
    obtain ⟨sl, q⟩ := J.base.any ho (I.freeC x c hc1) (hfc x c hc1)
    exact .inr ⟨relabel_free hfr, c, hc2, _, q, hd⟩
  · show (compSt k caps σ).length = N.length
    unfold compSt
    rw [List.length_append, List.length_replicate, List.length_map, S.len]
end

/-! ### the tests of a comprehension -/
def PF (X : Cx) (ifs : List Expr) (t : TT) : Prop :=
  ∀ (pins : List (Addr × Obj)) (s : Shared) (σ : St) (H : Hp) (Q : Bool → Hp → Prop), Inv X pins σ H s → t σ H Q →
    wpAny (model X.prog X.w) X.A (forIn ifs true fun c r => if r = true then do let ok ← isTrue c X.env (eval c X.env); pure (ForInStep.yield ok) else pure (ForInStep.yield r)) (TP X pins σ Q) X.xe s
def tYes : TT := fun _ H Q => Q true H
theorem pf_nil {X : Cx} : PF X [] tYes := fun _ _ _ H _ I h => wpAny_tests_nil ⟨H, I, h⟩
theorem pf_one {X : Cx} {c : Expr} {t : TT} (h : PT X c t) : PF X [c] t := fun pins s σ H Q I hw => wpAny_tests_one (h pins s σ H Q I hw)

theorem comp_loop {prog : Program} {w : World} {A : Around} {R : Result → Shared → Prop} {s : Shared} {elt target iter : Expr} {ifs : List Expr} {scope : Scope} {pos : Pos} {it acc : Value} {env : Env} (I : Nat → Shared → Prop)
    (turn : ∀ n s, I n s → wpAny (model prog w) A (pyNext it) (fun r s₁ => match r with
      | none => R (.ok .next) s₁
      | some v => wpAny (model prog w) A (letOwnedTupleGo target it v) (fun _ s₁ => wpAny (model prog w) A (assign target env v) (fun _ s₂ =>
          wpAny (model prog w) A (forIn ifs true fun c r => if r = true then do let ok ← isTrue c env (eval c env); pure (ForInStep.yield ok) else pure (ForInStep.yield r)) (fun ok s₃ =>
            if ok = true then wpAny (model prog w) A (eval elt env) (fun x s₄ =>
              wpAny (model prog w) A (call (.builtin "list.append") [acc, x]) (fun _ s₅ => ∃ m, m < n ∧ I m s₅) (fun _ _ => False) s₄) (fun _ _ => False) s₃
            else ∃ m, m < n ∧ I m s₃) (fun _ _ => False) s₂) (fun _ _ => False) s₁) (fun _ _ => False) s₁) (fun _ _ => False) s)
    (n : Nat) (h : I n s) :
    codeAny (model prog w) A (.compLoop (.ListComp elt [⟨target, iter, ifs, 0⟩] scope pos) 0 it acc env) R s := by
  refine codeAny_loop rfl I (fun n s hI => ?_) n h
  show wpAny _ A ((compTurn (.ListComp elt [⟨target, iter, ifs, 0⟩] scope pos) 0 it acc env).onRaise (fun x => do noteFrame x env; theTreesLotGoes x)) _ _ s
  refine wpAny_noted ?_
  rw [compTurn_list]
  refine wpAny_bind (wpAny_standAt (wpAny_bind (wpAny_mono (turn n s hI) (fun r s₁ h₁ => ?_) fun _ _ h' => h'.elim)))
  cases r with
  | none => exact wpAny_pure h₁
  | some v =>
    refine wpAny_bind (wpAny_mono h₁ (fun _ s₁ h₁ => ?_) fun _ _ h' => h'.elim)
    refine wpAny_bind (wpAny_mono h₁ (fun _ s₂ h₂ => wpAny_bind (wpAny_mono h₂ (fun ok s₃ h₃ => ?_) fun _ _ h' => h'.elim)) fun _ _ h' => h'.elim)
    cases ok with
    | false => exact wpAny_pure ⟨rfl, h₃⟩
    | true =>
      exact wpAny_bind (wpAny_bind (wpAny_mono h₃ (fun x s₄ h₄ => wpAny_bind (wpAny_mono h₄ (fun _ s₅ h₅ => wpAny_pure (wpAny_pure ⟨rfl, h₅⟩)) fun _ _ h' => h'.elim)) fun _ _ h' => h'.elim))

/-- [e for target in iter if c]: the new list at D; W: the invariant by the turn, a measure and the items so far -/
def tComp (k : Nat) (caps : List Nat) (wi : TI) (g : TG) (tc : TT) (te : TE) : TE := fun σ H Q => wi σ H fun J H1 => ∀ D, H1 D = none → ∃ W : Nat → Nat → List V → Hp → Prop, (∃ m, W 0 m [] (upd H1 D (.lst []))) ∧ ∀ i m ys H2, W i m ys H2 →
  (J.stop i H2 ∧ Q (.ref D) H2) ∨ (J.go i H2 ∧ ∀ x H3, J.yld i H2 x H3 → g x (compSt k caps σ) H3 fun σ4 H4 => tc σ4 H4 fun b H5 =>
    if b = true then te σ4 H5 fun y H6 => H6 D = some (.lst ys) ∧ ys.length < sizeLine ∧ ∃ m', m' < m ∧ W (i + 1) m' (ys ++ [y]) (upd H6 D (.lst (ys ++ [y]))) else ∃ m', m' < m ∧ W (i + 1) m' ys H5)

/-- the block runs: the state behind it as the code around sees it -/
theorem comp_block {X : Cx} {elt iter tg : Expr} {ifs : List Expr} {scope : Scope} {pos : Pos} {N : List Str} {k : Nat} {caps : List Nat} {g : TG} {tc : TT} {te : TE} {pins : List (Addr × Obj)} {σ : St} {H : Hp} {s : Shared} {E : Value → Shared → Prop} {Q : VK}
    {it : Addr} {fp : List Addr} {tn : Nat → Heap → Prop} {J : It} {RR : Value → Addr → Result → Shared → Prop} (hc : X.calm = true) (S : CompScope X.env.scope X.N scope N k caps) (I : Inv X pins σ H s)
    (T : Turn X.prog X.w X.K tg J fp it tn) (st : tn 0 s.heap) (hf : ∀ b ∈ fp, FpOk X pins H b)
    (hg : ∀ cs C s H ex, PG (cxComp X N scope cs C s H ex) tg g) (ht : ∀ cs C s H ex, PF (cxComp X N scope cs C s H ex) ifs tc) (he : ∀ cs C s H ex, PE (cxComp X N scope cs C s H ex) elt te)
    (q : ∀ D, H D = none → ∃ W : Nat → Nat → List V → Hp → Prop, (∃ m, W 0 m [] (upd H D (.lst []))) ∧ ∀ i m ys H2, W i m ys H2 →
      (J.stop i H2 ∧ Q (.ref D) H2) ∨ (J.go i H2 ∧ ∀ x H3, J.yld i H2 x H3 → g x (compSt k caps σ) H3 fun σ4 H4 => tc σ4 H4 fun b H5 =>
        if b = true then te σ4 H5 fun y H6 => H6 D = some (.lst ys) ∧ ys.length < sizeLine ∧ ∃ m', m' < m ∧ W (i + 1) m' (ys ++ [y]) (upd H6 D (.lst (ys ++ [y]))) else ∃ m', m' < m ∧ W (i + 1) m' ys H5))
    (hRR : ∀ D C H' s' m, C ≠ X.env.locals → (∀ x c, X.env.cells.lookup x = some c → c ≠ C) → s'.heap.Ns C m → (∀ h', Heap.SameBut C s'.heap h' → Inv X pins σ H' { s' with heap := h' }) → H' C = none → s.heap.objs.size ≤ C → Q (.ref D) H' → RR (.ref D) C (.ok .next) s') :
    wpAny (model X.prog X.w) X.A (newList []) (fun acc s₃ => wpAny (model X.prog X.w) X.A (newFunctionEnv scope X.env.globals (closOf X.env scope.names []) [] X.env.qual none .none (some X.env)) (fun cenv s₄ =>
      codeAny (model X.prog X.w) X.A (.compStart (.ListComp elt [⟨tg, iter, ifs, 0⟩] scope pos) 0 (.ref it) acc { cenv with scope := relabel scope X.env }) (RR acc cenv.locals) s₄) E s₃) E s := by
  refine wpAny_newObj_type (nfe_comp ?_)
  generalize hD : s.heap.objs.size = D
  have hsz1 : (s.heap.push { cls := .type "list", dict := none, data := .seq ([] : List Value).toArray }).objs.size = D + 1 := by rw [Heap.size_push, hD]
  dsimp only
  rw [hsz1]
  have hfo : ∀ b ∈ fp, ∃ o, s.heap.get? b = some o := fun b hb => let ⟨o, e, _⟩ := T.obj 0 _ st b hb; ⟨o, e⟩
  have hHD : H D = none := I.hok.fresh (by rw [hD]; exact Nat.le_refl _)
  have J0 := comp_start (t' := s.toks) I S hf hfo (D := D) (C := D + 1) hD.symm rfl rfl
  have hfc : ∀ x c, X.env.cells.lookup x = some c → c ∉ fp := fun x c e hb => (hf c hb).2.2.2.2.1 x c e rfl
  have fpo : ∀ {pins' : List (Addr × Obj)} {H' : Hp}, (∀ b ∈ fp, H' b = none) → pins' = [] → ∀ b ∈ fp, FpOk (cxComp X N scope (cellsC X scope (D + 1)) (D + 1) s H fp) pins' H' b := fun {pins' H'} hn hp b hb => by
    obtain ⟨o, e⟩ := hfo b hb
    have hlt : @LT.lt Nat _ b D := by rw [← hD]; exact Heap.lt_size e
    subst hp
    refine ⟨hn b hb, ?_, fun z => ?_, .inl hb, fun x c e => (J0.ok.exf b hb).2 x c e, fun p hp => absurd hp (by simp)⟩
    · show @Ne Nat b (D + 1)
      omega
    · have z' : b ∈ frs X.stack := z
      rcases List.mem_cons.mp (I.stkSub b z') with w | w
      · exact (hf b hb).2.1 w
      · exact (hf b hb).2.2.1 w
  obtain ⟨W, ⟨m0, w0⟩, turn⟩ := q D hHD
  have st1 : tn 0 (pushCells ((s.heap.push { cls := .type "list", data := .seq #[] }).push { cls := .type "dict", data := .dict #[] }) scope.names) := T.keep 0 _ _ st fun b hb o e => pushCells_keeps _ _ b o (Heap.get?_push_of_some _ (Heap.get?_push_of_some _ e))
  have fr0 : ∀ b ∈ fp, (upd H D (.lst [])) b = none := fun b hb => by
    obtain ⟨o, e⟩ := hfo b hb
    have hlt : @LT.lt Nat _ b D := by rw [← hD]; exact Heap.lt_size e
    rw [upd_ne (show @Ne Nat b D by omega)]
    exact (hf b hb).1
  have fin : ∀ {H' : Hp} {s' : Shared} {σ' : St} {pins' : List (Addr × Obj)}, Inv (cxComp X N scope (cellsC X scope (D + 1)) (D + 1) s H fp) pins' σ' H' s' → Q (.ref D) H' → RR (.ref D) (D + 1) (.ok .next) s' := fun {H' s' σ' pins'} J q => by
    obtain ⟨m, hn, _⟩ := id J.loc
    refine hRR D (D + 1) H' s' m (fun z => ?_) (fun x c e z => ?_) hn (fun h' hs => ?_) J.free (by rw [hD]; exact Nat.le_succ _) q
    · have h1 : @LT.lt Nat _ X.env.locals D := by rw [← hD]; exact I.lt
      have z' : @Eq Nat (D + 1) X.env.locals := z
      omega
    · obtain ⟨v, y⟩ := I.cell x c e
      have h1 : @LT.lt Nat _ c D := by rw [← hD]; exact y.lt
      have z' : @Eq Nat c (D + 1) := z
      omega
    · refine I.call' (ch := fp) J.os (J.base.but hs (by rw [hD]; exact Nat.le_succ _)) (J.hok.but hs J.free) J.bare fun b hb => ?_
      exact ⟨(hf b hb).2.2.2.1, (hf b hb).2.1, (hf b hb).2.2.2.2.1, (hf b hb).2.2.2.2.2⟩
  have loop : codeAny (model X.prog X.w) X.A (.compLoop (.ListComp elt [⟨tg, iter, ifs, 0⟩] scope pos) 0 (.ref it) (.ref D) (compEnvC scope (cellsC X scope (D + 1)) (D + 1) X.env)) (RR (.ref D) (D + 1))
      { s with heap := pushCells ((s.heap.push { cls := .type "list", data := .seq #[] }).push { cls := .type "dict", data := .dict #[] }) scope.names } := by
    refine comp_loop (fun n s' => ∃ i ys H', Inv (cxComp X N scope (cellsC X scope (D + 1)) (D + 1) s H fp) [] (compSt k caps σ) H' s' ∧ tn i s'.heap ∧ (∀ b ∈ fp, H' b = none) ∧ W i n ys H') ?_ m0 ⟨0, [], _, J0, st1, fr0, w0⟩
    rintro n s3 ⟨i, ys, H3, I3, st3, fr3, w3⟩
    rcases turn i n ys H3 w3 with ⟨stop, qn⟩ | ⟨go, step⟩
    · refine thn (T.done (cxComp X N scope (cellsC X scope (D + 1)) (D + 1) s H fp) rfl rfl rfl hc i [] s3 _ H3 _ I3 (fpo fr3 rfl) st3 stop) fun r s4 ⟨hr, I4⟩ => ?_
      subst hr
      exact fin I4 qn
    · refine thn (T.item (cxComp X N scope (cellsC X scope (D + 1)) (D + 1) s H fp) rfl rfl rfl hc i [] s3 _ H3 _ I3 (fpo fr3 rfl) st3 go) fun r s4 ⟨u, hr, h4⟩ => ?_
      subst hr
      refine thn h4 fun _ s5 ⟨x, H5, I5, r5, y5, st5, fr5⟩ => ?_
      have I5' := I5.pinned (fpo fr5 rfl) (T.obj _ _ st5)
      have again : ∀ {σ7 : St} {H7 : Hp} {s7 : Shared} {m' : Nat} {zs : List V}, Inv (cxComp X N scope (cellsC X scope (D + 1)) (D + 1) s H fp) ([] ++ pinsAt fp s5.heap) σ7 H7 s7 → m' < n → W (i + 1) m' zs H7 →
          ∃ m, m < n ∧ ∃ i ys H', Inv (cxComp X N scope (cellsC X scope (D + 1)) (D + 1) s H fp) [] (compSt k caps σ) H' s7 ∧ tn i s7.heap ∧ (∀ b ∈ fp, H' b = none) ∧ W i m ys H' := fun {σ7 H7 s7 m' zs} I7 hm w7 => by
        refine ⟨m', hm, i + 1, zs, H7, comp_again I S hfc (by rw [hD]; exact Nat.le_succ _) I7.unpinned, T.keep _ _ _ st5 fun b hb o e => (I7.pin (b, o) (List.mem_append_right _ (List.mem_append_right _ (mem_pinsAt hb e)))).1, fun b hb => ?_, w7⟩
        obtain ⟨o, e, d⟩ := T.obj _ _ st5 b hb
        exact (I7.pin (b, o) (List.mem_append_right _ (List.mem_append_right _ (mem_pinsAt hb e)))).2.1
      refine thn (hg _ _ _ _ _ _ s5 _ H5 x u _ I5' r5 (step x H5 y5)) fun _ s6 ⟨σ6, H6, I6, q6⟩ => ?_
      refine thn (ht _ _ _ _ _ _ s6 σ6 H6 _ I6 q6) fun b s7 ⟨H7, I7, q7⟩ => ?_
      cases b with
      | false =>
        rw [if_neg Bool.false_ne_true] at q7 ⊢
        obtain ⟨m', hm, w7⟩ := q7
        exact again I7 hm w7
      | true =>
        rw [if_pos rfl] at q7 ⊢
        refine thn (he _ _ _ _ _ _ s7 σ6 H7 _ I7 q7) fun y s8 ⟨yv, H8, I8, r8, hD8, hz8, m', hm, w8⟩ => ?_
        refine thn (mt_append (X := cxComp X N scope (cellsC X scope (D + 1)) (D + 1) s H fp) _ s8 σ6 H8 (.ref D) [yv] (.ref D) [y] (fun _ H9 => W (i + 1) m' (ys ++ [yv]) H9) I8 rfl (.cons r8 .nil) ⟨D, ys, yv, rfl, rfl, hD8, hz8, w8⟩) fun _ s9 ⟨_, H9, I9, _, w9⟩ => ?_
        exact again I9 hm w9
  exact codeAny_compStart_list loop (T.self _ 0 _ _ _ st1 loop)

theorem pe_comp {X : Cx} {elt iter tg : Expr} {ifs : List Expr} {scope : Scope} {pos : Pos} {N : List Str} {k : Nat} {caps : List Nat} {wi : TI} {g : TG} {tc : TT} {te : TE} (hc : X.calm = true) (S : CompScope X.env.scope X.N scope N k caps) (hi : PI X tg iter wi)
    (hg : ∀ cs C s H ex, PG (cxComp X N scope cs C s H ex) tg g) (ht : ∀ cs C s H ex, PF (cxComp X N scope cs C s H ex) ifs tc) (he : ∀ cs C s H ex, PE (cxComp X N scope cs C s H ex) elt te)
    (hs : ∀ x, foldedSetIterable iter X.env x = pure x := by intro _; rfl) : PE X (.ListComp elt [⟨tg, iter, ifs, 0⟩] scope pos) (tComp k caps wi g tc te) := by
  intro pins s σ H Q I h
  have hcl : closureFor scope X.env = pure (closOf X.env scope.names []) := closureFor_of fun x hx hfr => I.ok.has x.1 (S.free x hx hfr)
  rw [eval_ListComp]
  refine wpAny_comprehension_free (use := none) rfl hs hcl S.kind S.loc (thn (hi pins s σ H _ I h) fun v s1 h1 => thn h1 fun itv s2 h2 => ?_)
  obtain ⟨it, fp, tn, J, H2, e, I2, T, st2, f2, q⟩ := h2
  subst e
  refine comp_block (Q := Q) hc S I2 T st2 f2 hg ht he q ?_
  intro D C H' s' m _ _ hn hI _ _ hq
  exact ⟨m, hn, fun h' hs' => ⟨.ref D, H', hI h' hs', rfl, hq⟩⟩

/-- x = [e for ..], where the store comes ahead of the block's end -/
theorem ps_setC {X : Cx} {elt iter tg : Expr} {ifs : List Expr} {scope : Scope} {pos spos : Pos} {N : List Str} {k i : Nat} {x : Str} {pos' : Pos} {caps : List Nat} {wi : TI} {g : TG} {tc : TT} {te : TE} (hN : X.N.Nodup) (hi' : X.N[i]? = some x) (hx : Loc X.env.scope x)
    (hc : X.calm = true) (S : CompScope X.env.scope X.N scope N k caps) (hi : PI X tg iter wi)
    (hg : ∀ cs C s H ex, PG (cxComp X N scope cs C s H ex) tg g) (ht : ∀ cs C s H ex, PF (cxComp X N scope cs C s H ex) ifs tc) (he : ∀ cs C s H ex, PE (cxComp X N scope cs C s H ex) elt te)
    (hsw : swapsWith (.ListComp elt [⟨tg, iter, ifs, 0⟩] scope pos) (some (.Name x pos')) spos.line X.env = pure true := by rfl)
    (hs : ∀ x, foldedSetIterable iter X.env x = pure x := by intro _; rfl) (hfn : X.fn x = true ∨ X.env.scope.names.lookup x = some .local := by first | exact .inl rfl | exact .inr rfl | assumption) :
    PS X (.Assign [.Name x pos'] (.ListComp elt [⟨tg, iter, ifs, 0⟩] scope pos) spos) (tAsg (tComp k caps wi g tc te) (gName i)) := by
  intro pins s σ H D I h
  have hcl : closureFor scope X.env = pure (closOf X.env scope.names []) := closureFor_of fun x hx hfr => I.ok.has x.1 (S.free x hx hfr)
  rw [exec_Assign_Name_used _ _ _ _ hsw]
  refine wpAny_bind (wpAny_standAt (wpAny_bind ?_))
  show wpAny _ _ (do let _ ← comprehension (.ListComp elt [⟨tg, iter, ifs, 0⟩] scope pos) scope X.env _ (newList []) false (eval iter X.env) (some (assign (.Name x pos') X.env))) _ _ s
  refine wpAny_bind (wpAny_mono (wpAny_comprehension_free (use := some (assign (.Name x pos') X.env)) (Q := fun _ s' => SP X pins D .next s') rfl hs hcl S.kind S.loc
    (thn (hi pins s σ H _ I h) fun v s1 h1 => thn h1 fun itv s2 h2 => ?_)) (fun _ s' hq => wpAny_pure (wpAny_pure hq)) fun _ _ e => e)
  obtain ⟨it, fp, tn, J, H2, e, I2, T, st2, f2, q⟩ := h2
  subst e
  refine comp_block (Q := fun x H1 => gName i x σ H1 D.nx) hc S I2 T st2 f2 hg ht he q ?_
  intro D' C H' s' m hCL hCc hn hI hHC hCs hq
  have I3 := hI s'.heap (.refl ..)
  have I3' : Inv X pins σ H' s' := I3
  refine wpAny_assign_Name (store_ok2 I3' hN hi' hx (show RelV (V.ref D') (.ref D') from rfl) (fun s'' I4 ⟨a, hsb, ha⟩ => ?_) hfn)
  have hCa : C ≠ a := by
    rcases ha with ha | ha
    · rw [ha]; exact hCL
    · exact Ne.symm (hCc x a ha)
  refine ⟨m, hn.sameBut hsb hCa, fun h' hs' => ?_⟩
  refine ⟨_, H', ?_, hq⟩
  exact I4.turned (t' := s''.toks) (fun b o hb e => (hs'.2 b hb).trans e) hHC hCL (.inr (Nat.le_trans I2.sz hCs)) hCc fun p hp z => by
    have := Heap.lt_size (I2.pin p hp).1
    rw [z] at this
    exact absurd (Nat.lt_of_lt_of_le this hCs) (Nat.lt_irrefl _)
end L2

namespace L2
open PySem PySem.Spec PyProof.Rows
/-- a def of the text that may be called by its name: its promise, its address, how it binds -/
def Callee (P : Program) (w : World) (K : PySem.W.Frag) (mg : Str → Option Value) (base : Heap) (x : Str) (k : Nat) (ps : List Str) (sp : Sp) : Prop :=
  ∃ f fd, FnOk P w K mg base CX0 k f fd ps sp ∧ mg x = some (.ref f) ∧ PySem.W.keepIn K (.ref f) = true ∧ Binds K fd ps []
section
variable {X : Cx} {x : Str} {k : Nat} {ps : List Str} {sp : Sp} {e : Expr} {es : List Expr} {t : TA} {p pos : Pos}
theorem pe_fn (C : Callee X.prog X.w X.K X.mg X.base x k ps sp) (ha : PA X (e :: es) t) (hr : Room k X.A := by exact Room.mono (by assumption) (by decide)) (hg : Gl X x := by rfl) (hdb : (x == ("__debug__" : Str)) = false := by decide)
    (he : starEach (e :: es) X.env = (false, eval e X.env) :: starEach es X.env := by rfl) (hpl : (backTo pos (starEach es X.env)).any (·.1) = false := by rfl) : PE X (.Call (.Name x p) (e :: es) [] pos) (tCall sp [] E0 t) := by
  obtain ⟨f, fd, F, hm, hk, hb⟩ := C
  exact pe_call F hr hg hm hk hb .nil pass0 ha hdb he hpl
end
theorem pe_ty {X : Cx} {x : Str} {pos : Pos} (n : String) (hg : Gl X x) (hm : X.mg x = none) (hv : bootBuiltins x = some (.type n)) (hn : x ≠ "__name__" := by decide) (hd : (x == ("__debug__" : Str)) = false := by decide) : PE X (.Name x pos) (tC (.ty n)) := pe_bltn (v := .ty n) hg hm hv rfl hn hd
theorem seq_cut {t u : TS} {D : Ends} {σ : L2.St} {H : Hp} (P : L2.St → Hp → Prop) (hu : ∀ σ' H', P σ' H' → u D σ' H') (ht : ∀ N : L2.St → Hp → Prop, (∀ σ' H', P σ' H' → N σ' H') → t { D with nx := N } σ H) : tSeq t u D σ H := ht (u D) hu
/-! ### comprehensions whose element leaves what was tracked -/
theorem Same.upd {H H' : Hp} {D : Addr} {o : HO} (h : Same H H') (hn : H D = none) : Same H (upd H' D o) := fun b u e => by
  rw [upd_ne (ne_of_none e hn)]; exact h b u e
theorem Same.seqT {K : PySem.W.Frag} {H H' : Hp} {a : Addr} {xs : List V} (e : Same H H') (h : SqT K H a xs) : SqT K H' a xs := by
  rcases h with (h | ⟨o, h⟩) | h
  · exact .inl (.inl (e _ _ h))
  · exact .inl (.inr ⟨o, e _ _ h⟩)
  · exact .inr h
/-- over a range, no test: the items are f 0, f 1, .. -/
theorem comp_range {k : Nat} {caps : List Nat} {g : TG} {te : TE} {σ : St} {H1 : Hp} {Q : Addr → Hp → Prop} {lo : Int} {n : Nat} (f : Nat → V) (hn : n ≤ sizeLine)
    (hs : ∀ (i : Nat) (H2 : Hp) (D : Addr) (R : VK), i < n → Same H1 H2 → H1 D = none → (∀ H3, Same H2 H3 → R (f i) H3) → g (.int (lo + i)) (compSt k caps σ) H2 fun σ4 H4 => te σ4 H4 R)
    (hd : ∀ (H2 : Hp) (D : Addr), Same H1 H2 → H1 D = none → H2 D = some (.lst ((List.range n).map f)) → Q D H2) :
    ∀ D, H1 D = none → ∃ W : Nat → Nat → List V → Hp → Prop, (∃ m, W 0 m [] (upd H1 D (.lst []))) ∧ ∀ i m ys H2, W i m ys H2 →
      ((Itr lo n).stop i H2 ∧ Q D H2) ∨ ((Itr lo n).go i H2 ∧ ∀ x H3, (Itr lo n).yld i H2 x H3 → g x (compSt k caps σ) H3 fun σ4 H4 => tYes σ4 H4 fun b H5 =>
        if b = true then te σ4 H5 fun y H6 => H6 D = some (.lst ys) ∧ ys.length < sizeLine ∧ ∃ m', m' < m ∧ W (i + 1) m' (ys ++ [y]) (upd H6 D (.lst (ys ++ [y]))) else ∃ m', m' < m ∧ W (i + 1) m' ys H5) := by
  intro D hD
  refine ⟨fun i m ys H2 => m = n - i ∧ i ≤ n ∧ ys = (List.range i).map f ∧ Same H1 H2 ∧ H2 D = some (.lst ys), ⟨n, rfl, Nat.zero_le _, rfl, (Same.refl _).upd hD, upd_same⟩, ?_⟩
  rintro i m ys H2 ⟨rfl, hi, rfl, s2, e2⟩
  by_cases hlt : i < n
  · refine .inr ⟨hlt, fun x H3 y => ?_⟩
    obtain ⟨rfl, rfl⟩ := y
    refine hs i H3 D _ hlt s2 hD fun H4 s4 => ?_
    refine ⟨s4 _ _ e2, by rw [List.length_map, List.length_range]; omega, n - (i + 1), by omega, rfl, hlt, ?_, (s2.trans s4).upd hD, upd_same⟩
    rw [List.range_succ, List.map_append]
    rfl
  · have e : i = n := by omega
    subst e
    exact .inl ⟨Nat.le_refl _, hd H2 D s2 hD e2⟩
/-- over a list that stays, no test -/
theorem comp_list {K : PySem.W.Frag} {a : Addr} {xs : List V} {k : Nat} {caps : List Nat} {g : TG} {te : TE} {σ : St} {H1 : Hp} {Q : Addr → Hp → Prop} (f : V → V) (hn : xs.length ≤ sizeLine) (hq : SqL K H1 a xs)
    (hs : ∀ (i : Nat) (x : V) (H2 : Hp) (D : Addr) (R : VK), xs[i]? = some x → Same H1 H2 → H1 D = none → (∀ H3, Same H2 H3 → R (f x) H3) → g x (compSt k caps σ) H2 fun σ4 H4 => te σ4 H4 R)
    (hd : ∀ (H2 : Hp) (D : Addr), Same H1 H2 → H1 D = none → H2 D = some (.lst (xs.map f)) → Q D H2) :
    ∀ D, H1 D = none → ∃ W : Nat → Nat → List V → Hp → Prop, (∃ m, W 0 m [] (upd H1 D (.lst []))) ∧ ∀ i m ys H2, W i m ys H2 →
      ((Itl K a).stop i H2 ∧ Q D H2) ∨ ((Itl K a).go i H2 ∧ ∀ x H3, (Itl K a).yld i H2 x H3 → g x (compSt k caps σ) H3 fun σ4 H4 => tYes σ4 H4 fun b H5 =>
        if b = true then te σ4 H5 fun y H6 => H6 D = some (.lst ys) ∧ ys.length < sizeLine ∧ ∃ m', m' < m ∧ W (i + 1) m' (ys ++ [y]) (upd H6 D (.lst (ys ++ [y]))) else ∃ m', m' < m ∧ W (i + 1) m' ys H5) := by
  intro D hD
  refine ⟨fun i m ys H2 => m = xs.length - i ∧ i ≤ xs.length ∧ ys = (xs.take i).map f ∧ Same H1 H2 ∧ H2 D = some (.lst ys), ⟨xs.length, rfl, Nat.zero_le _, rfl, (Same.refl _).upd hD, upd_same⟩, ?_⟩
  rintro i m ys H2 ⟨rfl, hi, rfl, s2, e2⟩
  have q2 := s2.seq hq
  by_cases hlt : i < xs.length
  · refine .inr ⟨⟨xs, xs[i], q2, by simp [hlt]⟩, fun x H3 y => ?_⟩
    obtain ⟨rfl, y⟩ := y
    have hx := y xs q2
    refine hs i x H3 D _ hx s2 hD fun H4 s4 => ?_
    refine ⟨s4 _ _ e2, by rw [List.length_map, List.length_take]; omega, xs.length - (i + 1), by omega, rfl, hlt, ?_, (s2.trans s4).upd hD, upd_same⟩
    rw [List.take_succ, hx, List.map_append]
    rfl
  · have e : i = xs.length := by omega
    subst e
    rw [List.take_length] at e2
    exact .inl ⟨⟨xs, q2, Nat.le_refl _⟩, hd H2 D s2 hD e2⟩
/-- over the signs of a text, no test -/
theorem comp_str {x : Str} {k : Nat} {caps : List Nat} {g : TG} {te : TE} {σ : St} {H1 : Hp} {Q : Addr → Hp → Prop} (f : Nat → V) (hn : x.cps.size ≤ sizeLine)
    (hs : ∀ (i c : Nat) (H2 : Hp) (D : Addr) (R : VK), x.cps[i]? = some c → Same H1 H2 → H1 D = none → (∀ H3, Same H2 H3 → R (f c) H3) → g (.str ⟨#[c]⟩) (compSt k caps σ) H2 fun σ4 H4 => te σ4 H4 R)
    (hd : ∀ (H2 : Hp) (D : Addr), Same H1 H2 → H1 D = none → H2 D = some (.lst (x.cps.toList.map f)) → Q D H2) :
    ∀ D, H1 D = none → ∃ W : Nat → Nat → List V → Hp → Prop, (∃ m, W 0 m [] (upd H1 D (.lst []))) ∧ ∀ i m ys H2, W i m ys H2 →
      ((Its x).stop i H2 ∧ Q D H2) ∨ ((Its x).go i H2 ∧ ∀ y H3, (Its x).yld i H2 y H3 → g y (compSt k caps σ) H3 fun σ4 H4 => tYes σ4 H4 fun b H5 =>
        if b = true then te σ4 H5 fun y H6 => H6 D = some (.lst ys) ∧ ys.length < sizeLine ∧ ∃ m', m' < m ∧ W (i + 1) m' (ys ++ [y]) (upd H6 D (.lst (ys ++ [y]))) else ∃ m', m' < m ∧ W (i + 1) m' ys H5) := by
  intro D hD
  refine ⟨fun i m ys H2 => m = x.cps.size - i ∧ i ≤ x.cps.size ∧ ys = (x.cps.toList.take i).map f ∧ Same H1 H2 ∧ H2 D = some (.lst ys), ⟨x.cps.size, rfl, Nat.zero_le _, rfl, (Same.refl _).upd hD, upd_same⟩, ?_⟩
  rintro i m ys H2 ⟨rfl, hi, rfl, s2, e2⟩
  by_cases hlt : i < x.cps.size
  · refine .inr ⟨hlt, fun y H3 hy => ?_⟩
    obtain ⟨rfl, c, hc, rfl⟩ := hy
    have hc' : x.cps.toList[i]? = some c := by simpa using hc
    refine hs i c H3 D _ hc s2 hD fun H4 s4 => ?_
    refine ⟨s4 _ _ e2, by rw [List.length_map, List.length_take]; omega, x.cps.size - (i + 1), by omega, rfl, hlt, ?_, (s2.trans s4).upd hD, upd_same⟩
    rw [List.take_succ, hc', List.map_append]
    rfl
  · have e : i = x.cps.size := by omega
    rw [e, List.take_of_length_le (by simp)] at e2
    exact .inl ⟨e, hd H2 D s2 hD e2⟩
end L2

namespace L2
open PySem PySem.Spec PyProof.Rows
/-- a text by its codes -/
abbrev tx (cs : List Nat) : Str := ⟨cs.toArray⟩
theorem tx_list (cs : List Nat) : (tx cs).cps.toList = cs := by simp [tx]
theorem tx_len (cs : List Nat) : (tx cs).length = cs.length := by simp [tx, Str.length]
theorem tx_inj {a b : List Nat} (h : tx a = tx b) : a = b := by
  have := congrArg (fun s => s.cps.toList) h
  simpa [tx] using this
theorem app_lst (a y : Str) : (a ++ y).cps.toList = a.cps.toList ++ y.cps.toList := by rw [PySem.Str.cps_append, Array.toList_append]
theorem join_tx (ys : List Str) : (Txt.join (Str.ofString "") ys).cps.toList = (ys.map fun y => y.cps.toList).flatten := by
  show (Builtin.Str.glued (Str.ofString "") ys).cps.toList = _
  rw [StrLaws.glued_eq_join]
  induction ys with
  | nil => rfl
  | cons a r ih =>
    cases r with
    | nil => simp [Str.join]
    | cons b r =>
      rw [join_cons_cons, app_lst, app_lst, ih]
      have z : (Str.ofString "").cps.toList = [] := by decide +kernel
      rw [z]
      simp
theorem join_sing (cs : List Nat) : Txt.join (Str.ofString "") (cs.map fun c => (⟨#[c]⟩ : Str)) = tx cs := by
  refine ext_toList ?_
  rw [join_tx, tx_list, List.map_map]
  induction cs with
  | nil => rfl
  | cons c r ih =>
    rw [List.map_cons, List.flatten_cons, ih]
    rfl
theorem joinOk_small {ys : List Str} (h : ∀ y ∈ ys, y.length ≤ 8) (hn : ys.length ≤ 100) : JoinOk (Str.ofString "") ys = true := by
  refine joinOk_of_weight ?_ (by decide +kernel)
  have : (ys.map (·.length)).sum ≤ 8 * ys.length := by
    clear hn
    induction ys with
    | nil => simp
    | cons a r ih =>
      have h1 := h a (by simp)
      have h2 := ih fun y hy => h y (by simp [hy])
      simp only [List.map_cons, List.sum_cons, List.length_cons]
      omega
  omega
theorem lt_sing {c d : Nat} : (decide (([c] : List Nat) < [d])) = decide (c < d) := by
  by_cases h : c < d
  · rw [decide_eq_true h, decide_eq_true]
    exact List.Lex.rel h
  · rw [decide_eq_false h, decide_eq_false]
    intro q
    cases q with
    | rel q => exact h q
    | cons q => cases q
/-- a cell of the script, 0 where there is none -/
def cellAt (ns : List Int) (k : Int) : Int := (ns[k.toNat]?).getD 0
theorem seq_setC {v : V} {i : Nat} {u : TS} {D : Ends} {σ : St} {H : Hp} (h : u D (σ.set i (some v)) H) : tSeq (tAsg (tC v) (gName i)) u D σ H := h
theorem ixN_in {n : Nat} {k : Int} (h0 : 0 ≤ k) (h1 : k < n) : ixN n k = some k.toNat := by
  unfold ixN
  rw [if_pos h0, if_pos h1]
end L2
namespace L2
open PySem PySem.Spec PyProof.Rows
theorem cutV_take (xs : List V) (n : Nat) : cutV xs none (some (n : Int)) = xs.take n := by
  unfold cutV
  rw [HT.sIx_none, HT.sIx_nat, List.drop_zero, Nat.sub_zero]
  by_cases h : n ≤ xs.length
  · rw [Nat.min_eq_left h]
  · rw [Nat.min_eq_right (by omega), List.take_of_length_le (Nat.le_refl _), List.take_of_length_le (by omega)]
theorem cutV_drop (xs : List V) (n : Nat) : cutV xs (some (n : Int)) none = xs.drop n := by
  unfold cutV
  rw [HT.sIx_none, HT.sIx_nat]
  by_cases h : n ≤ xs.length
  · rw [Nat.min_eq_left h, List.take_of_length_le (by rw [List.length_drop]; exact Nat.le_refl _)]
  · rw [Nat.min_eq_right (by omega), List.drop_of_length_le (Nat.le_refl _), List.drop_of_length_le (by omega)]
    simp
theorem same_new {H : Hp} {p : Addr} {o : HO} (h : H p = none) : Same H (upd H p o) := (Same.refl H).upd h
end L2

namespace L2
open PySem PySem.Spec PyProof.Rows
theorem g_in {i : Nat} {v : V} {σ : L2.St} {H : Hp} {N : L2.St → Hp → Prop} (h : N (σ.set i (some v)) H) : gName i v σ H N := h
section
variable {X : Cx}
theorem mr_append : MtR X "list.append" rAppend := mt_append
theorem mr_extend : MtR X "list.extend" rExtend := mt_extend
theorem mr_clear : MtR X "list.clear" rClear := mt_clear
end
abbrev xMod : R2 := rI (fun _ j => 0 < j) fun i j => .int (i % j)
abbrev xDiv : R2 := rI CDiv fun i j => .int (i / j)
abbrev xMul : R2 := rI CMul fun i j => .int (i * j)
abbrev xAdd : R2 := rI0 fun i j => .int (i + j)
end L2

namespace L2
open PySem PySem.Spec PyProof.Rows
section
variable {X : Cx}
/-- d.setdefault(k, x) -/
def rSetD : V → List V → Hp → VK → Prop := fun x vs H Q => ∃ a kvs k d, x = .ref a ∧ vs = [kV k, d] ∧ H a = some (.dK kvs) ∧ kvs.length < sizeLine ∧ (∀ v, valV kvs k = some v → Q v H) ∧ (valV kvs k = none → Q d (upd H a (.dK (putK kvs k d))))
theorem mt_setdefault : MtR X "dict.setdefault" rSetD := by
  intro pins s σ H x vs v us Q I rx rv h
  obtain ⟨a, kvs, k, d, rfl, rfl, hd, hz, q1, q2⟩ := h
  cases rx
  obtain ⟨u, r, rfl, ru, rr⟩ := vals2 rv
  obtain ⟨z, hm, ws, rel, dd⟩ := dk_of I.hok hd
  have hl : ws.length ≤ sizeLine := by rw [← rel.length]; exact z
  have hv := rel.val k
  refine call_meetsIn PySem.F.slot_dict_setdefault dd.typeIs PySem.F.entry_dict_setdefault (PySem.F.args_dict_setdefault_3 _ _ _) (kt_meets_setdefault (mixKind X.prog X.w) a (kV_is ru) hm r)
    ⟨ws, dd, hl, fun y hy => ?_, fun hn h' dd' hs => ?_⟩
  · rw [hy] at hv
    cases e : valV kvs k with
    | none => rw [e] at hv; exact False.elim hv
    | some v0 =>
      rw [e] at hv
      exact ⟨v0, H, I.tok _, hv, q1 v0 e⟩
  · rw [hn] at hv
    cases e : valV kvs k with
    | some v0 => rw [e] at hv; exact False.elim hv
    | none =>
      have hl : (putK kvs k d).length ≤ sizeLine := by have := length_putK kvs k d; omega
      have he : ∃ q, h'.get? a = some q := let ⟨q, _, _, hq, _⟩ := dd'; ⟨q, hq⟩
      exact ⟨d, _, d_write I (by rw [hd]; exact True.intro) hs he (dk_new hl hm (rel.put k rr) dd'), rr, q2 e⟩
/-- d.get(k, x) -/
def rGetD : V → List V → Hp → VK → Prop := fun x vs H Q => ∃ a y z o, x = .ref a ∧ vs = [y, z] ∧ DGet H a y o ∧ Q (o.getD z) H
theorem mt_get (hu : X.A.units + 1 < cLine) : MtR X "dict.get" rGetD := by
  intro pins s σ H x vs v us Q I rx rv h
  obtain ⟨a, y, z, o, rfl, rfl, g, q⟩ := h
  cases rx
  obtain ⟨u, r, rfl, ru, rr⟩ := vals2 rv
  exact d_get2 hu I g ru rr fun w' s' I' rw' => ⟨_, H, I', rw', q⟩
/-- in, not in a dict; d[k] -/
def rInDict (neg : Bool) : R2 := fun x y H Q => ∃ a o, y = .ref a ∧ DGet H a x o ∧ Q (.bl (o.isSome != neg)) H
theorem op_inDict (hu : X.A.units + 1 < cLine) : OpR X (compareOp .In) (rInDict false) := by
  intro pins s σ H x y v u Q I rx ry h
  obtain ⟨a, o, rfl, g, q⟩ := h
  cases ry
  refine d_in hu I g rx fun s' I' => ⟨.bl _, H, I', ?_, q⟩
  cases o <;> rfl
theorem op_notinDict (hu : X.A.units + 1 < cLine) : OpR X (compareOp .NotIn) (rInDict true) := by
  intro pins s σ H x y v u Q I rx ry h
  obtain ⟨a, o, rfl, g, q⟩ := h
  cases ry
  refine d_notIn hu I g rx fun s' I' => ⟨.bl _, H, I', ?_, q⟩
  cases o <;> rfl
/-- d[k] = v as a target -/
def rSetDict : V → V → V → Hp → (Hp → Prop) → Prop := fun o i v H Q => ∃ a H', o = .ref a ∧ DPut H a i v H' ∧ Q H'
theorem set_dict (hu : X.A.units + 1 < cLine) : PSet X rSetDict := by
  intro pins s σ H o i v ov iv u Q I ro ri rv h
  obtain ⟨a, H', rfl, g, q⟩ := h
  cases ro
  exact d_setItem hu I g ri rv fun s' I' => ⟨H', I', q⟩
/-- the truth of a list -/
theorem pt_list {a : Expr} {ta : TE} (ha : PE X a ta) (he : ∀ whole, isTrue a X.env whole = (do let v ← whole; standAt a.pos; holding [v] (truthy v)) := by intro _; rfl) :
    PT X a (fun σ H Q => ta σ H fun x H1 => ∃ p xs, x = .ref p ∧ SqL X.K H1 p xs ∧ Q (!xs.isEmpty) H1) := by
  intro pins s σ H Q I hw
  refine isTrue_plain (thn (ha pins s σ H _ I hw) fun v s1 ⟨x, H1, I1, r1, q1⟩ => ?_) (he _)
  obtain ⟨p, xs, rfl, hq, q⟩ := q1
  exact tru_ok pins s1 σ H1 _ v Q I1 r1 ⟨_, Or.inl ⟨xs, hq, rfl⟩, q⟩
end
theorem map_cell {f : Str × NameKind → Str × NameKind} (hf : ∀ n k, f (n, k) = (n, k) ∨ (k = .free ∧ f (n, k) = (n, NameKind.cell))) : ∀ {names : List (Str × NameKind)} {x : Str}, names.lookup x = some .cell → (names.map f).lookup x = some .cell
  | [], _, h => by simp at h
  | (n, k) :: r, x, h => by
    have ih := @map_cell f hf r x
    rw [List.lookup_cons] at h
    rw [List.map_cons]
    cases hx : x == n with
    | true =>
      rw [hx] at h
      cases h
      rcases hf n .cell with e | ⟨z, _⟩
      · rw [e, List.lookup_cons, hx]
      · cases z
    | false =>
      rw [hx] at h
      rcases hf n k with e | ⟨_, e⟩
      · rw [e, List.lookup_cons, hx]; exact ih h
      · rw [e, List.lookup_cons, hx]; exact ih h
/-- a comprehension within a comprehension -/
theorem CompScope.re {psc : Scope} {PN : List Str} {scope : Scope} {N : List Str} {k : Nat} {caps : List Nat} (S : CompScope psc PN scope N k caps) (env : Env) : CompScope (relabel psc env) PN scope N k caps :=
  ⟨S.kind, S.loc, S.ndn, S.nd, S.len, fun x hx hf => by
    rcases S.free x hx hf with h | h
    · left
      refine map_cell (fun n k => ?_) h
      by_cases hc : (k == NameKind.free && env.scope.kind == .function && env.kindOf n == some .cell) = true
      · right
        refine ⟨?_, if_pos hc⟩
        simp only [Bool.and_eq_true, beq_iff_eq] at hc
        exact hc.1.1
      · left; exact if_neg hc
    · exact relabel_free h, S.cap⟩
end L2

namespace L2
open PySem PySem.Spec PyProof.Rows
/-! ### set(xs) of a list of texts, its length -/
/-- the texts met so far, each once -/
def metS (f : Nat → Str) (i : Nat) : List Str := ((List.range i).map f).foldl step_dedup []
theorem metS_succ (f : Nat → Str) (i : Nat) : metS f (i + 1) = step_dedup (metS f i) (f i) := by
  unfold metS
  rw [List.range_succ, List.map_append, List.foldl_append]
  rfl
theorem dd_len (l : List Str) (x : Str) : (step_dedup l x).length = if l.any (· == x) then l.length else l.length + 1 := by
  unfold step_dedup
  split <;> simp
theorem dd_any (l : List Str) (x y : Str) : (step_dedup l x).any (· == y) = (l.any (· == y) || decide (y = x)) := by
  unfold step_dedup
  by_cases h : l.any (· == x) = true
  · rw [if_pos h]
    by_cases e : y = x
    · subst e; rw [h]; rfl
    · rw [decide_eq_false e, Bool.or_false]
  · rw [if_neg h, List.any_append]
    congr 1
    by_cases e : y = x
    · subst e; simp
    · rw [decide_eq_false e]
      simp
      exact fun z => e z.symm
theorem metS_le (f : Nat → Str) : ∀ i, (metS f i).length ≤ i
  | 0 => Nat.le_refl _
  | i + 1 => by
    have := metS_le f i
    rw [metS_succ, dd_len]
    split <;> omega
theorem metS_any (f : Nat → Str) : ∀ (i : Nat) (y : Str), (metS f i).any (· == y) = true ↔ ∃ j, j < i ∧ f j = y
  | 0, y => by
    constructor
    · intro h; cases h
    · rintro ⟨j, h, _⟩; omega
  | i + 1, y => by
    rw [metS_succ, dd_any, Bool.or_eq_true, metS_any f i y, decide_eq_true_iff]
    constructor
    · rintro (⟨j, h, e⟩ | e)
      · exact ⟨j, by omega, e⟩
      · exact ⟨i, by omega, e.symm⟩
    · rintro ⟨j, h, e⟩
      by_cases hj : j = i
      · subst hj; exact .inr e.symm
      · exact .inl ⟨j, by omega, e⟩
theorem metS_iff (f : Nat → Str) : ∀ i, (metS f i).length = i ↔ ∀ a b, a < b → b < i → f a ≠ f b
  | 0 => ⟨fun _ a b _ h => by omega, fun _ => rfl⟩
  | i + 1 => by
    have ih := metS_iff f i
    have hle := metS_le f i
    rw [metS_succ, dd_len]
    constructor
    · intro h a b hab hb e
      split at h
      · omega
      · rename_i hn
        have hi : (metS f i).length = i := by omega
        by_cases hbi : b = i
        · subst hbi
          exact hn ((metS_any f b _).mpr ⟨a, hab, e⟩)
        · exact ih.mp hi a b hab (by omega) e
    · intro h
      have hi : (metS f i).length = i := ih.mpr fun a b hab hb => h a b hab (by omega)
      rw [if_neg, hi]
      intro hn
      obtain ⟨j, hj, e⟩ := (metS_any f i _).mp hn
      exact h j i hj (by omega) e
section
variable {prog : Program} {w : World} {A : Around} {R : Result → Shared → Prop} {It : Addr} {fp wr : List Addr} {G : Array GenState → Array GenState → Prop} {n : Nat} {Pn : Nat → Value → Prop} {Sn : Nat → Shared → Prop}
theorem set_loopS (Wk : WalksS prog w A.in1 It fp wr G n Pn Sn) (D : Addr) (nD : D ∉ fp) (f : Nat → Str) (hf : ∀ i v, Pn i v → ∃ t, v = .str (f i) t) (small : n + 1 < scanBound) :
    ∀ (k i : Nat) (s : Shared), n - i = k → i ≤ n → Sn i s → s.heap.SetOf (strKind prog w) D (fun y => (metS f i).any (· == y)) (metS f i).length →
      (∀ s', Moved (D :: wr) G s s' → s'.heap.SetOf (strKind prog w) D (fun y => (metS f n).any (· == y)) (metS f n).length → R (.ok (.ret .none)) s') →
      codeAny (model prog w) A (.builtin "set.update.loop" ⟨[.ref D, .ref It], []⟩) R s := by
  have nDw : D ∉ wr := fun z => nD (Wk.sub _ z)
  have sub : ∀ b ∈ wr, b ∈ D :: wr := fun b z => List.mem_cons_of_mem _ z
  intro k
  induction k with
  | zero =>
    intro i s hk hi st hS fin
    obtain rfl : i = n := by omega
    refine codeAny_builtin F.entry_set_update_loop ?_
    rw [Around.under_plainId F.plain_set_update_loop _]
    show wpAny _ A.in1 (pyNext (.ref It) >>= _) _ _ s
    refine wpAny_bind (Wk.done s _ _ st fun s2 mv => ?_)
    show wpAny _ A.in1 (ret Value.none) _ _ s2
    refine wpAny_pure (fin s2 (mv.mono sub) ?_)
    obtain ⟨ob, es, ep, tb, e, more⟩ := hS
    exact ⟨ob, es, ep, tb, mv.heap D _ nDw e, more⟩
  | succ k ih =>
    intro i s hk hi st hS fin
    have lt : i < n := by omega
    refine codeAny_builtin F.entry_set_update_loop ?_
    rw [Around.under_plainId F.plain_set_update_loop _]
    show wpAny _ A.in1 (pyNext (.ref It) >>= _) _ _ s
    refine wpAny_bind (Wk.item i s _ _ lt st fun v s2 pv st2 mv => ?_)
    obtain ⟨t, rfl⟩ := hf i v pv
    have hS2 : s2.heap.SetOf (strKind prog w) D (fun y => (metS f i).any (· == y)) (metS f i).length := by
      obtain ⟨ob, es, ep, tb, e, more⟩ := hS
      exact ⟨ob, es, ep, tb, mv.heap D _ nDw e, more⟩
    show wpAny _ A.in1 (holding [Value.str (f i) t] (setAdd D (.str (f i) t)) >>= _) _ _ s2
    refine wpAny_bind (wpAny_holding ?_)
    unfold setAdd
    refine wpAny_holding ?_
    have isk : (strKind prog w).is (f i) (.str (f i) t) = true := strKind_is _ _ _ _
    refine wpAny_bind ((strKind prog w).pyHash (k := f i) isk ?_)
    have room : (metS f i).length + 1 < scanBound := by have := metS_le f i; omega
    refine wpAny_setAddHashed_of (knd := strKind prog w) (s := { s2 with toks := s2.toks + 1 }) isk rfl hS2 room fun h3 sb hS3 => ?_
    have hS4 : h3.SetOf (strKind prog w) D (fun y => (metS f (i + 1)).any (· == y)) (metS f (i + 1)).length :=
      SetOf_congr hS3 (fun y => by rw [metS_succ, dd_any]) (by rw [metS_succ, dd_len])
    refine wpAny_pure ⟨plainId_quiet F.plain_set_update_loop _, ih (i + 1) _ (by omega) lt (Wk.frame _ s2 _ _ st2 (Nat.le_succ _) fun b hb o e => ?_) hS4 fun s5 mv5 hS5 => ?_⟩
    · rw [sb.2 b fun z : b = D => nD (by rw [← z]; exact hb)]
      exact e
    · refine fin s5 (Moved.trans Wk.gtrans ((mv.mono sub).then_heap (Nat.le_succ _) fun b o hb e => ?_) mv5) hS5
      rw [sb.2 b fun z : b = D => hb (by rw [z]; exact List.mem_cons_self)]
      exact e
end
/-- a new set's object -/
abbrev setNew (b : Bool) : Obj := { cls := .type "set", dict := none, data := .set #[] 0 (.fresh 0 0 b) }
section
variable {prog : Program} {w : World} {A : Around} {E : Value → Shared → Prop} {s : Shared}
set_option maxRecDepth 100000 in
set_option maxHeartbeats 3200000 in
theorem call_set_strs {l : Addr} {its : Array Value} {f : Nat → Str} {Q : Value → Shared → Prop} (hh : A.handled = none) (hl : s.heap.IsList l its) (hi : ∀ (i : Nat) (v : Value), its[i]? = some v → ∃ t, v = .str (f i) t) (hb : its.size + 1 < scanBound)
    (h : ∀ (h' : Heap) (tk : Nat), h'.SetOf (strKind prog w) s.heap.objs.size (fun y => (metS f its.size).any (· == y)) (metS f its.size).length →
      (∀ b o, b < s.heap.objs.size → s.heap.get? b = some o → h'.get? b = some o) → Q (.ref s.heap.objs.size) { s with heap := h', toks := tk }) :
    wpAny (model prog w) A (call (.type "set") [.ref l]) Q E s := by
  obtain ⟨c, tl, hmro⟩ := F.called_set.mro
  have hmade := F.called_set.made
  have hsub := F.called_set.sub
  refine wpAny_call (codeAny_of_tree ?_)
  show wpAny _ _ (callAny (.type "set") _) _ _ _
  refine wpAny_pure ⟨Code.quiet_builtin _ (by decide +kernel), codeAny_builtin F.entry_type_call ?_⟩
  rw [Around.under_plain (weight_type_call_type "set" [.ref l] []) rfl]
  have h1 := F.called_set.notType
  have h2 := F.called_set.canCreate
  have hct := F.typeCall_set_1 (.ref l)
  repeat (any_goals (first | assumption | wp_step))
  refine codeAny_mono (code_set_new_1 (.ref l) (E := E) (Q₁ := fun ob s1 => ∃ b : Bool, ob = .ref s.heap.objs.size ∧ s1 = { s with heap := s.heap.push (setNew b) }) fun b => ⟨b, rfl, rfl⟩) fun r s1 hr => ?_
  cases r with
  | error e => exact hr
  | ok fl =>
    cases fl with
    | ret ob =>
      obtain ⟨b0, rfl, rfl⟩ := hr
      have hS : (s.heap.push (setNew b0)).get? s.heap.objs.size = some (setNew b0) := Heap.get?_push_size _ rfl
      have hT : Shared.TypeIs { s with heap := s.heap.push (setNew b0) } (.ref s.heap.objs.size) "set" := ⟨_, hS, rfl⟩
      have hli := F.called_set.init.lookup
      have hbi := F.called_set.init.bind (.ref s.heap.objs.size)
      repeat (any_goals (first | assumption | wp_step))
      refine codeAny_mono (codeAny_call_builtin (R := wants (fun r s2 => r = .none ∧ ∃ h' tk, s2 = { s with heap := h', toks := tk } ∧ h'.SetOf (strKind prog w) s.heap.objs.size (fun y => (metS f its.size).any (· == y)) (metS f its.size).length ∧
          (∀ b o, b < s.heap.objs.size → s.heap.get? b = some o → h'.get? b = some o)) E) F.called_set.init.plain F.entry_set_init (check_set_init_1 hT ?_)) fun r2 s2 hr2 => ?_
      · obtain ⟨⟨oc, od, oda, osl⟩, hol, hcl, nl, hdl⟩ := hl
        simp only at hcl hdl
        subst hcl; subst hdl
        have hol2 : (s.heap.push (setNew b0)).get? l = some { cls := .type "list", dict := od, data := .seq its nl, slots := osl } := Heap.get?_push_of_some _ hol
        have hsls := F.sub_list_set
        have hslf := F.sub_list_frozenset
        have hne : (Value.type "list" == Value.type "dict") = false := by decide
        have hl1 : (s.heap.push (setNew b0)).IsList l its := ⟨_, hol2, rfl, nl, rfl⟩
        unfold Builtin.«set.__init__» noKeywords Builtin.Frozenset.updateFrom
        generalize hPI : pyIter = PI
        wp_walk
        subst hPI
        refine wpAny_pyIter_list hl1 (wpAny_bind (wpAny_runValue ?_))
        have ltl : l < s.heap.objs.size := Heap.lt_size hol
        have hh3 : A.in1.in1.in1.handled = none := by simp [hh]
        have neI : l ≠ (s.heap.push (setNew b0)).objs.size := by
          rw [Heap.size_push]
          exact Nat.ne_of_lt (Nat.lt_succ_of_lt ltl)
        have nSf : s.heap.objs.size ∉ [(s.heap.push (setNew b0)).objs.size, l] := by
          rw [Heap.size_push]
          intro z
          rcases List.mem_cons.mp z with z | z
          · exact absurd z (Nat.ne_of_lt (Nat.lt_succ_self _))
          · exact absurd (List.mem_singleton.mp z) (Nat.ne_of_gt ltl)
        refine set_loopS ((Walks.list hh3 _ l neI its).toS) s.heap.objs.size nSf f hi hb (its.size - 0) 0 _ (by omega) (Nat.zero_le _) ⟨⟨_, Heap.get?_push_size _ rfl, rfl, rfl⟩, (hl1.push _)⟩ ?hS0 ?hR
        case hS0 =>
          have hg : ((s.heap.push (setNew b0)).push { cls := .type "list_iterator", data := .fields #[.ref l, .int 0 0] }).get? s.heap.objs.size = some (setNew b0) := Heap.get?_push_of_some _ hS
          exact SetOf_congr ((setObjOf_fresh (knd := strKind prog w) b0).setOf hg (by unfold scanBound; omega)) (fun _ => rfl) rfl
        case hR =>
          rintro ⟨h', g', d', tk', os'⟩ mv hS'
          obtain rfl : g' = s.gens := mv.gens
          obtain rfl : d' = s.drawn := mv.drawn
          obtain rfl : os' = s.os := mv.os
          show wpAny _ _ _ _ _ _
          refine wpAny_pure ?_
          show wpAny _ _ (ret Value.none) _ _ _
          refine wpAny_pure ⟨rfl, h', tk', rfl, hS', fun b o hb e => ?_⟩
          refine mv.heap b o (fun z => ?_) (Heap.get?_push_of_some _ (Heap.get?_push_of_some _ e))
          rcases List.mem_cons.mp z with z | z
          · exact absurd z (Nat.ne_of_lt hb)
          · have z' := List.mem_singleton.mp z
            rw [Heap.size_push] at z'
            exact absurd z' (Nat.ne_of_lt (Nat.lt_succ_of_lt hb))
      · cases r2 with
        | error e => exact hr2
        | ok fl2 =>
          cases fl2 with
          | ret r =>
            obtain ⟨rfl, h', tk, rfl, hS', hk'⟩ := hr2
            repeat (any_goals (first | assumption | wp_step))
            exact h _ _ hS' hk'
          | _ => exact hr2.elim
    | _ => exact hr.elim
end
end L2

namespace L2
open PySem PySem.Spec PyProof.Rows
/-- a set of texts of n members -/
def SetS (P : Program) (w : World) (a : Addr) (n : Nat) : HO := .ext fun h => ∃ S, h.SetOf (strKind P w) a S n
section
variable {X : Cx}
def rSetS (P : Program) (w : World) (K : PySem.W.Frag) : List V → Hp → VK → Prop := fun vs H Q => ∃ (p : Addr) (xs : List Str), vs = [.ref p] ∧ SqL K H p (xs.map V.str) ∧ xs.length ≤ 1000 ∧ ∀ q n, (n = xs.length ↔ xs.Nodup) → H q = none → Q (.ref q) (upd H q (SetS P w q n))
theorem strs_at {xs : List Str} {its : List Value} (r : Vals (xs.map V.str) its) : ∀ (i : Nat) (v : Value), its.toArray[i]? = some v → ∃ t, v = .str (xs.getD i default) t := by
  intro i v hv
  have hv' : its[i]? = some v := by simpa using hv
  have hl := r.length
  rw [List.length_map] at hl
  have hi : i < xs.length := by
    have := (List.getElem?_eq_some_iff.mp hv').1
    omega
  obtain ⟨u, hu, ru⟩ := r.get (i := i) (x := .str xs[i]) (by rw [List.getElem?_map, List.getElem?_eq_getElem hi]; rfl)
  rw [hv'] at hu
  cases hu
  rw [List.getD_eq_getElem?_getD, List.getElem?_eq_getElem hi]
  exact ru
theorem nodup_at {xs : List Str} : (∀ a b, a < b → b < xs.length → xs.getD a default ≠ xs.getD b default) ↔ xs.Nodup := by
  unfold List.Nodup
  rw [List.pairwise_iff_getElem]
  constructor
  · intro h i j hi hj hij
    have := h i j hij hj
    rwa [List.getD_eq_getElem?_getD, List.getD_eq_getElem?_getD, List.getElem?_eq_getElem hi, List.getElem?_eq_getElem hj] at this
  · intro h a b hab hb
    have := h a b (by omega) hb hab
    rw [List.getD_eq_getElem?_getD, List.getD_eq_getElem?_getD, List.getElem?_eq_getElem (by omega), List.getElem?_eq_getElem hb]
    exact this
theorem call_set_of (hc : X.calm = true) : CallR X (.type "set") (rSetS X.prog X.w X.K) := by
  intro pins s σ H vs us Q I r h
  obtain ⟨p, xs, rfl, hq, hz, q⟩ := h
  obtain ⟨u, rfl, ru⟩ := vals1 r
  obtain rfl : u = Value.ref p := ru
  obtain ⟨its, rv, pl, _⟩ := I.list hq
  have hl := rv.length
  rw [List.length_map] at hl
  have hsz : its.toArray.size = xs.length := by rw [List.size_toArray, hl]
  refine call_set_strs (f := fun i => xs.getD i default) (I.ok.hd hc) pl.isList (strs_at rv) (by rw [hsz]; unfold scanBound; omega) fun h' tk hS k => ?_
  have hn : (metS (fun i => xs.getD i default) its.toArray.size).length = xs.length ↔ xs.Nodup := by
    rw [hsz, metS_iff, nodup_at]
  have kk : ∀ b u, s.heap.get? b = some u → h'.get? b = some u := fun b u e => k b u (Heap.lt_size e) e
  refine ⟨.ref s.heap.objs.size, upd H s.heap.objs.size (SetS X.prog X.w s.heap.objs.size _), I.laid (t' := tk) kk (Nat.le_refl _) ?_, rfl, q _ _ hn I.fresh⟩
  refine ⟨⟨_, hS⟩, ?_, fun h1 h2 ⟨S, o, es, ep, t, e, more⟩ hk => ⟨S, o, es, ep, t, hk o e, more⟩⟩
  obtain ⟨o, _, _, _, e, _⟩ := hS
  exact ⟨o, e⟩
/-- len of such a set -/
theorem call_len_setS : CallR X (.builtin "len") (fun vs H Q => ∃ q n, vs = [.ref q] ∧ H q = some (SetS X.prog X.w q n) ∧ n ≤ 1000 ∧ Q (.int n) H) := by
  intro pins s σ H vs us Q I r h
  obtain ⟨a, n, rfl, e, hn, q⟩ := h
  obtain ⟨u, rfl, ru⟩ := vals1 r
  obtain rfl : u = Value.ref a := ru
  obtain ⟨⟨S, o, es, ep, t, ho, hex, hd, _, _, _, hf, hsz⟩, _, _⟩ := I.hok a _ e
  subst hsz
  exact PySem.call_len_set ho hex hd hf (by omega) ⟨.int _, H, I.tok _, ⟨_, rfl⟩, q⟩
end
end L2

namespace L2
open PySem PySem.Spec PyProof.Rows PySem.SeqAt

/-! ### deep data: what == tells apart -/
inductive Dt where
  | non | bl (b : Bool) | int (i : Int) | str (x : Str) | tup (l : List Dt) | lst (l : List Dt)
mutual
/-- v stands for d in the abstract heap H -/
inductive IsDt (K : PySem.W.Frag) (H : Hp) : V → Dt → Prop where
  | non : IsDt K H .non .non
  | bl (b : Bool) : IsDt K H (.bl b) (.bl b)
  | int (i : Int) : IsDt K H (.int i) (.int i)
  | str (x : Str) : IsDt K H (.str x) (.str x)
  | tup {a : Addr} {vs : List V} {ds : List Dt} (h : SqT K H a vs) (t : IsDts K H vs ds) : IsDt K H (.ref a) (.tup ds)
  | lst {a : Addr} {vs : List V} {ds : List Dt} (h : SqL K H a vs) (t : IsDts K H vs ds) : IsDt K H (.ref a) (.lst ds)
inductive IsDts (K : PySem.W.Frag) (H : Hp) : List V → List Dt → Prop where
  | nil : IsDts K H [] []
  | cons {v : V} {d : Dt} {vs : List V} {ds : List Dt} (h : IsDt K H v d) (t : IsDts K H vs ds) : IsDts K H (v :: vs) (d :: ds)
end
mutual
theorem IsDt.same {K : PySem.W.Frag} {H H' : Hp} (e : Same H H') {v : V} {d : Dt} (h : IsDt K H v d) : IsDt K H' v d := by
  cases h with
  | non => exact .non
  | bl b => exact .bl b
  | int i => exact .int i
  | str x => exact .str x
  | tup h t => exact .tup (e.seqT h) (IsDts.same e t)
  | lst h t => exact .lst (e.seq h) (IsDts.same e t)
theorem IsDts.same {K : PySem.W.Frag} {H H' : Hp} (e : Same H H') {vs : List V} {ds : List Dt} (h : IsDts K H vs ds) : IsDts K H' vs ds := by
  cases h with
  | nil => exact .nil
  | cons h t => exact .cons (IsDt.same e h) (IsDts.same e t)
end
theorem IsDts.length {K : PySem.W.Frag} {H : Hp} : ∀ {vs : List V} {ds : List Dt}, IsDts K H vs ds → vs.length = ds.length
  | _, _, .nil => rfl
  | _, _, .cons _ t => congrArg (· + 1) t.length
theorem IsDts.get {K : PySem.W.Frag} {H : Hp} : ∀ {vs : List V} {ds : List Dt} {i : Nat} {v : V}, IsDts K H vs ds → vs[i]? = some v → ∃ d, ds[i]? = some d ∧ IsDt K H v d
  | _, _, _, _, .nil, e => by simp at e
  | _, _, 0, _, .cons h _, e => by simp at e; subst e; exact ⟨_, rfl, h⟩
  | _, _, i + 1, v, .cons _ t, e => by
    obtain ⟨d, h1, h2⟩ := IsDts.get (i := i) (v := v) t (by simpa using e)
    exact ⟨d, by simpa using h1, h2⟩
theorem IsDts.get' {K : PySem.W.Frag} {H : Hp} : ∀ {vs : List V} {ds : List Dt} {i : Nat} {d : Dt}, IsDts K H vs ds → ds[i]? = some d → ∃ v, vs[i]? = some v ∧ IsDt K H v d
  | _, _, _, _, .nil, e => by simp at e
  | _, _, 0, _, .cons h _, e => by simp at e; subst e; exact ⟨_, rfl, h⟩
  | _, _, i + 1, v, .cons _ t, e => by
    obtain ⟨d, h1, h2⟩ := IsDts.get' (i := i) (d := v) t (by simpa using e)
    exact ⟨d, by simpa using h1, h2⟩
theorem IsDts.append {K : PySem.W.Frag} {H : Hp} : ∀ {vs us : List V} {ds es : List Dt}, IsDts K H vs ds → IsDts K H us es → IsDts K H (vs ++ us) (ds ++ es)
  | _, _, _, _, .nil, t => t
  | _, _, _, _, .cons h r, t => .cons h (IsDts.append r t)
theorem IsDts.take {K : PySem.W.Frag} {H : Hp} : ∀ {vs : List V} {ds : List Dt} (n : Nat), IsDts K H vs ds → IsDts K H (vs.take n) (ds.take n)
  | _, _, 0, _ => .nil
  | _, _, _ + 1, .nil => .nil
  | _, _, n + 1, .cons h t => .cons h (IsDts.take n t)
theorem IsDts.drop {K : PySem.W.Frag} {H : Hp} : ∀ {vs : List V} {ds : List Dt} (n : Nat), IsDts K H vs ds → IsDts K H (vs.drop n) (ds.drop n)
  | _, _, 0, r => r
  | _, _, _ + 1, .nil => .nil
  | _, _, n + 1, .cons _ t => IsDts.drop n t
theorem IsDts.strs {K : PySem.W.Frag} {H : Hp} : ∀ (xs : List Str), IsDts K H (xs.map V.str) (xs.map Dt.str)
  | [] => .nil
  | x :: xs => .cons (.str x) (IsDts.strs xs)
section
variable {X : Cx} {pins : List (Addr × Obj)} {σ : St} {H : Hp} {s : Shared}
theorem Inv.not_both (I : Inv X pins σ H s) {a : Addr} {xs ys : List V} (h : SqL X.K H a xs) (h' : SqT X.K H a ys) : False := by
  obtain ⟨_, _, ⟨o, n, e, c, _⟩, _⟩ := I.list h
  obtain ⟨_, _, ⟨o', e', c', _⟩, _⟩ := I.tuple h'
  rw [e] at e'; cases e'
  rw [c] at c'
  exact absurd c' (by decide)
mutual
theorem IsDt.inj (I : Inv X pins σ H s) {v : V} {d e : Dt} (h : IsDt X.K H v d) (h' : IsDt X.K H v e) : d = e := by
  cases h with
  | non => cases h'; rfl
  | bl _ => cases h'; rfl
  | int _ => cases h'; rfl
  | str _ => cases h'; rfl
  | tup h t => cases h' with
    | tup h' t' =>
      have e := I.tuple_inj h h'
      subst e
      rw [IsDts.inj I t t']
    | lst h' _ => exact (I.not_both h' h).elim
  | lst h t => cases h' with
    | lst h' t' =>
      have e := I.list_inj h h'
      subst e
      rw [IsDts.inj I t t']
    | tup h' _ => exact (I.not_both h h').elim
theorem IsDts.inj (I : Inv X pins σ H s) {vs : List V} {ds es : List Dt} (h : IsDts X.K H vs ds) (h' : IsDts X.K H vs es) : ds = es := by
  cases h with
  | nil => cases h'; rfl
  | cons h t => cases h' with
    | cons h' t' => rw [IsDt.inj I h h', IsDts.inj I t t']
end
end
/-! ### comparable to a depth -/
def Dt.kd : Dt → Nat
  | .non => 0 | .bl _ => 1 | .int _ => 2 | .str _ => 3 | .tup _ => 4 | .lst _ => 5
/-- of unlike kinds, and not a truth and an int -/
def Apart (a b : Nat) : Bool := a != b && !(a == 1 && b == 2) && !(a == 2 && b == 1)
mutual
inductive Cmp : Nat → Dt → Dt → Prop where
  | non {n : Nat} : Cmp n .non .non
  | bl {n : Nat} (a b : Bool) : Cmp n (.bl a) (.bl b)
  | int {n : Nat} (a b : Int) : Cmp n (.int a) (.int b)
  | str {n : Nat} (a b : Str) : Cmp n (.str a) (.str b)
  | tup {n : Nat} {ds es : List Dt} (t : Cmps n ds es) : Cmp (n + 1) (.tup ds) (.tup es)
  | lst {n : Nat} {ds es : List Dt} (t : Cmps n ds es) : Cmp (n + 1) (.lst ds) (.lst es)
  | apart {n : Nat} {d e : Dt} (h : Apart d.kd e.kd = true) : Cmp (n + 1) d e
inductive Cmps : Nat → List Dt → List Dt → Prop where
  | nil {n : Nat} (es : List Dt) : Cmps n [] es
  | nil' {n : Nat} (ds : List Dt) : Cmps n ds []
  | cons {n : Nat} {d e : Dt} {ds es : List Dt} (h : Cmp n d e) (t : Cmps n ds es) : Cmps n (d :: ds) (e :: es)
end
theorem Cmps.of {n : Nat} : ∀ {ds es : List Dt}, (∀ d ∈ ds, ∀ e ∈ es, Cmp n d e) → Cmps n ds es
  | [], es, _ => .nil es
  | d :: ds, [], _ => .nil' _
  | d :: ds, e :: es, h => .cons (h d (by simp) e (by simp)) (Cmps.of fun x hx y hy => h x (by simp [hx]) y (by simp [hy]))
open Classical in
/-- the truth of a proposition -/
noncomputable def dec (p : Prop) : Bool := decide p
theorem dec_true {p : Prop} (h : p) : dec p = true := @decide_eq_true p (Classical.propDecidable p) h
theorem dec_false {p : Prop} (h : ¬ p) : dec p = false := @decide_eq_false p (Classical.propDecidable p) h
theorem dec_iff {p : Prop} : dec p = true ↔ p := ⟨fun h => @of_decide_eq_true p (Classical.propDecidable p) h, dec_true⟩
theorem dec_congr {p q : Prop} (h : p ↔ q) : dec p = dec q := by rw [propext h]
theorem dec_beq {α : Type} [BEq α] [LawfulBEq α] {a b : α} {p : Prop} (h : p ↔ a = b) : (a == b) = dec p := by
  by_cases e : a = b
  · subst e; rw [dec_true (h.mpr rfl)]; exact beq_self_eq_true _
  · rw [dec_false fun q => e (h.mp q)]; exact beq_false_of_ne e
theorem list_ext_iff {ds es : List Dt} (hl : ds.length = es.length) (h : ∀ i, i < ds.length → ds[i]? = es[i]?) : ds = es := List.ext_getElem? fun i => by
  by_cases hi : i < ds.length
  · exact h i hi
  · rw [List.getElem?_eq_none (by omega), List.getElem?_eq_none (by omega)]
section
variable {X : Cx} {pins : List (Addr × Obj)} {σ : St} {H : Hp} {s : Shared}
theorem in1_units (A : Around) : A.in1.units = A.units + 1 := rfl
/-- items compared one by one -/
theorem eq_items (I : Inv X pins σ H s) {A : Around} {vs us : List V} {ds es : List Dt} {ivs ius : List Value} (rv : Vals vs ivs) (ru : Vals us ius) (tv : IsDts X.K H vs ds) (tu : IsDts X.K H us es)
    (hc : ∀ (i : Nat) (d e : Dt) (v u : V) (x y : Value), ds[i]? = some d → es[i]? = some e → RelV v x → RelV u y → IsDt X.K H v d → IsDt X.K H u e → EqAt A s x y (dec (d = e))) :
    ∀ j (h1 : j < ivs.toArray.size) (h2 : j < ius.toArray.size), EqAt A s ivs.toArray[j] ius.toArray[j] (dec (ds[j]? = es[j]?)) := by
  intro j h1 h2
  have l1 := rv.length
  have l2 := ru.length
  have h1' : j < ivs.length := by simpa using h1
  have h2' : j < ius.length := by simpa using h2
  obtain ⟨x, hx, rx⟩ := rv.get (i := j) (x := vs[j]'(by omega)) (List.getElem?_eq_getElem (by omega))
  obtain ⟨y, hy, ry⟩ := ru.get (i := j) (x := us[j]'(by omega)) (List.getElem?_eq_getElem (by omega))
  obtain ⟨d, hd, td⟩ := tv.get (i := j) (v := vs[j]'(by omega)) (List.getElem?_eq_getElem (by omega))
  obtain ⟨e, he, te⟩ := tu.get (i := j) (v := us[j]'(by omega)) (List.getElem?_eq_getElem (by omega))
  have ex : ivs.toArray[j] = x := by
    rw [List.getElem?_eq_getElem h1'] at hx
    simpa using hx
  have ey : ius.toArray[j] = y := by
    rw [List.getElem?_eq_getElem h2'] at hy
    simpa using hy
  rw [ex, ey, hd, he]
  have := hc j d e _ _ x y hd he rx ry td te
  rw [dec_congr (p := some d = some e) (q := d = e) (by simp)]
  exact this
theorem range_dec {ds es : List Dt} {n : Nat} (hn : n = ds.length) (hl : ds.length = es.length) : (List.range n).all (fun j => dec (ds[j]? = es[j]?)) = dec (ds = es) := by
  subst hn
  by_cases h : ds = es
  · subst h
    rw [dec_true rfl, List.all_eq_true]
    exact fun i _ => dec_true rfl
  · rw [dec_false h, Bool.eq_false_iff]
    intro q
    rw [List.all_eq_true] at q
    exact h (list_ext_iff hl fun i hi => dec_iff.mp (q i (List.mem_range.mpr hi)))
theorem apart_all (I : Inv X pins σ H s) {d e : Dt} {v u : V} {x y : Value} {A : Around} (h : Apart d.kd e.kd = true) (td : IsDt X.K H v d) (te : IsDt X.K H u e) (rx : RelV v x) (ry : RelV u y) (hu : A.units < cLine) : EqAt A s x y false ∧ RcAt A s x y false ∧ RcNeAt A s x y true := by
  cases td with
  | non =>
    cases rx
    cases te with
    | non => exact absurd h (by simp [Apart, Dt.kd])
    | bl b =>
      cases ry
      exact ⟨EqAt.none_bool _, RcAt.none_bool _, RcNeAt.none_bool _⟩
    | int b =>
      obtain ⟨t2, rfl⟩ := ry
      exact ⟨EqAt.none_int _ _, RcAt.none_int _ _, RcNeAt.none_int _ _⟩
    | str b =>
      obtain ⟨t2, rfl⟩ := ry
      exact ⟨EqAt.none_str _ _, RcAt.none_str _ _, RcNeAt.none_str _ _⟩
    | tup h2 t2 =>
      cases ry
      obtain ⟨_, _, p2, _⟩ := I.tuple h2
      exact ⟨EqAt.none_tuple  p2 hu, RcAt.none_tuple  p2 hu, RcNeAt.none_tuple  p2 hu⟩
    | lst h2 t2 =>
      cases ry
      obtain ⟨_, _, p2, _⟩ := I.list h2
      have p2 := p2.isList
      exact ⟨EqAt.none_list  p2 hu, RcAt.none_list  p2 hu, RcNeAt.none_list  p2 hu⟩
  | bl a =>
    cases rx
    cases te with
    | non =>
      cases ry
      exact ⟨EqAt.bool_none _, RcAt.bool_none _, RcNeAt.bool_none _⟩
    | bl b => exact absurd h (by simp [Apart, Dt.kd])
    | int b => exact absurd h (by simp [Apart, Dt.kd])
    | str b =>
      obtain ⟨t2, rfl⟩ := ry
      exact ⟨EqAt.bool_str _ _ _, RcAt.bool_str _ _ _, RcNeAt.bool_str _ _ _⟩
    | tup h2 t2 =>
      cases ry
      obtain ⟨_, _, p2, _⟩ := I.tuple h2
      exact ⟨EqAt.bool_tuple _ p2 hu, RcAt.bool_tuple _ p2 hu, RcNeAt.bool_tuple _ p2 hu⟩
    | lst h2 t2 =>
      cases ry
      obtain ⟨_, _, p2, _⟩ := I.list h2
      have p2 := p2.isList
      exact ⟨EqAt.bool_list _ p2 hu, RcAt.bool_list _ p2 hu, RcNeAt.bool_list _ p2 hu⟩
  | int a =>
    obtain ⟨t, rfl⟩ := rx
    cases te with
    | non =>
      cases ry
      exact ⟨EqAt.int_none _ _, RcAt.int_none _ _, RcNeAt.int_none _ _⟩
    | bl b => exact absurd h (by simp [Apart, Dt.kd])
    | int b => exact absurd h (by simp [Apart, Dt.kd])
    | str b =>
      obtain ⟨t2, rfl⟩ := ry
      exact ⟨EqAt.int_str _ _ _ _, RcAt.int_str _ _ _ _, RcNeAt.int_str _ _ _ _⟩
    | tup h2 t2 =>
      cases ry
      obtain ⟨_, _, p2, _⟩ := I.tuple h2
      exact ⟨EqAt.int_tuple _ _ p2 hu, RcAt.int_tuple _ _ p2 hu, RcNeAt.int_tuple _ _ p2 hu⟩
    | lst h2 t2 =>
      cases ry
      obtain ⟨_, _, p2, _⟩ := I.list h2
      have p2 := p2.isList
      exact ⟨EqAt.int_list _ _ p2 hu, RcAt.int_list _ _ p2 hu, RcNeAt.int_list _ _ p2 hu⟩
  | str a =>
    obtain ⟨t, rfl⟩ := rx
    cases te with
    | non =>
      cases ry
      exact ⟨EqAt.str_none _ _, RcAt.str_none _ _, RcNeAt.str_none _ _⟩
    | bl b =>
      cases ry
      exact ⟨EqAt.str_bool _ _ _, RcAt.str_bool _ _ _, RcNeAt.str_bool _ _ _⟩
    | int b =>
      obtain ⟨t2, rfl⟩ := ry
      exact ⟨EqAt.str_int _ _ _ _, RcAt.str_int _ _ _ _, RcNeAt.str_int _ _ _ _⟩
    | str b => exact absurd h (by simp [Apart, Dt.kd])
    | tup h2 t2 =>
      cases ry
      obtain ⟨_, _, p2, _⟩ := I.tuple h2
      exact ⟨EqAt.str_tuple _ _ p2 hu, RcAt.str_tuple _ _ p2 hu, RcNeAt.str_tuple _ _ p2 hu⟩
    | lst h2 t2 =>
      cases ry
      obtain ⟨_, _, p2, _⟩ := I.list h2
      have p2 := p2.isList
      exact ⟨EqAt.str_list _ _ p2 hu, RcAt.str_list _ _ p2 hu, RcNeAt.str_list _ _ p2 hu⟩
  | tup h1 t1 =>
    cases rx
    obtain ⟨_, _, p, _⟩ := I.tuple h1
    cases te with
    | non =>
      cases ry
      exact ⟨EqAt.tuple_none  p hu, RcAt.tuple_none  p hu, RcNeAt.tuple_none  p hu⟩
    | bl b =>
      cases ry
      exact ⟨EqAt.tuple_bool _ p hu, RcAt.tuple_bool _ p hu, RcNeAt.tuple_bool _ p hu⟩
    | int b =>
      obtain ⟨t2, rfl⟩ := ry
      exact ⟨EqAt.tuple_int _ _ p hu, RcAt.tuple_int _ _ p hu, RcNeAt.tuple_int _ _ p hu⟩
    | str b =>
      obtain ⟨t2, rfl⟩ := ry
      exact ⟨EqAt.tuple_str _ _ p hu, RcAt.tuple_str _ _ p hu, RcNeAt.tuple_str _ _ p hu⟩
    | tup h2 t2 => exact absurd h (by simp [Apart, Dt.kd])
    | lst h2 t2 =>
      cases ry
      obtain ⟨_, _, p2, _⟩ := I.list h2
      have p2 := p2.isList
      exact ⟨EqAt.tuple_list p p2 hu, RcAt.tuple_list p p2 hu, RcNeAt.tuple_list p p2 hu⟩
  | lst h1 t1 =>
    cases rx
    obtain ⟨_, _, p, _⟩ := I.list h1
    have p := p.isList
    cases te with
    | non =>
      cases ry
      exact ⟨EqAt.list_none  p hu, RcAt.list_none  p hu, RcNeAt.list_none  p hu⟩
    | bl b =>
      cases ry
      exact ⟨EqAt.list_bool _ p hu, RcAt.list_bool _ p hu, RcNeAt.list_bool _ p hu⟩
    | int b =>
      obtain ⟨t2, rfl⟩ := ry
      exact ⟨EqAt.list_int _ _ p hu, RcAt.list_int _ _ p hu, RcNeAt.list_int _ _ p hu⟩
    | str b =>
      obtain ⟨t2, rfl⟩ := ry
      exact ⟨EqAt.list_str _ _ p hu, RcAt.list_str _ _ p hu, RcNeAt.list_str _ _ p hu⟩
    | tup h2 t2 =>
      cases ry
      obtain ⟨_, _, p2, _⟩ := I.tuple h2
      exact ⟨EqAt.list_tuple p p2 hu, RcAt.list_tuple p p2 hu, RcNeAt.list_tuple p p2 hu⟩
    | lst h2 t2 => exact absurd h (by simp [Apart, Dt.kd])
theorem eq_of_rc (I : Inv X pins σ H s) {d e : Dt} {v u : V} {x y : Value} {A : Around} (td : IsDt X.K H v d) (te : IsDt X.K H u e) (rx : RelV v x) (ry : RelV u y) (h : RcAt A s x y (dec (d = e))) : EqAt A s x y (dec (d = e)) := by
  by_cases hxy : x = y
  · subst hxy
    have e1 := rx.inj ry
    subst e1
    rw [dec_true (IsDt.inj I td te)]
    exact EqAt.same _
  · intro prog w E Q hq
    unfold eqBool
    refine wpAny_holding ?_
    refine wpAny_ite_split (fun hab => absurd (eq_of_beq hab) hxy) (fun _ => ?_)
    cases td with
    | non => cases rx; exact wpAny_bind (h prog w E _ (wpAny_truthy_bool hq))
    | bl a => cases rx; exact wpAny_bind (h prog w E _ (wpAny_truthy_bool hq))
    | int a => obtain ⟨t, rfl⟩ := rx; exact wpAny_bind (h prog w E _ (wpAny_truthy_bool hq))
    | str a => obtain ⟨t, rfl⟩ := rx; exact wpAny_bind (h prog w E _ (wpAny_truthy_bool hq))
    | tup _ _ => cases rx; exact wpAny_bind (h prog w E _ (wpAny_truthy_bool hq))
    | lst _ _ => cases rx; exact wpAny_bind (h prog w E _ (wpAny_truthy_bool hq))
theorem kd_ne {d e : Dt} (h : Apart d.kd e.kd = true) : ¬ d = e := fun z => by
  subst z
  simp [Apart] at h
mutual
theorem rcD (I : Inv X pins σ H s) {n : Nat} {d e : Dt} {v u : V} {x y : Value} {A : Around} (c : Cmp n d e) (td : IsDt X.K H v d) (te : IsDt X.K H u e) (rx : RelV v x) (ry : RelV u y) (hu : A.units + n < cLine) : RcAt A s x y (dec (d = e)) ∧ RcNeAt A s x y (!dec (d = e)) := by
  cases c with
  | non =>
    cases td; cases te
    cases rx; cases ry
    rw [dec_true rfl]
    exact ⟨RcAt.none_none, RcNeAt.none_none⟩
  | bl a b =>
    cases td; cases te
    cases rx; cases ry
    rw [← dec_beq (a := a) (b := b) (by simp)]
    exact ⟨RcAt.bool_bool a b, RcNeAt.bool_bool a b⟩
  | int a b =>
    cases td; cases te
    obtain ⟨t, rfl⟩ := rx
    obtain ⟨t', rfl⟩ := ry
    rw [← dec_beq (a := a) (b := b) (by simp)]
    exact ⟨RcAt.int_int a t b t', RcNeAt.int_int a t b t'⟩
  | str a b =>
    cases td; cases te
    obtain ⟨t, rfl⟩ := rx
    obtain ⟨t', rfl⟩ := ry
    rw [← dec_beq (a := a) (b := b) (by simp)]
    exact ⟨RcAt.str_str a t b t', RcNeAt.str_str a t b t'⟩
  | @tup n ds es c =>
    cases td; cases te
    rename_i a vs h t b us h' t'
    cases rx; cases ry
    obtain ⟨its, r, p, _⟩ := I.tuple h
    obtain ⟨its', r', p', _⟩ := I.tuple h'
    have l1 := r.length
    have l2 := r'.length
    have l3 := t.length
    have l4 := t'.length
    have he := eq_items (A := A.in1) I r r' t t' (eqDs I c (by rw [in1_units]; omega))
    have e : dec (Dt.tup ds = Dt.tup es) = ((List.range (min its.toArray.size its'.toArray.size)).all (fun j => dec (ds[j]? = es[j]?)) && its.toArray.size == its'.toArray.size) := by
      rw [dec_congr (p := Dt.tup ds = Dt.tup es) (q := ds = es) (by simp)]
      simp only [List.size_toArray]
      by_cases hl : ds.length = es.length
      · rw [show (its.length == its'.length) = true from beq_iff_eq.mpr (by omega), Bool.and_true, range_dec (by omega) hl]
      · rw [show (its.length == its'.length) = false from beq_false_of_ne (by omega), Bool.and_false, dec_false fun z => hl (by rw [z])]
    rw [e]
    exact ⟨RcAt.tuples (A := A) p p' (by omega) he, RcNeAt.tuples (A := A) p p' (by omega) he⟩
  | @lst n ds es c =>
    cases td; cases te
    rename_i a vs h t b us h' t'
    cases rx; cases ry
    obtain ⟨its, r, p, _⟩ := I.list h
    obtain ⟨its', r', p', _⟩ := I.list h'
    have l1 := r.length
    have l2 := r'.length
    have l3 := t.length
    have l4 := t'.length
    by_cases hl : ds.length = es.length
    · have he := eq_items (A := A.in1) I r r' t t' (eqDs I c (by rw [in1_units]; omega))
      rw [dec_congr (p := Dt.lst ds = Dt.lst es) (q := ds = es) (by simp), ← range_dec (n := its.toArray.size) (by simp only [List.size_toArray]; omega) hl]
      exact ⟨RcAt.lists (A := A) p.isList p'.isList (by simp only [List.size_toArray]; omega) (by omega) he, RcNeAt.lists (A := A) p.isList p'.isList (by simp only [List.size_toArray]; omega) (by omega) he⟩
    · rw [dec_false (show ¬ Dt.lst ds = Dt.lst es from fun z => hl (by cases z; rfl))]
      have hz : (its.toArray.size != its'.toArray.size) = true := by simp only [List.size_toArray]; rw [bne_iff_ne]; omega
      exact ⟨RcAt.lists_lengths p.isList p'.isList hz (by omega), RcNeAt.lists_lengths p.isList p'.isList hz (by omega)⟩
  | apart h =>
    obtain ⟨_, h1, h2⟩ := apart_all (A := A) I h td te rx ry (by omega)
    rw [dec_false (kd_ne h)]
    exact ⟨h1, h2⟩
theorem eqDs (I : Inv X pins σ H s) {n : Nat} {ds es : List Dt} {A : Around} (c : Cmps n ds es) (hu : A.units + n < cLine)
    (i : Nat) (d e : Dt) (v u : V) (x y : Value) (h : ds[i]? = some d) (h' : es[i]? = some e) (rx : RelV v x) (ry : RelV u y) (td : IsDt X.K H v d) (te : IsDt X.K H u e) : EqAt A s x y (dec (d = e)) := by
  cases c with
  | nil => simp at h
  | nil' => simp at h'
  | cons c t => cases i with
    | zero =>
      simp at h h'; subst h; subst h'
      have hrc := rcD (A := A) I c td te rx ry hu
      exact eq_of_rc I td te rx ry hrc.1
    | succ i => exact eqDs I t hu i d e v u x y (by simpa using h) (by simpa using h') rx ry td te
end
theorem eqD (I : Inv X pins σ H s) {n : Nat} {d e : Dt} {v u : V} {x y : Value} {A : Around} (c : Cmp n d e) (td : IsDt X.K H v d) (te : IsDt X.K H u e) (rx : RelV v x) (ry : RelV u y) (hu : A.units + n < cLine) : EqAt A s x y (dec (d = e)) :=
  eq_of_rc I td te rx ry (rcD I c td te rx ry hu).1
end
section
variable {X : Cx}
/-- == and != of deep data; in, not in a list of them -/
def rEqD (K : PySem.W.Frag) : R2 := fun x y H Q => ∃ n d e, Cmp n d e ∧ n ≤ 60 ∧ IsDt K H x d ∧ IsDt K H y e ∧ Q (.bl (dec (d = e))) H
def rNeD (K : PySem.W.Frag) : R2 := fun x y H Q => ∃ n d e, Cmp n d e ∧ n ≤ 60 ∧ IsDt K H x d ∧ IsDt K H y e ∧ Q (.bl (!dec (d = e))) H
theorem op_eqD (hu : X.A.units + 64 < cLine) : OpR X (compareOp .Eq) (rEqD X.K) := by
  intro pins s σ H x y v u Q I rx ry h
  obtain ⟨n, d, e, c, hn, td, te, q⟩ := h
  exact (rcD (A := X.A) I c td te rx ry (by omega)).1 _ _ _ _ ⟨.bl _, H, I, rfl, q⟩
theorem op_neD (hu : X.A.units + 64 < cLine) : OpR X (compareOp .NotEq) (rNeD X.K) := by
  intro pins s σ H x y v u Q I rx ry h
  obtain ⟨n, d, e, c, hn, td, te, q⟩ := h
  exact (rcD (A := X.A) I c td te rx ry (by omega)).2 _ _ _ _ ⟨.bl _, H, I, rfl, q⟩
def rInD (K : PySem.W.Frag) : R2 := fun x y H Q => ∃ n d ds a vs, (∀ e ∈ ds, Cmp n e d) ∧ n ≤ 60 ∧ IsDt K H x d ∧ y = .ref a ∧ SqL K H a vs ∧ IsDts K H vs ds ∧ Q (.bl (dec (d ∈ ds))) H
theorem in_items {pins : List (Addr × Obj)} {σ : St} {H : Hp} {s : Shared} (I : Inv X pins σ H s) {n : Nat} {d : Dt} {ds : List Dt} {vs : List V} {its : List Value} {v : V} {x : Value} {A : Around} (r : Vals vs its) (t : IsDts X.K H vs ds) (hc : ∀ e ∈ ds, Cmp n e d) (td : IsDt X.K H v d) (rx : RelV v x) (hu : A.units + n < cLine) :
    (∀ y, y ∈ its.toArray → EqAt A s y x (dec (∃ u, RelV u y ∧ IsDt X.K H u d))) ∧ its.toArray.any (fun y => dec (∃ u, RelV u y ∧ IsDt X.K H u d)) = dec (d ∈ ds) := by
  have ll := r.length
  have lt := t.length
  have one : ∀ y, y ∈ its → ∃ e ∈ ds, ∃ u, RelV u y ∧ IsDt X.K H u e := fun y hy => by
    obtain ⟨i, hi, e⟩ := List.mem_iff_getElem.mp hy
    obtain ⟨y', hy', ry⟩ := r.get (i := i) (x := vs[i]'(by omega)) (List.getElem?_eq_getElem (by omega))
    obtain ⟨e', he, te⟩ := t.get (i := i) (v := vs[i]'(by omega)) (List.getElem?_eq_getElem (by omega))
    rw [List.getElem?_eq_getElem hi, e] at hy'
    cases hy'
    exact ⟨e', List.mem_of_getElem? he, _, ry, te⟩
  refine ⟨fun y hy => ?_, ?_⟩
  · obtain ⟨e, he, u, ru, te⟩ := one y (by simpa using hy)
    have := eqD (A := A) I (hc e he) te td ru rx hu
    rw [dec_congr (p := ∃ u, RelV u y ∧ IsDt X.K H u d) (q := e = d) ⟨fun ⟨u', ru', te'⟩ => by
      have e1 := ru.inj ru'
      subst e1
      exact IsDt.inj I te te', fun z => ⟨u, ru, by rw [← z]; exact te⟩⟩]
    exact this
  · by_cases hm : d ∈ ds
    · rw [dec_true hm, Array.any_eq_true]
      obtain ⟨i, hi, e⟩ := List.mem_iff_getElem.mp hm
      obtain ⟨u, hu', te⟩ := t.get' (i := i) (d := d) (by rw [List.getElem?_eq_getElem hi, e])
      obtain ⟨y, hy, ry⟩ := r.get hu'
      have hi' : i < its.length := (List.getElem?_eq_some_iff.mp hy).1
      refine ⟨i, by simpa using hi', ?_⟩
      have : its.toArray[i]'(by simpa using hi') = y := by
        rw [List.getElem?_eq_getElem hi'] at hy
        simpa using hy
      rw [this]
      exact dec_true ⟨u, ry, te⟩
    · rw [dec_false hm, Bool.eq_false_iff]
      intro q
      obtain ⟨i, hi, q⟩ := Array.any_eq_true.mp q
      obtain ⟨u, ru, te⟩ := dec_iff.mp q
      obtain ⟨e, he, u', ru', te'⟩ := one (its.toArray[i]) (by simp)
      have e1 := ru.inj ru'
      subst e1
      have e2 := IsDt.inj I te te'
      subst e2
      exact hm he
theorem op_inD (hu : X.A.units + 64 < cLine) : OpR X (compareOp .In) (rInD X.K) := by
  intro pins s σ H x y v u Q I rx ry h
  obtain ⟨n, d, ds, a, vs, hc, hn, td, rfl, hq, t, q⟩ := h
  cases ry
  obtain ⟨its, r, p, _⟩ := I.list hq
  obtain ⟨h1, h2⟩ := in_items (A := X.A.in1) I r t hc td rx (by rw [in1_units]; omega)
  exact in_listAt _ p.isList h1 (by rw [h2]; exact ⟨.bl _, H, I, rfl, q⟩)
end
end L2

namespace Ord
variable {α : Type} [DecidableEq α]

/-- b comes behind a by one told pair or more -/
inductive Path (ps : List (α × α)) : α → α → Prop where
  | one {a b} : (a, b) ∈ ps → Path ps a b
  | snoc {a b c} : Path ps a b → (b, c) ∈ ps → Path ps a c

theorem Path.trans {ps : List (α × α)} {a b c : α} (h : Path ps a b) (k : Path ps b c) : Path ps a c := by
  induction k with
  | one e => exact .snoc h e
  | snoc _ e ih => exact .snoc ih e


theorem Path.snd {ps : List (α × α)} {a b : α} (h : Path ps a b) : b ∈ ps.map (·.2) := by
  cases h with
  | one e => exact List.mem_map.mpr ⟨_, e, rfl⟩
  | snoc _ e => exact List.mem_map.mpr ⟨_, e, rfl⟩

theorem Path.fst {ps : List (α × α)} {a b : α} (h : Path ps a b) : a ∈ ps.map (·.1) := by
  induction h with
  | one e => exact List.mem_map.mpr ⟨_, e, rfl⟩
  | snoc _ _ ih => exact ih

/-- the labels told as worse than a, in their order -/
def worseOf (ps : List (α × α)) (a : α) : List α := (ps.filter (fun p => decide (p.1 = a))).map (·.2)
theorem mem_worseOf {ps : List (α × α)} {a b : α} : b ∈ worseOf ps a ↔ (a, b) ∈ ps := by
  unfold worseOf
  rw [List.mem_map]
  constructor
  · rintro ⟨⟨x, y⟩, h, rfl⟩
    obtain ⟨h1, h2⟩ := List.mem_filter.mp h
    have e : x = a := of_decide_eq_true h2
    subst e; exact h1
  · intro h
    exact ⟨(a, b), List.mem_filter.mpr ⟨h, decide_eq_true rfl⟩, rfl⟩
theorem worseOf_snoc {ps : List (α × α)} {x y a : α} : worseOf (ps ++ [(x, y)]) a = if x = a then worseOf ps a ++ [y] else worseOf ps a := by
  unfold worseOf
  rw [List.filter_append]
  by_cases e : x = a
  · simp [e]
  · simp [e]

/-- what came_from is at any time: each label once, each behind a told pair from the start or from a label that came earlier -/
structure Tree (ps : List (α × α)) (st : α) (cf : List (α × α)) : Prop where
  nd : (cf.map (·.1)).Nodup
  par : ∀ (i : Nat) (p : α × α), cf[i]? = some p → (p.2, p.1) ∈ ps ∧ (p.2 = st ∨ ∃ (j : Nat) (q : α × α), j < i ∧ cf[j]? = some q ∧ q.1 = p.2)

theorem Tree.nil {ps : List (α × α)} {st : α} : Tree ps st [] := ⟨List.nodup_nil, fun i p h => by simp at h⟩

theorem nodup_snoc {l : List α} {x : α} (h : l.Nodup) (hx : x ∉ l) : (l ++ [x]).Nodup := by
  rw [List.nodup_append]
  refine ⟨h, by simp, ?_⟩
  intro a ha b hb e
  rw [List.mem_singleton] at hb
  subst hb; subst e
  exact hx ha

theorem Tree.snoc {ps : List (α × α)} {st : α} {cf : List (α × α)} (T : Tree ps st cf) {w b : α} (hw : w ∉ cf.map (·.1)) (hb : (b, w) ∈ ps) (hp : b = st ∨ b ∈ cf.map (·.1)) : Tree ps st (cf ++ [(w, b)]) := by
  refine ⟨?_, fun i p h => ?_⟩
  · rw [List.map_append]
    exact nodup_snoc T.nd hw
  · by_cases hi : i < cf.length
    · rw [List.getElem?_append_left hi] at h
      obtain ⟨h1, h2⟩ := T.par i p h
      refine ⟨h1, ?_⟩
      rcases h2 with h2 | ⟨j, q, hj, hq, e⟩
      · exact .inl h2
      · exact .inr ⟨j, q, hj, by rw [List.getElem?_append_left (by omega)]; exact hq, e⟩
    · have hi' : i = cf.length := by
        have := (List.getElem?_eq_some_iff.mp h).1
        simp at this; omega
      subst hi'
      have e : p = (w, b) := by simpa using h.symm
      subst e
      refine ⟨hb, ?_⟩
      rcases hp with hp | hp
      · exact .inl hp
      · obtain ⟨q, hq, e⟩ := List.mem_map.mp hp
        obtain ⟨j, hj, e2⟩ := List.mem_iff_getElem.mp hq
        refine .inr ⟨j, q, hj, ?_, e⟩
        rw [List.getElem?_append_left hj]
        exact List.getElem?_eq_some_iff.mpr ⟨hj, e2⟩

theorem Tree.path {ps : List (α × α)} {st : α} {cf : List (α × α)} (T : Tree ps st cf) : ∀ (n i : Nat) (p : α × α), i < n → cf[i]? = some p → Path ps st p.1 := by
  intro n
  induction n with
  | zero => intro i p h; omega
  | succ n ih =>
    intro i p hi h
    obtain ⟨h1, h2⟩ := T.par i p h
    rcases h2 with h2 | ⟨j, q, hj, hq, e⟩
    · rw [h2] at h1; exact .one h1
    · have := ih j q (by omega) hq
      rw [e] at this
      exact .snoc this h1

theorem Tree.path_mem {ps : List (α × α)} {st : α} {cf : List (α × α)} (T : Tree ps st cf) {k : α} (h : k ∈ cf.map (·.1)) : Path ps st k := by
  obtain ⟨q, hq, e⟩ := List.mem_map.mp h
  obtain ⟨j, hj, e2⟩ := List.mem_iff_getElem.mp hq
  have := T.path (j + 1) j q (by omega) (List.getElem?_eq_some_iff.mpr ⟨hj, e2⟩)
  rw [e] at this; exact this

/-- nothing is left to come to -/
def Full (ps : List (α × α)) (st : α) (cf : List (α × α)) : Prop := ∀ b, (b = st ∨ b ∈ cf.map (·.1)) → ∀ w, (b, w) ∈ ps → w ∈ cf.map (·.1)

theorem Tree.iff {ps : List (α × α)} {st : α} {cf : List (α × α)} (T : Tree ps st cf) (F : Full ps st cf) {k : α} : k ∈ cf.map (·.1) ↔ Path ps st k := by
  constructor
  · exact T.path_mem
  · intro h
    induction h with
    | one e => exact F _ (.inl rfl) _ e
    | snoc _ e ih => exact F _ (.inr ih) _ e

theorem nodup_sub_length {l m : List α} (h : l.Nodup) (hs : ∀ x ∈ l, x ∈ m) : l.length ≤ m.length := by
  induction l generalizing m with
  | nil => simp
  | cons x r ih =>
    have hx := hs x (by simp)
    have hn := (List.nodup_cons.mp h)
    have : r.length ≤ (m.erase x).length := ih hn.2 (fun y hy => by
      have hy' := hs y (by simp [hy])
      have ne : y ≠ x := fun e => hn.1 (e ▸ hy)
      exact (List.mem_erase_of_ne ne).mpr hy')
    rw [List.length_erase_of_mem hx] at this
    have hp : 0 < m.length := List.length_pos_of_mem hx
    simp; omega

theorem Tree.length {ps : List (α × α)} {st : α} {cf : List (α × α)} (T : Tree ps st cf) : cf.length ≤ ps.length := by
  have := nodup_sub_length T.nd (m := ps.map (·.2)) (fun x hx => (T.path_mem hx).snd)
  simpa using this

/-! ### the loop by layers: layer = those whose worse labels were not looked at yet -/
/-- within a layer: rest are those of the layer still to be looked at, further those that came new -/
structure Lay (ps : List (α × α)) (st : α) (cf : List (α × α)) (rest further : List α) : Prop where
  tree : Tree ps st cf
  inR : ∀ b ∈ rest, b = st ∨ b ∈ cf.map (·.1)
  inF : ∀ b ∈ further, b ∈ cf.map (·.1)
  full : ∀ b, (b = st ∨ b ∈ cf.map (·.1)) → b ∈ rest ∨ b ∈ further ∨ ∀ w, (b, w) ∈ ps → w ∈ cf.map (·.1)
theorem Lay.start {ps : List (α × α)} {st : α} : Lay ps st [] [st] [] :=
  ⟨Tree.nil, fun b hb => .inl (by simpa using hb), fun b hb => by simp at hb, fun b hb => .inl (by simpa using hb)⟩
theorem Lay.next {ps : List (α × α)} {st : α} {cf : List (α × α)} {further : List α} (L : Lay ps st cf [] further) : Lay ps st cf further [] :=
  ⟨L.tree, fun b hb => .inr (L.inF b hb), fun b hb => by simp at hb, fun b hb => by
    rcases L.full b hb with h | h | h
    · simp at h
    · exact .inl h
    · exact .inr (.inr h)⟩
theorem Lay.done {ps : List (α × α)} {st : α} {cf : List (α × α)} (L : Lay ps st cf [] []) : Full ps st cf := fun b hb => by
  rcases L.full b hb with h | h | h
  · simp at h
  · simp at h
  · exact h
/-- one label b of the layer, of whose worse labels those of pre were looked at -/
structure LayB (ps : List (α × α)) (st b : α) (pre : List α) (cf : List (α × α)) (rest further : List α) : Prop where
  tree : Tree ps st cf
  inR : ∀ c ∈ b :: rest, c = st ∨ c ∈ cf.map (·.1)
  inF : ∀ c ∈ further, c ∈ cf.map (·.1)
  pre : ∀ w ∈ pre, w ∈ cf.map (·.1)
  full : ∀ c, (c = st ∨ c ∈ cf.map (·.1)) → c = b ∨ c ∈ rest ∨ c ∈ further ∨ ∀ w, (c, w) ∈ ps → w ∈ cf.map (·.1)
theorem Lay.into {ps : List (α × α)} {st b : α} {cf : List (α × α)} {rest further : List α} (L : Lay ps st cf (b :: rest) further) : LayB ps st b [] cf rest further :=
  ⟨L.tree, L.inR, L.inF, fun w hw => by simp at hw, fun c hc => by
    rcases L.full c hc with h | h | h
    · rcases List.mem_cons.mp h with h | h
      · exact .inl h
      · exact .inr (.inl h)
    · exact .inr (.inr (.inl h))
    · exact .inr (.inr (.inr h))⟩
theorem LayB.out {ps : List (α × α)} {st b : α} {cf : List (α × α)} {rest further : List α} (L : LayB ps st b (worseOf ps b) cf rest further) : Lay ps st cf rest further :=
  ⟨L.tree, fun c hc => L.inR c (by simp [hc]), L.inF, fun c hc => by
    rcases L.full c hc with h | h | h | h
    · subst h
      exact .inr (.inr fun w hw => L.pre w (mem_worseOf.mpr hw))
    · exact .inl h
    · exact .inr (.inl h)
    · exact .inr (.inr h)⟩
theorem LayB.known {ps : List (α × α)} {st b w : α} {pre : List α} {cf : List (α × α)} {rest further : List α} (L : LayB ps st b pre cf rest further) (hw : w ∈ cf.map (·.1)) : LayB ps st b (pre ++ [w]) cf rest further :=
  ⟨L.tree, L.inR, L.inF, fun x hx => by
    rcases List.mem_append.mp hx with h | h
    · exact L.pre x h
    · rw [List.mem_singleton] at h; subst h; exact hw, L.full⟩
theorem LayB.more {ps : List (α × α)} {st b w : α} {pre : List α} {cf : List (α × α)} {rest further : List α} (L : LayB ps st b pre cf rest further) (hw : w ∉ cf.map (·.1)) (hb : (b, w) ∈ ps) :
    LayB ps st b (pre ++ [w]) (cf ++ [(w, b)]) rest (further ++ [w]) := by
  have up : ∀ c, c ∈ cf.map (·.1) → c ∈ (cf ++ [(w, b)]).map (·.1) := fun c hc => by rw [List.map_append]; exact List.mem_append_left _ hc
  have upw : w ∈ (cf ++ [(w, b)]).map (·.1) := by rw [List.map_append]; exact List.mem_append_right _ (by simp)
  refine ⟨L.tree.snoc hw hb (L.inR b (by simp)), fun c hc => (L.inR c hc).imp id (up c), fun c hc => ?_, fun c hc => ?_, fun c hc => ?_⟩
  · rcases List.mem_append.mp hc with h | h
    · exact up c (L.inF c h)
    · rw [List.mem_singleton] at h; subst h; exact upw
  · rcases List.mem_append.mp hc with h | h
    · exact up c (L.pre c h)
    · rw [List.mem_singleton] at h; subst h; exact upw
  · have hc' : c = st ∨ c ∈ cf.map (·.1) ∨ c = w := by
      rcases hc with h | h
      · exact .inl h
      · rw [List.map_append] at h
        rcases List.mem_append.mp h with h | h
        · exact .inr (.inl h)
        · exact .inr (.inr (by simpa using h))
    have old : (c = st ∨ c ∈ cf.map (·.1)) → c = b ∨ c ∈ rest ∨ c ∈ further ++ [w] ∨ ∀ x, (c, x) ∈ ps → x ∈ (cf ++ [(w, b)]).map (·.1) := fun hc => by
      rcases L.full c hc with h | h | h | h
      · exact .inl h
      · exact .inr (.inl h)
      · exact .inr (.inr (.inl (List.mem_append_left _ h)))
      · exact .inr (.inr (.inr fun x hx => up x (h x hx)))
    rcases hc' with h | h | h
    · exact old (.inl h)
    · exact old (.inr h)
    · exact .inr (.inr (.inl (by rw [h]; exact List.mem_append_right _ (by simp))))

/-! ### a chain back along came_from -/
end Ord

namespace War
/-- a way by E, what lies between below k -/
inductive Pk (E : Nat → Nat → Prop) (k : Nat) : Nat → Nat → Prop where
  | one {i j : Nat} : E i j → Pk E k i j
  | cons {i l j : Nat} : E i l → l < k → Pk E k l j → Pk E k i j
theorem Pk.split {E : Nat → Nat → Prop} {k i j : Nat} (h : Pk E (k + 1) i j) : Pk E k i j ∨ (Pk E k i k ∧ Pk E k k j) := by
  induction h with
  | one e => exact .inl (.one e)
  | cons e hl _ ih =>
    rename_i i l j _
    by_cases hlk : l = k
    · subst hlk
      rcases ih with ih | ih
      · exact .inr ⟨.one e, ih⟩
      · exact .inr ⟨.one e, ih.2⟩
    · have : l < k := by omega
      rcases ih with ih | ih
      · exact .inl (.cons e this ih)
      · exact .inr ⟨.cons e this ih.1, ih.2⟩
theorem Pk.app {E : Nat → Nat → Prop} {k i l j : Nat} (h : Pk E k i l) (hl : l < k) (h' : Pk E k l j) : Pk E k i j := by
  induction h with
  | one e => exact .cons e hl h'
  | cons e hm _ ih => exact .cons e hm (ih hl h')
theorem Pk.zero {E : Nat → Nat → Prop} {i j : Nat} (h : Pk E 0 i j) : E i j := by
  cases h with
  | one e => exact e
  | cons _ hl _ => omega
def setR (R : Nat → Nat → Bool) (i j : Nat) : Nat → Nat → Bool := fun a b => if a = i ∧ b = j then true else R a b
theorem setR_ge {R : Nat → Nat → Bool} {i j a b : Nat} (h : R a b = true) : setR R i j a b = true := by
  unfold setR
  split
  · rfl
  · exact h
theorem setR_at {R : Nat → Nat → Bool} {i j : Nat} : setR R i j i j = true := by
  unfold setR
  rw [if_pos ⟨rfl, rfl⟩]
theorem setR_of {R : Nat → Nat → Bool} {i j a b : Nat} (h : setR R i j a b = true) : (a = i ∧ b = j) ∨ R a b = true := by
  unfold setR at h
  split at h
  · rename_i hc; exact .inl hc
  · exact .inr h
theorem setR_ne {R : Nat → Nat → Bool} {i j a b : Nat} (h : a ≠ i) : setR R i j a b = R a b := by
  unfold setR
  rw [if_neg fun z => h z.1]
/-- between two turns: at stage k, ahead of (i, j) -/
structure WI (E : Nat → Nat → Prop) (m k i j : Nat) (R : Nat → Nat → Bool) : Prop where
  sound : ∀ a b, a < m → b < m → R a b = true → Pk E m a b
  comp : ∀ a b, a < m → b < m → Pk E k a b → R a b = true
  done : ∀ a b, a < m → b < m → (a < i ∨ (a = i ∧ b < j)) → Pk E (k + 1) a b → R a b = true
theorem WI.start {E : Nat → Nat → Prop} {m : Nat} {R : Nat → Nat → Bool} (h : ∀ a b, a < m → b < m → (R a b = true ↔ E a b)) : WI E m 0 0 0 R :=
  ⟨fun a b ha hb r => .one ((h a b ha hb).mp r), fun a b ha hb p => (h a b ha hb).mpr p.zero, fun a b _ _ h => by omega⟩
theorem WI.step {E : Nat → Nat → Prop} {m k i j : Nat} {R : Nat → Nat → Bool} (W : WI E m k i j R) (hk : k < m) (hi : i < m) (hj : j < m) (h1 : R i k = true) (h2 : R k j = true) : WI E m k i (j + 1) (setR R i j) := by
  refine ⟨fun a b ha hb r => ?_, fun a b ha hb p => setR_ge (W.comp a b ha hb p), fun a b ha hb hab p => ?_⟩
  · rcases setR_of r with ⟨rfl, rfl⟩ | r
    · exact (W.sound _ _ ha hk h1).app hk (W.sound _ _ hk hb h2)
    · exact W.sound a b ha hb r
  · by_cases he : a = i ∧ b = j
    · obtain ⟨rfl, rfl⟩ := he; exact setR_at
    · exact setR_ge (W.done a b ha hb (by omega) p)
theorem WI.skip {E : Nat → Nat → Prop} {m k i j : Nat} {R : Nat → Nat → Bool} (W : WI E m k i j R) (hk : k < m) (hi : i < m) (hj : j < m) (h : ¬ (R i k = true ∧ R k j = true)) : WI E m k i (j + 1) R := by
  refine ⟨W.sound, W.comp, fun a b ha hb hab p => ?_⟩
  by_cases he : a = i ∧ b = j
  · obtain ⟨rfl, rfl⟩ := he
    rcases p.split with p | ⟨p1, p2⟩
    · exact W.comp _ _ ha hb p
    · exact absurd ⟨W.comp _ _ ha hk p1, W.comp _ _ hk hb p2⟩ h
  · exact W.done a b ha hb (by omega) p
theorem WI.nexti {E : Nat → Nat → Prop} {m k i : Nat} {R : Nat → Nat → Bool} (W : WI E m k i m R) : WI E m k (i + 1) 0 R :=
  ⟨W.sound, W.comp, fun a b ha hb hab p => W.done a b ha hb (by omega) p⟩
theorem WI.nextk {E : Nat → Nat → Prop} {m k : Nat} {R : Nat → Nat → Bool} (W : WI E m k m 0 R) : WI E m (k + 1) 0 0 R :=
  ⟨W.sound, fun a b ha hb p => W.done a b ha hb (by omega) p, fun a b _ _ h => by omega⟩
theorem WI.fin {E : Nat → Nat → Prop} {m : Nat} {R : Nat → Nat → Bool} (W : WI E m m 0 0 R) {a b : Nat} (ha : a < m) (hb : b < m) : R a b = true ↔ Pk E m a b :=
  ⟨W.sound a b ha hb, W.comp a b ha hb⟩
/-- labels and places -/
theorem path_iff {α : Type} [DecidableEq α] {ps : List (α × α)} {L : List α} (hin : ∀ p ∈ ps, p.1 ∈ L ∧ p.2 ∈ L) {a b : Nat} {x y : α} (hx : L[a]? = some x) (hy : L[b]? = some y) :
    Pk (fun i j => ∃ x y, L[i]? = some x ∧ L[j]? = some y ∧ (x, y) ∈ ps) L.length a b ↔ Ord.Path ps x y := by
  constructor
  · intro h
    induction h generalizing x y with
    | one e =>
      obtain ⟨x', y', e1, e2, e3⟩ := e
      rw [hx] at e1; rw [hy] at e2; cases e1; cases e2
      exact .one e3
    | cons e _ _ ih =>
      obtain ⟨x', z, e1, e2, e3⟩ := e
      rw [hx] at e1; cases e1
      exact (Ord.Path.one e3).trans (ih e2 hy)
  · intro h
    induction h generalizing b with
    | one e => exact .one ⟨_, _, hx, hy, e⟩
    | snoc p e ih =>
      rename_i u v
      obtain ⟨l, hl, e2⟩ := List.mem_iff_getElem.mp (hin _ e).1
      have hl' : L[l]? = some u := by rw [List.getElem?_eq_getElem hl, e2]
      exact (ih hl').app hl (.one ⟨_, _, hl', hy, e⟩)
end War

namespace Ord
variable {α : Type} [DecidableEq α]
theorem look_mem {cf : List (α × α)} {w b : α} (h : cf.lookup w = some b) : (w, b) ∈ cf := by
  induction cf with
  | nil => simp at h
  | cons p r ih =>
    obtain ⟨x, y⟩ := p
    rw [List.lookup_cons] at h
    by_cases e : w = x
    · subst e
      simp at h; subst h; exact List.mem_cons_self
    · have hb : (w == x) = false := beq_false_of_ne e
      rw [hb] at h
      exact List.mem_cons_of_mem _ (ih h)
end Ord

namespace L2
open PySem PySem.Spec PyProof.Rows Ord
/-! ### pairs of texts, dicts of texts -/
abbrev prD (p : Str × Str) : Dt := .tup [.str p.1, .str p.2]
/-- a list of pairs of texts -/
def Prs (K : PySem.W.Frag) (H : Hp) (a : Addr) (ps : List (Str × Str)) : Prop := ∃ vs, SqL K H a vs ∧ IsDts K H vs (ps.map prD)
theorem cmp_pair (p q : Str × Str) : Cmp 2 (prD p) (prD q) := .tup (.cons (.str _ _) (.cons (.str _ _) (.nil _)))
theorem cmp_pairs (ps : List (Str × Str)) (q : Str × Str) : ∀ e ∈ ps.map prD, Cmp 2 e (prD q) := fun e he => by
  obtain ⟨p, _, rfl⟩ := List.mem_map.mp he
  exact cmp_pair p q
theorem prD_mem {ps : List (Str × Str)} {q : Str × Str} : prD q ∈ ps.map prD ↔ q ∈ ps := by
  rw [List.mem_map]
  constructor
  · rintro ⟨p, hp, e⟩
    have e1 : p = q := by
      simp only [prD, Dt.tup.injEq, List.cons.injEq, Dt.str.injEq, and_true] at e
      exact Prod.ext e.1 e.2
    rw [← e1]; exact hp
  · exact fun h => ⟨q, h, rfl⟩
theorem map_at {ls : List Str} {i : Nat} {x : V} (h : (ls.map V.str)[i]? = some x) : ∃ z, ls[i]? = some z ∧ x = V.str z := by
  rw [List.getElem?_map] at h
  obtain ⟨b, h1, h2⟩ := Option.map_eq_some_iff.mp h
  exact ⟨b, h1, h2.symm⟩
theorem one_le : ([] : List V).length + 1 ≤ sizeLine := by decide
theorem two_le : ([] : List V).length + 1 + 1 ≤ sizeLine := by decide
theorem Prs.same {K : PySem.W.Frag} {H H' : Hp} {a : Addr} {ps : List (Str × Str)} (e : Same H H') (h : Prs K H a ps) : Prs K H' a ps := by
  obtain ⟨vs, h1, h2⟩ := h
  exact ⟨vs, e.seq h1, h2.same e⟩
theorem pair_at {K : PySem.W.Frag} {H : Hp} {v : V} {p : Str × Str} (h : IsDt K H v (prD p)) : ∃ t, v = .ref t ∧ SqT K H t [.str p.1, .str p.2] := by
  cases h with
  | tup h t =>
    cases t with
    | cons h1 t =>
      cases t with
      | cons h2 t =>
        cases t
        cases h1; cases h2
        exact ⟨_, rfl, h⟩
theorem IsDts.pairs_get {K : PySem.W.Frag} {H : Hp} {vs : List V} {ps : List (Str × Str)} (h : IsDts K H vs (ps.map prD)) {i : Nat} {v : V} (hv : vs[i]? = some v) : ∃ p t, ps[i]? = some p ∧ v = .ref t ∧ SqT K H t [.str p.1, .str p.2] := by
  obtain ⟨d, hd, hi⟩ := h.get hv
  rw [List.getElem?_map] at hd
  cases e : ps[i]? with
  | none => rw [e] at hd; cases hd
  | some p =>
    rw [e] at hd
    cases hd
    obtain ⟨t, h1, h2⟩ := pair_at hi
    exact ⟨p, t, rfl, h1, h2⟩
/-- a dict from texts to things -/
abbrev kvR (ks : List (Str × Addr)) : List (Key × V) := ks.map fun p => (Sum.inr p.1, V.ref p.2)
abbrev kvS (cf : List (Str × Str)) : List (Key × V) := cf.map fun p => (Sum.inr p.1, V.str p.2)
theorem val_gen {β : Type} (g : β → V) : ∀ (ks : List (Str × β)) (k : Str), valV (ks.map fun p => ((Sum.inr p.1 : Key), g p.2)) (Sum.inr k) = (ks.lookup k).map g
  | [], _ => rfl
  | p :: r, k => by
    obtain ⟨x, y⟩ := p
    rw [List.map_cons, List.lookup_cons]
    by_cases e : k = x
    · subst e
      rw [valV_pos rfl]
      simp
    · have e' : ¬ ((Sum.inr x : Key) = Sum.inr k) := fun z => e (Sum.inr.inj z).symm
      rw [valV_neg e', val_gen g r k]
      have hb : (k == x) = false := beq_false_of_ne e
      rw [hb]
theorem val_R (ks : List (Str × Addr)) (k : Str) : valV (kvR ks) (Sum.inr k) = (ks.lookup k).map V.ref := val_gen V.ref ks k
theorem val_S (cf : List (Str × Str)) (k : Str) : valV (kvS cf) (Sum.inr k) = (cf.lookup k).map V.str := val_gen V.str cf k
theorem lookA_mem {β : Type} {ks : List (Str × β)} {k : Str} {a : β} (h : ks.lookup k = some a) : (k, a) ∈ ks := by
  induction ks with
  | nil => simp at h
  | cons p r ih =>
    obtain ⟨x, y⟩ := p
    rw [List.lookup_cons] at h
    by_cases e : k = x
    · subst e
      simp at h; subst h; exact List.mem_cons_self
    · have hb : (k == x) = false := beq_false_of_ne e
      rw [hb] at h
      exact List.mem_cons_of_mem _ (ih h)
theorem lookA_none {β : Type} {ks : List (Str × β)} {k : Str} (h : ks.lookup k = none) : k ∉ ks.map (·.1) := by
  induction ks with
  | nil => simp
  | cons p r ih =>
    obtain ⟨x, y⟩ := p
    rw [List.lookup_cons] at h
    by_cases e : k = x
    · subst e; simp at h
    · have hb : (k == x) = false := beq_false_of_ne e
      rw [hb] at h
      intro z
      rcases List.mem_cons.mp z with z | z
      · exact e z
      · exact ih h z
/-- a dict: each better label, and the list of those told as worse -/
structure WBB (H : Hp) (d : Addr) (ps : List (Str × Str)) (ks : List (Str × Addr)) : Prop where
  dict : H d = some (.dK (kvR ks))
  nd : (ks.map (·.1)).Nodup
  lst : ∀ p ∈ ks, H p.2 = some (.lst ((worseOf ps p.1).map V.str))
  all : ∀ p ∈ ps, p.1 ∈ ks.map (·.1)
  adr : (ks.map (·.2)).Nodup
theorem WBB.same {H H' : Hp} {d : Addr} {ps : List (Str × Str)} {ks : List (Str × Addr)} (e : Same H H') (W : WBB H d ps ks) : WBB H' d ps ks :=
  ⟨e _ _ W.dict, W.nd, fun p hp => e _ _ (W.lst p hp), W.all, W.adr⟩
theorem WBB.ne {H : Hp} {d : Addr} {ps : List (Str × Str)} {ks : List (Str × Addr)} (W : WBB H d ps ks) {p : Str × Addr} (hp : p ∈ ks) : p.2 ≠ d := ne_of (W.lst p hp) W.dict (by intro z; cases z)
theorem WBB.start {H : Hp} {d : Addr} (h : H d = some (.dK [])) : WBB H d [] [] := ⟨h, List.nodup_nil, fun p hp => by simp at hp, fun p hp => by simp at hp, List.nodup_nil⟩
theorem WBB.worse {H : Hp} {d : Addr} {ps : List (Str × Str)} {ks : List (Str × Addr)} (W : WBB H d ps ks) {b : Str} : (∀ a, ks.lookup b = some a → H a = some (.lst ((worseOf ps b).map V.str))) ∧ (ks.lookup b = none → worseOf ps b = []) := by
  refine ⟨fun a h => W.lst _ (lookA_mem h), fun h => ?_⟩
  cases e : worseOf ps b with
  | nil => rfl
  | cons w r =>
    have : w ∈ worseOf ps b := by rw [e]; exact List.mem_cons_self
    exact absurd (W.all _ (mem_worseOf.mp this)) (lookA_none h)
/-- one pair more, its better label known -/
theorem WBB.known {H : Hp} {d a : Addr} {ps : List (Str × Str)} {ks : List (Str × Addr)} (W : WBB H d ps ks) {b w : Str} (h : ks.lookup b = some a) : WBB (upd H a (.lst ((worseOf ps b).map V.str ++ [.str w]))) d (ps ++ [(b, w)]) ks := by
  have hm := lookA_mem h
  refine ⟨by rw [upd_ne (W.ne hm).symm]; exact W.dict, W.nd, fun p hp => ?_, fun p hp => ?_, W.adr⟩
  · rw [worseOf_snoc]
    by_cases e : b = p.1
    · rw [if_pos e]
      have ep : p = (b, a) := by
        obtain ⟨i, hi, e1⟩ := List.mem_iff_getElem.mp hp
        obtain ⟨j, hj, e2⟩ := List.mem_iff_getElem.mp hm
        have h1 : (ks.map (·.1))[i]'(by simpa using hi) = (ks.map (·.1))[j]'(by simpa using hj) := by simp [e1, e2, e]
        have h2 := (List.getElem_inj W.nd).mp h1
        subst h2
        rw [← e1, e2]
      subst ep
      rw [upd_same, List.map_append]
      rfl
    · rw [if_neg e]
      have na : p.2 ≠ a := fun z => by
        obtain ⟨i, hi, e1⟩ := List.mem_iff_getElem.mp hp
        obtain ⟨j, hj, e2⟩ := List.mem_iff_getElem.mp hm
        have h1 : (ks.map (·.2))[i]'(by simpa using hi) = (ks.map (·.2))[j]'(by simpa using hj) := by simp [e1, e2, z]
        have h2 := (List.getElem_inj W.adr).mp h1
        subst h2
        rw [e1] at e2
        exact e (by rw [e2])
      rw [upd_ne na]
      exact W.lst p hp
  · rcases List.mem_append.mp hp with hp | hp
    · exact W.all p hp
    · rw [List.mem_singleton] at hp; subst hp
      exact List.mem_map.mpr ⟨_, hm, rfl⟩
/-- .. a new one -/
theorem WBB.more {H : Hp} {d a : Addr} {ps : List (Str × Str)} {ks : List (Str × Addr)} (W : WBB H d ps ks) {b w : Str} (h : ks.lookup b = none) (ha : H a = none) : WBB (upd (upd (upd H a (.lst [])) d (.dK (putK (kvR ks) (Sum.inr b) (.ref a)))) a (.lst ([] ++ [.str w]))) d (ps ++ [(b, w)]) (ks ++ [(b, a)]) := by
  have nda : d ≠ a := ne_of_none W.dict ha
  have hn := lookA_none h
  have hv : valV (kvR ks) (Sum.inr b) = none := by rw [val_R, h]; rfl
  refine ⟨?_, ?_, fun p hp => ?_, fun p hp => ?_, ?_⟩
  · rw [upd_ne nda, upd_same, putK_new _ hv]
    simp [kvR]
  · rw [List.map_append]; exact nodup_snoc W.nd hn
  · rw [worseOf_snoc]
    rcases List.mem_append.mp hp with hp | hp
    · have e : ¬ b = p.1 := fun z => hn (z ▸ List.mem_map.mpr ⟨p, hp, rfl⟩)
      have na : p.2 ≠ a := ne_of_none (W.lst p hp) ha
      rw [if_neg e, upd_ne na, upd_ne (W.ne hp), upd_ne na]
      exact W.lst p hp
    · rw [List.mem_singleton] at hp; subst hp
      rw [if_pos rfl, W.worse.2 h, upd_same]
      rfl
  · rw [List.map_append]
    rcases List.mem_append.mp hp with hp | hp
    · exact List.mem_append_left _ (W.all p hp)
    · rw [List.mem_singleton] at hp; subst hp
      exact List.mem_append_right _ (by simp)
  · rw [List.map_append]
    refine nodup_snoc W.adr fun z => ?_
    obtain ⟨p, hp, e⟩ := List.mem_map.mp z
    exact ne_of_none (W.lst p hp) ha e
end L2
namespace L2
open PySem PySem.Spec PyProof.Rows Ord
theorem IsDts.of_get {K : PySem.W.Frag} {H : Hp} : ∀ {vs : List V} {ds : List Dt}, vs.length = ds.length → (∀ (n : Nat) v d, vs[n]? = some v → ds[n]? = some d → IsDt K H v d) → IsDts K H vs ds
  | [], [], _, _ => .nil
  | v :: vs, d :: ds, hl, h => .cons (h 0 v d rfl rfl) (IsDts.of_get (by simpa using hl) fun n x y e1 e2 => h (n + 1) x y (by simpa using e1) (by simpa using e2))
/-- tuples of two texts at the addresses ts -/
structure Tups (H : Hp) (ts : List Addr) (ps : List (Str × Str)) : Prop where
  len : ts.length = ps.length
  at_ : ∀ (n : Nat) t p, ts[n]? = some t → ps[n]? = some p → H t = some (.tup [.str p.1, .str p.2])
theorem Tups.nil {H : Hp} : Tups H [] [] := ⟨rfl, fun n t p h => by simp at h⟩
theorem Tups.same {H H' : Hp} {ts : List Addr} {ps : List (Str × Str)} (e : Same H H') (h : Tups H ts ps) : Tups H' ts ps := ⟨h.len, fun n t p h1 h2 => e _ _ (h.at_ n t p h1 h2)⟩
theorem Tups.dts {K : PySem.W.Frag} {H : Hp} {ts : List Addr} {ps : List (Str × Str)} (h : Tups H ts ps) : IsDts K H (ts.map V.ref) (ps.map prD) := by
  refine IsDts.of_get (by simpa using h.len) fun n v d e1 e2 => ?_
  rw [List.getElem?_map] at e1 e2
  obtain ⟨t, h1, rfl⟩ := Option.map_eq_some_iff.mp e1
  obtain ⟨p, h2, rfl⟩ := Option.map_eq_some_iff.mp e2
  exact .tup (SqT.of (h.at_ n t p h1 h2)) (.cons (.str _) (.cons (.str _) .nil))
theorem Tups.prs {K : PySem.W.Frag} {H : Hp} {a : Addr} {ts : List Addr} {ps : List (Str × Str)} (h : Tups H ts ps) (e : H a = some (.lst (ts.map V.ref))) : Prs K H a ps := ⟨_, SqL.of e, h.dts⟩
theorem Tups.ne {H : Hp} {a : Addr} {xs : List V} {ts : List Addr} {ps : List (Str × Str)} (h : Tups H ts ps) (e : H a = some (.lst xs)) : a ∉ ts := fun z => by
  obtain ⟨n, hn, e1⟩ := List.mem_iff_getElem.mp z
  have hn' : n < ps.length := by rw [← h.len]; exact hn
  have := h.at_ n a ps[n] (by rw [List.getElem?_eq_getElem hn, e1]) (List.getElem?_eq_getElem hn')
  rw [e] at this
  cases this
theorem Tups.upd {H : Hp} {a : Addr} {o : HO} {ts : List Addr} {ps : List (Str × Str)} (h : Tups H ts ps) (e : a ∉ ts) : Tups (upd H a o) ts ps := ⟨h.len, fun n t p h1 h2 => by
  have ne : t ≠ a := fun z => by
    subst z
    exact e (List.mem_of_getElem? h1)
  rw [L2.upd_ne ne]
  exact h.at_ n t p h1 h2⟩
theorem Tups.snoc {H : Hp} {t : Addr} {ts : List Addr} {ps : List (Str × Str)} {p : Str × Str} (h : Tups H ts ps) (e : H t = some (.tup [.str p.1, .str p.2])) : Tups H (ts ++ [t]) (ps ++ [p]) := by
  refine ⟨by rw [List.length_append, List.length_append, h.len]; rfl, fun n t' p' h1 h2 => ?_⟩
  by_cases hn : n < ts.length
  · rw [List.getElem?_append_left hn] at h1
    rw [List.getElem?_append_left (by rw [← h.len]; exact hn)] at h2
    exact h.at_ n t' p' h1 h2
  · have hn2 : n = ts.length := by
      have := (List.getElem?_eq_some_iff.mp h1).1
      rw [List.length_append, List.length_singleton] at this; omega
    subst hn2
    rw [List.getElem?_append_right (Nat.le_refl _)] at h1
    rw [List.getElem?_append_right (by rw [h.len]; exact Nat.le_refl _)] at h2
    simp at h1
    simp [h.len] at h2
    subst h1; subst h2
    exact e
theorem getD_at {ls : List Str} {i : Nat} (h : i < ls.length) : (ls.map V.str)[i]? = some (.str (ls.getD i default)) := by
  rw [List.getElem?_map, List.getD_eq_getElem?_getD, List.getElem?_eq_getElem h]; rfl
end L2

namespace L2
open PySem PySem.Spec PyProof.Rows
theorem at0 {α : Type} {xs : List α} {i : Nat} {v : α} (h : xs[i]? = some v) : atI xs (0 + (i : Int)) = some v := by
  rw [Int.zero_add]
  exact atI_nat h
theorem ixN0 {n i : Nat} (h : i < n) : ixN n (0 + (i : Int)) = some i := by
  rw [Int.zero_add, ixN_in (by omega) (by omega), Int.toNat_natCast]
/-- over a list that stays, no test, by an invariant of the items so far -/
theorem comp_listI {K : PySem.W.Frag} {a : Addr} {xs : List V} {k : Nat} {caps : List Nat} {g : TG} {te : TE} {σ : St} {H1 : Hp} {Q : Addr → Hp → Prop} (Pv : Addr → Nat → List V → Hp → Prop)
    (h0 : ∀ D, H1 D = none → Pv D 0 [] (upd H1 D (.lst []))) (hq : ∀ D i ys H2, Pv D i ys H2 → SqL K H2 a xs)
    (hs : ∀ D i x ys H2 (R : VK), H1 D = none → xs[i]? = some x → Pv D i ys H2 → (∀ y H6, H6 D = some (.lst ys) → ys.length < sizeLine → Pv D (i + 1) (ys ++ [y]) (upd H6 D (.lst (ys ++ [y]))) → R y H6) → g x (compSt k caps σ) H2 fun σ4 H4 => te σ4 H4 R)
    (hd : ∀ D ys H2, H1 D = none → Pv D xs.length ys H2 → Q D H2) :
    ∀ D, H1 D = none → ∃ W : Nat → Nat → List V → Hp → Prop, (∃ m, W 0 m [] (upd H1 D (.lst []))) ∧ ∀ i m ys H2, W i m ys H2 →
      ((Itl K a).stop i H2 ∧ Q D H2) ∨ ((Itl K a).go i H2 ∧ ∀ x H3, (Itl K a).yld i H2 x H3 → g x (compSt k caps σ) H3 fun σ4 H4 => tYes σ4 H4 fun b H5 =>
        if b = true then te σ4 H5 fun y H6 => H6 D = some (.lst ys) ∧ ys.length < sizeLine ∧ ∃ m', m' < m ∧ W (i + 1) m' (ys ++ [y]) (upd H6 D (.lst (ys ++ [y]))) else ∃ m', m' < m ∧ W (i + 1) m' ys H5) := by
  intro D hD
  refine ⟨fun i m ys H2 => m = xs.length - i ∧ i ≤ xs.length ∧ Pv D i ys H2, ⟨xs.length, rfl, Nat.zero_le _, h0 D hD⟩, ?_⟩
  rintro i m ys H2 ⟨rfl, hi, p⟩
  have q2 := hq D i ys H2 p
  by_cases hlt : i < xs.length
  · refine .inr ⟨⟨xs, xs[i], q2, by simp [hlt]⟩, fun x H3 y => ?_⟩
    obtain ⟨rfl, y⟩ := y
    have hx := y xs q2
    refine hs D i x ys H3 _ hD hx p fun v H6 e6 hz p6 => ?_
    exact ⟨e6, hz, xs.length - (i + 1), by omega, rfl, hlt, p6⟩
  · have e : i = xs.length := by omega
    subst e
    exact .inl ⟨⟨xs, q2, Nat.le_refl _⟩, hd D ys H2 hD p⟩
end L2

namespace L2
open PySem PySem.Spec PyProof.Rows
theorem ObjOk.ex {P : Program} {w : World} {H : Hp} {h : Heap} {a : Addr} {o : HO} (x : ObjOk P w H h a o) : ∃ u, h.get? a = some u := by
  cases o with
  | lst xs => obtain ⟨_, _, _, _, e⟩ := x; exact ⟨_, e⟩
  | tup xs => obtain ⟨_, _, _, u, e, _⟩ := x; exact ⟨u, e⟩
  | dK kvs => obtain ⟨_, _, _, _, u, _, _, e, _⟩ := x; exact ⟨u, e⟩
  | dT kvs => obtain ⟨_, _, _, _, u, _, _, e, _⟩ := x; exact ⟨u, e⟩
  | set S n => obtain ⟨u, _, _, _, e, _⟩ := x; exact ⟨u, e⟩
  | ins C dx fs => obtain ⟨_, _, _, e, _⟩ := x; exact ⟨_, e⟩
  | own y => exact x
  | xd fs => obtain ⟨_, ⟨u, _, _, e, _⟩, _⟩ := x; exact ⟨u, e⟩
  | rng lo hi => obtain ⟨_, _, _, e⟩ := x; exact ⟨_, e⟩
  | frz ob u => obtain ⟨e, _⟩ := x; exact ⟨_, e⟩
  | tbl ps => exact ⟨_, (show h.get? a = some _ from x)⟩
  | met f y => exact ⟨_, (show h.get? a = some _ from x)⟩
  | ext φ => exact x.2.1
theorem Inv.freshN {X : Cx} {pins : List (Addr × Obj)} {σ : L2.St} {H : Hp} {s : Shared} {a : Addr} (I : Inv X pins σ H s) (hne : ∀ b u, s.heap.get? b = some u → b ≠ a) : H a = none := by
  cases e : H a with
  | none => rfl
  | some o =>
    obtain ⟨u, hu⟩ := (I.hok a o e).ex
    exact absurd rfl (hne a u hu)
/-- a new object laid at an address where nothing stood -/
theorem Inv.laidN {X : Cx} {pins : List (Addr × Obj)} {σ : L2.St} {H : Hp} {s : Shared} {h' : Heap} {a : Addr} {o : HO} {t' : Nat} (I : Inv X pins σ H s) (k : ∀ b u, s.heap.get? b = some u → h'.get? b = some u) (hne : ∀ b u, s.heap.get? b = some u → b ≠ a) (new : ObjOk X.prog X.w (upd H a o) h' a o) :
    Inv X pins σ (upd H a o) { s with heap := h', toks := t' } := by
  have hn := I.freshN hne
  refine I.un ⟨fun b u q _ _ _ => k b u q, fun b u q _ _ _ => ⟨u.slots, k b u q⟩, fun b u q n _ => by rw [upd_ne (hne b u q)]; exact n, fun b u q _ => ⟨u, k b u q⟩, fun b xs q => by rw [upd_ne (ne_of_none q hn)]; exact q, fun b u xs q => by rw [upd_ne (ne_of_none q hn)]; exact q, fun b ps q => ⟨#[], by rw [upd_ne (ne_of_none q hn), q]; simp⟩⟩ fun b u e => ?_
  by_cases hb : b = a
  · subst hb; rw [upd_same] at e; cases e; exact new
  · rw [upd_ne hb] at e
    exact (I.hok b u e).stay (fun c v _ q => k c v q) (fun c q => by rw [upd_ne (ne_of_none q hn)]; exact q) fun c xs q => by rw [upd_ne (ne_of_none q hn)]; exact q
/-! ### sorted(d) of a dict whose keys are texts -/
/-- the order of texts -/
def ltS (a b : Str) : Prop := a.cps.toList < b.cps.toList
theorem ltS_irrefl (a : Str) : ¬ ltS a a := List.lt_irrefl _
theorem ltS_trans {a b c : Str} (h : ltS a b) (k : ltS b c) : ltS a c := List.lt_trans h k
theorem ltS_total {a b : Str} (h : ¬ ltS b a) (ne : a ≠ b) : ltS a b := by
  have h1 : a.cps.toList ≤ b.cps.toList := List.not_lt.mp h
  rcases Classical.em (a.cps.toList < b.cps.toList) with h2 | h2
  · exact h2
  · have h3 : b.cps.toList ≤ a.cps.toList := List.not_lt.mp h2
    exact absurd (ext_toList (List.le_antisymm h1 h3)) ne
theorem rising_pw : ∀ (l : List Str) (p : Str), risingS p l = true → (p :: l).Nodup → (p :: l).Pairwise ltS
  | [], p, _, _ => by simp
  | q :: r, p, h, hn => by
    have h' : (!ltCps q.cps.toList p.cps.toList && risingS q r) = true := by simpa [risingS] using h
    rw [Bool.and_eq_true] at h'
    have hn2 := (List.nodup_cons.mp hn)
    have ih := rising_pw r q h'.2 hn2.2
    have hpq : ltS p q := ltS_total (fun z => by
      have := h'.1
      rw [ltCps_eq, decide_eq_true (show q.cps.toList < p.cps.toList from z)] at this
      cases this) fun z => hn2.1 (by rw [z]; exact List.mem_cons_self)
    refine List.pairwise_cons.mpr ⟨fun x hx => ?_, ih⟩
    rcases List.mem_cons.mp hx with e | hx
    · rw [e]; exact hpq
    · exact ltS_trans hpq ((List.pairwise_cons.mp ih).1 x hx)
theorem sorted_pw {l : List Str} (h : sortedS l = true) (hn : l.Nodup) : l.Pairwise ltS := by
  cases l with
  | nil => exact List.Pairwise.nil
  | cons p r => exact rising_pw r p h hn
theorem vals_of_strs : ∀ {vs : List Value} {ss : List Str}, StrsAre vs ss → Vals (ss.map V.str) vs
  | _, _, .nil => .nil
  | _, _, .cons _ _ h => .cons ⟨_, rfl⟩ (vals_of_strs h)
theorem strs_of {ss : List Str} : ∀ {vs : List Value}, vs.length = ss.length → (∀ (i : Nat) (v : Value), vs[i]? = some v → ∃ t, v = .str (ss.getD i default) t) → StrsAre vs ss := by
  induction ss with
  | nil => intro vs hl _; cases vs with
    | nil => exact .nil
    | cons _ _ => simp at hl
  | cons x r ih =>
    intro vs hl h
    cases vs with
    | nil => simp at hl
    | cons v vs =>
      obtain ⟨t, e⟩ := h 0 v rfl
      have e' : v = .str x t := e
      subst e'
      exact .cons _ _ (ih (by simpa using hl) fun i u hu => h (i + 1) u (by simpa using hu))
section
variable {prog : Program} {w : World} {A : Around} {E : Value → Shared → Prop} {s : Shared}
theorem sorted_dictS {d : Addr} {kvs : List (Key × Value)} {ss : List Str} {Q : Value → Shared → Prop} (hh : A.handled = none) (dd : s.heap.DictOf (mixKind prog w) d kvs) (lo : (d == sysModules) = false)
    (hk : kvs.map (·.1) = ss.map Sum.inr) (h64 : ss.length < 64)
    (h : ∀ (D : Addr) (h' : Heap) (tk n : Nat) (out : List Value) (ss' : List Str), (∀ b o, s.heap.get? b = some o → h'.get? b = some o) → (∀ b o, s.heap.get? b = some o → b ≠ D) → h'.get? D = some { cls := .type "list", data := .seq out.toArray n } → Vals (ss'.map V.str) out → ss'.Perm ss → sortedS ss' = true → Q (.ref D) { s with heap := h', toks := tk }) :
    wpAny (model prog w) A (call (.builtin "sorted") [.ref d]) Q E s := by
  have hlk : kvs.length = ss.length := by have := congrArg List.length hk; simpa using this
  have hn : kvs.length ≤ sizeLine := Nat.le_of_lt (small1000 (by omega))
  obtain ⟨ep, hat⟩ := dd.dictAt
  refine Calls.call_function_entry kind_sorted plain_sorted entry_sorted (args_sorted1 _) ?_
  unfold Builtin.«sorted»
  refine wpAny_bind (m := checkCount "sorted" 1 1 _) (wpAny_pure ?_)
  refine wpAny_bind (PySem.W.kdu_collect (A := A.in1) (PySem.W.kdl_dict (knd := mixKind prog w) (kvs := kvs) (ep := ep) lo) hh hat hn fun h1 tk acc k1 hacc => ?_)
  have la : acc.toList.length = ss.length := by rw [Array.length_toList, hacc.1, hlk]
  have hS : StrsAre acc.toList ss := strs_of la fun i v hv => by
    obtain ⟨k, x, e1, e2⟩ := hacc.2 i v (by rw [← Array.getElem?_toList]; exact hv)
    have e3 : (kvs.map (·.1))[i]? = some k := by rw [List.getElem?_map, e1]; rfl
    rw [hk, List.getElem?_map] at e3
    obtain ⟨z, e4, e5⟩ := Option.map_eq_some_iff.mp e3
    have e2' : keyIs k v = true := e2
    rw [← e5] at e2'
    obtain ⟨t, e6⟩ := Value.isStrOf_shape e2'
    exact ⟨t, by rw [e6, List.getD_eq_getElem?_getD, e4]; rfl⟩
  refine wpAny_bind (wpAny_newList ?_ (by rw [la]; exact Nat.le_of_lt (small1000 (by omega))))
  have hoL : (h1.push { cls := .type "list", data := .seq acc.toList.toArray }).get? h1.objs.size = some (seqObj "list" acc.toList.toArray 0) := Heap.get?_push_size _ rfl
  refine wpAny_bind (wpAny_holding (wpAny_call_entry slot_list_sort ⟨_, hoL, rfl⟩ entry_list_sort (list_sort_treeK strKind_oneLt hoL hS.keysOf (fun v₁ v₂ rest e => keyKind_strs (by rw [← e]; exact hS)) (by rw [la]; exact h64) fun st' a1 a2 => ⟨_, rfl, ?_⟩) (args_list_sort _)))
  obtain ⟨ss', b1, b2, b3⟩ := sorted_out_str hS a1 a2
  obtain ⟨n, hg⟩ := sortedHeap_at (vs := acc.toList) (out := (arrOf st').map (·.2)) hoL
  have szle : ∀ b o, s.heap.get? b = some o → b ≠ h1.objs.size := fun b o e => Nat.ne_of_lt (Heap.lt_size (k1 b o e))
  refine wpAny_pure ⟨_, rfl, h h1.objs.size _ tk n _ ss' (fun b o e => ?_) szle (by rw [Array.toArray_toList]; exact hg) (vals_of_strs b1) b2 b3⟩
  have hb := Heap.lt_size (k1 b o e)
  rw [sortedHeap_old (Nat.ne_of_lt hb) (by rw [Heap.size_push]; exact Nat.lt_succ_of_lt hb)]
  exact Heap.get?_push_of_some _ (k1 b o e)
end
section
variable {X : Cx}
def rSortD : List V → Hp → VK → Prop := fun vs H Q => ∃ (d : Addr) (kvs : List (Key × V)) (ss : List Str), vs = [.ref d] ∧ H d = some (.dK kvs) ∧ kvs.map (·.1) = ss.map Sum.inr ∧ ss.length < 64 ∧ ∀ D ss', ss'.Perm ss → sortedS ss' = true → H D = none → Q (.ref D) (upd H D (.lst (ss'.map V.str)))
theorem call_sortD (hc : X.calm = true) : CallR X (.builtin "sorted") rSortD := by
  intro pins s σ H vs us Q I r h
  obtain ⟨d, kvs, ss, rfl, hd, hk, h64, q⟩ := h
  obtain ⟨u, rfl, ru⟩ := vals1 r
  obtain rfl : u = Value.ref d := ru
  obtain ⟨z, hm, ws, rel, dd⟩ := dk_of I.hok hd
  refine sorted_dictS (I.ok.hd hc) dd hm (ss := ss) (by rw [← rel.keys]; exact hk) h64 fun D h' tk n out ss' kk hD hg rv hp hs => ?_
  have hlen : (ss'.map V.str).length ≤ sizeLine := by rw [List.length_map, hp.length_eq]; exact Nat.le_of_lt (small1000 (by omega))
  exact ⟨.ref D, upd H D (.lst (ss'.map V.str)), I.laidN (t' := tk) kk hD ⟨hlen, out, n, rv, hg⟩, rfl, q D ss' hp hs (I.freshN hD)⟩
end
end L2

namespace HT
open PySem PyProof.Rows



section
open PySem.SeqAt
open PySem.AutoSeq1 (wpAny_loadPart')
open PySem.MeetsSeq PySem.MeetsSeq2 PySem.MeetsSeq3

end

section
variable {prog : Program} {w : World} {A : Around} {E : Value → Shared → Prop} {s : Shared}


end
end HT
namespace L2
open PySem PySem.Spec PyProof.Rows
section
variable {X : Cx}
theorem strsAre_of {ss : List Str} : ∀ {us : List Value}, Vals (ss.map V.str) us → StrsAre us ss := by
  induction ss with
  | nil => intro us h; cases h; exact .nil
  | cons x r ih =>
    intro us h
    cases h with
    | cons a b =>
      obtain ⟨t, rfl⟩ := a
      exact .cons _ _ (ih b)
end
end L2

namespace L2
theorem nx_in {D : Ends} {σ : L2.St} {H : Hp} (h : D.nx σ H) : tNext D σ H := h
end L2

namespace KasM
open PySem PySem.W PyProof.Rows
set_option autoImplicit false
/-- a tree of questions answered by lt, all of them below n, ends in Q -/
def Tw {α : Type} (lt : Nat → Nat → Bool) (n : Nat) : KasT α → (α → Prop) → Prop
  | .ret a, Q => Q a
  | .ask i j k, Q => i < n ∧ j < n ∧ Tw lt n (k (lt i j)) Q
theorem Tw_bind {α β : Type} {lt : Nat → Nat → Bool} {n : Nat} {f : α → KasT β} {Q : β → Prop} : ∀ (t : KasT α), Tw lt n t (fun a => Tw lt n (f a) Q) → Tw lt n (t.bind f) Q
  | .ret _, h => h
  | .ask _ _ k, ⟨h1, h2, h3⟩ => ⟨h1, h2, Tw_bind (k _) h3⟩
theorem Tw_mono {α : Type} {lt : Nat → Nat → Bool} {n : Nat} {Q Q' : α → Prop} (hq : ∀ a, Q a → Q' a) : ∀ (t : KasT α), Tw lt n t Q → Tw lt n t Q'
  | .ret a, h => hq a h
  | .ask _ _ k, ⟨h1, h2, h3⟩ => ⟨h1, h2, Tw_mono hq (k _) h3⟩
theorem Tw_wp {α : Type} {lt : Nat → Nat → Bool} {n : Nat} {cmp : Nat → Nat → (Bool → Shared → Prop) → Shared → Prop} {s : Shared} {Q : α → Shared → Prop} (hc : ∀ i j C, i < n → j < n → C (lt i j) s → cmp i j C s) :
    ∀ (t : KasT α), Tw lt n t (fun a => Q a s) → t.kasWp cmp Q s
  | .ret _, h => h
  | .ask _ _ k, ⟨h1, h2, h3⟩ => hc _ _ _ h1 h2 (Tw_wp hc (k _) h3)

section
variable {O : KeyOrd} {key : Nat → O.α} {n : Nat}
def K (key : Nat → O.α) (p : Array Nat) (i : Nat) : O.α := key (p.getD i 0)
def Asc (key : Nat → O.α) (p : Array Nat) (k : Nat) : Prop := ∀ i, i + 1 < k → O.kle (K key p i) (K key p (i + 1))
def Dsc (key : Nat → O.α) (p : Array Nat) (k : Nat) : Prop := ∀ i, i + 1 < k → O.kle (K key p (i + 1)) (K key p i)
def Pm (n : Nat) (p : Array Nat) : Prop := p.Perm (List.range n).toArray
theorem Pm.size {p : Array Nat} (h : Pm n p) : p.size = n := by have := h.size_eq; simpa using this
theorem Pm.lt {p : Array Nat} (h : Pm n p) (hn : 0 < n) (i : Nat) : p.getD i 0 < n := by
  by_cases hi : i < p.size
  · have e : p.getD i 0 = p[i] := by simp [Array.getD, hi]
    rw [e]
    have : p[i] ∈ p := Array.getElem_mem hi
    have h2 := h.mem_iff.mp this
    simpa using h2
  · have e : p.getD i 0 = 0 := by simp [Array.getD, hi]
    rw [e]; exact hn
theorem getD_rev {p : Array Nat} {i j : Nat} (hj : j ≤ p.size) (k : Nat) : (kas_rev p i j).getD k 0 = if i ≤ k ∧ k < j then p.getD (i + j - 1 - k) 0 else p.getD k 0 := by
  unfold kas_rev
  simp only [Array.getD_eq_getD_getElem?]
  rw [getElem?_mirror_all hj]
  split <;> rfl
theorem getD_bub {p : Array Nat} {k l : Nat} (hk : k < p.size) (hl : l ≤ k) (t : Nat) : (bubble p k (k - l)).getD t 0 = if t = l then p.getD k 0 else if l < t ∧ t ≤ k then p.getD (t - 1) 0 else p.getD t 0 := by
  simp only [Array.getD_eq_getD_getElem?]
  rw [getElem?_bubble hk _ (by omega)]
  rw [show k - (k - l) = l by omega]
  split
  · rfl
  · split <;> rfl
theorem Pm.rev {p : Array Nat} (h : Pm n p) (i j : Nat) : Pm n (kas_rev p i j) := (mirror_perm _ _ _ _).trans h
theorem Pm.bub {p : Array Nat} (h : Pm n p) (i j : Nat) : Pm n (bubble p i j) := (bubble_perm _ _ _).trans h
theorem K_rev {p : Array Nat} {i j : Nat} (hj : j ≤ p.size) (k : Nat) : K key (kas_rev p i j) k = if i ≤ k ∧ k < j then K key p (i + j - 1 - k) else K key p k := by
  unfold K; rw [getD_rev hj]; split <;> rfl
theorem K_rev_eq {p : Array Nat} {i j : Nat} (hj : j ≤ p.size) (he : ∀ k, i ≤ k → k < j → K key p k = K key p (j - 1)) (k : Nat) : K key (kas_rev p i j) k = K key p k := by
  rw [K_rev hj]
  split
  · rw [he _ (by omega) (by omega), he k (by omega) (by omega)]
  · rfl
theorem K_bub {p : Array Nat} {k l : Nat} (hk : k < p.size) (hl : l ≤ k) (t : Nat) : K key (bubble p k (k - l)) t = if t = l then K key p k else if l < t ∧ t ≤ k then K key p (t - 1) else K key p t := by
  unfold K; rw [getD_bub hk hl]; split
  · rfl
  · split <;> rfl
theorem Asc.le {p : Array Nat} {k : Nat} (h : Asc key p k) {i : Nat} : ∀ (d : Nat), i + d < k → O.kle (K key p i) (K key p (i + d))
  | 0, _ => KeyOrd.kle_refl _
  | d + 1, hd => KeyOrd.kle_trans (h.le d (by omega)) (h (i + d) (by omega))
theorem Asc.le' {p : Array Nat} {k : Nat} (h : Asc key p k) {i j : Nat} (hij : i ≤ j) (hj : j < k) : O.kle (K key p i) (K key p j) := by
  have := h.le (i := i) (j - i) (by omega)
  rwa [show i + (j - i) = j by omega] at this

abbrev lt (O : KeyOrd) (key : Nat → O.α) (i j : Nat) : Bool := O.blt (key i) (key j)

theorem asc_ok {p : Array Nat} (hp : Pm n p) (h0 : 0 < n) : ∀ (f a : Nat), 1 ≤ a → Tw (lt O key) n (kas_asc p f a) fun m => a ≤ m ∧ m ≤ a + f ∧ (∀ i, a - 1 ≤ i → i + 1 < m → O.kle (K key p i) (K key p (i + 1))) ∧ (m < a + f → O.klt (K key p m) (K key p (m - 1)))
  | 0, a, _ => ⟨Nat.le_refl _, Nat.le_refl _, fun i h1 h2 => by omega, fun h => by omega⟩
  | f + 1, a, ha => by
    refine ⟨hp.lt h0 _, hp.lt h0 _, ?_⟩
    cases hc : lt O key (p.getD a 0) (p.getD (a - 1) 0) with
    | true =>
      simp only [if_true]
      exact ⟨Nat.le_refl _, by omega, fun i h1 h2 => by omega, fun _ => hc⟩
    | false =>
      simp only [Bool.false_eq_true, if_false]
      refine Tw_mono ?_ _ (asc_ok hp h0 f (a + 1) (by omega))
      rintro m ⟨h1, h2, h3, h4⟩
      refine ⟨by omega, by omega, fun i h5 h6 => ?_, fun h => h4 (by omega)⟩
      by_cases e : i = a - 1
      · subst e
        rw [show a - 1 + 1 = a by omega]
        exact hc
      · exact h3 i (by omega) h6

theorem desc_ok (h0 : 0 < n) : ∀ (f : Nat) (p : Array Nat) (a q : Nat), Pm n p → a + f ≤ n → Dsc key p a → q + 1 ≤ a → (∀ k, a - (q + 1) ≤ k → k < a → K key p k = K key p (a - 1)) →
    Tw (lt O key) n (kas_desc f p a q) fun r => Pm n r.1 ∧ a ≤ r.2.1 ∧ r.2.1 ≤ a + f ∧ Dsc key r.1 r.2.1 ∧ r.2.2 + 1 ≤ r.2.1 ∧ (∀ k, r.2.1 - (r.2.2 + 1) ≤ k → k < r.2.1 → K key r.1 k = K key r.1 (r.2.1 - 1))
  | 0, p, a, q, hp, _, hd, hq, he => ⟨hp, Nat.le_refl _, Nat.le_refl _, hd, hq, he⟩
  | f + 1, p, a, q, hp, hf, hd, hq, he => by
    have hz := hp.size
    refine ⟨hp.lt h0 _, hp.lt h0 _, ?_⟩
    cases hc : lt O key (p.getD a 0) (p.getD (a - 1) 0) with
    | true =>
      have hc' : O.klt (K key p a) (K key p (a - 1)) := hc
      have hd' : Dsc key p (a + 1) := fun i hi => by
        by_cases e : i + 1 = a
        · rw [e]; have : i = a - 1 := by omega
          rw [this]; exact KeyOrd.kle_of_klt hc'
        · exact hd i (by omega)
      simp only [if_true]
      by_cases hq0 : q > 0
      · rw [if_pos hq0]
        have kk := K_rev_eq (key := key) (p := p) (i := a - (q + 1)) (j := a) (by omega) he
        refine Tw_mono ?_ _ (desc_ok h0 f _ (a + 1) 0 (hp.rev _ _) (by omega) (fun i hi => by rw [kk, kk]; exact hd' i hi) (by omega) (fun k h1 h2 => by rw [show k = a + 1 - 1 by omega]))
        rintro r ⟨b1, b2, b3, b4, b5, b6⟩
        exact ⟨b1, by omega, by omega, b4, b5, b6⟩
      · rw [if_neg hq0]
        refine Tw_mono ?_ _ (desc_ok h0 f _ (a + 1) 0 hp (by omega) hd' (by omega) (fun k h1 h2 => by rw [show k = a + 1 - 1 by omega]))
        rintro r ⟨b1, b2, b3, b4, b5, b6⟩
        exact ⟨b1, by omega, by omega, b4, b5, b6⟩
    | false =>
      have hc' : O.kle (K key p (a - 1)) (K key p a) := hc
      simp only [Bool.false_eq_true, if_false]
      refine ⟨hp.lt h0 _, hp.lt h0 _, ?_⟩
      cases hc2 : lt O key (p.getD (a - 1) 0) (p.getD a 0) with
      | true =>
        simp only [if_true]
        exact ⟨hp, Nat.le_refl _, Nat.le_add_right _ _, hd, hq, he⟩
      | false =>
        have hc2' : O.kle (K key p a) (K key p (a - 1)) := hc2
        have ee : K key p a = K key p (a - 1) := KeyOrd.kle_antisymm hc2' hc'
        simp only [Bool.false_eq_true, if_false]
        refine Tw_mono ?_ _ (desc_ok h0 f _ (a + 1) (q + 1) hp (by omega) (fun i hi => ?_) (by omega) (fun k h1 h2 => ?_))
        · rintro r ⟨b1, b2, b3, b4, b5, b6⟩
          exact ⟨b1, by omega, by omega, b4, b5, b6⟩
        · by_cases e : i + 1 = a
          · rw [e]; have : i = a - 1 := by omega
            rw [this]; exact hc2'
          · exact hd i (by omega)
        · rw [show a + 1 - 1 = a by omega]
          by_cases e : k = a
          · rw [e]
          · rw [he k (by omega) (by omega), ee]

abbrev Cnt (key : Nat → O.α) (n : Nat) (r : Nat × Array Nat) : Prop := Pm n r.2 ∧ 1 ≤ r.1 ∧ r.1 ≤ n ∧ Asc key r.2 r.1
theorem tail3_ok (h0 : 0 < n) {p : Array Nat} {a : Nat} (hp : Pm n p) (h1 : 1 ≤ a) (ha : a ≤ n) (hd : Dsc key p a) : Tw (lt O key) n (kas_tail3 a n p) (Cnt key n) := by
  unfold kas_tail3
  have hz := hp.size
  have kk := K_rev (key := key) (p := p) (i := 0) (j := a) (by omega)
  refine Tw_bind _ (Tw_mono ?_ _ (asc_ok (O := O) (key := key) (hp.rev 0 a) h0 (n - a) a h1))
  rintro m ⟨b1, b2, b3, _⟩
  refine ⟨hp.rev _ _, by show 1 ≤ m; omega, by show m ≤ n; omega, fun i hi => ?_⟩
  have hi' : i + 1 < m := hi
  by_cases e : a - 1 ≤ i
  · exact b3 i e hi'
  · show O.kle (K key (kas_rev p 0 a) i) (K key (kas_rev p 0 a) (i + 1))
    rw [kk, kk, if_pos (by omega), if_pos (by omega)]
    have := hd (0 + a - 1 - (i + 1)) (by omega)
    rwa [show 0 + a - 1 - (i + 1) + 1 = 0 + a - 1 - i by omega] at this
theorem descPart_ok (h0 : 0 < n) {p : Array Nat} {a : Nat} (hp : Pm n p) (h1 : 1 ≤ a) (ha : a + 1 ≤ n) (hd : Dsc key p (a + 1)) : Tw (lt O key) n (kas_descPart a n p) (Cnt key n) := by
  unfold kas_descPart
  refine Tw_bind _ (Tw_mono ?_ _ (desc_ok (O := O) (key := key) h0 (n - (a + 1)) p (a + 1) 0 hp (by omega) hd (by omega) (fun k h1 h2 => by rw [show k = a + 1 - 1 by omega])))
  rintro ⟨p', m, q⟩ ⟨b1, b2, b3, b4, b5, b6⟩
  dsimp only at b1 b2 b3 b4 b5 b6 ⊢
  have hz := b1.size
  split
  · have kk := K_rev_eq (key := key) (p := p') (i := m - (q + 1)) (j := m) (by omega) b6
    exact tail3_ok h0 (b1.rev _ _) (by omega) (by omega) fun i hi => by rw [kk, kk]; exact b4 i hi
  · exact tail3_ok h0 b1 (by omega) (by omega) b4
theorem count_ok (h0 : 0 < n) {p : Array Nat} (hp : Pm n p) : Tw (lt O key) n (kas_count n p) (Cnt key n) := by
  unfold kas_count
  have hz := hp.size
  refine Tw_bind _ (Tw_mono ?_ _ (asc_ok (O := O) (key := key) hp h0 (n - 1) 1 (Nat.le_refl _)))
  rintro m ⟨b1, b2, b3, b4⟩
  have asc : Asc key p m := fun i hi => b3 i (by omega) hi
  by_cases e1 : (m == n) = true
  · rw [if_pos e1]
    exact ⟨hp, b1, by show m ≤ n; omega, asc⟩
  · rw [if_neg e1]
    have hlt : m < n := by
      have : m ≠ n := fun q => e1 (by rw [q]; exact beq_self_eq_true _)
      omega
    have hk := b4 (by omega)
    by_cases e2 : m > 1
    · rw [if_pos e2]
      refine ⟨hp.lt h0 _, hp.lt h0 _, ?_⟩
      cases hc : lt O key (p.getD 0 0) (p.getD (m - 1) 0) with
      | true =>
        simp only [if_true]
        exact ⟨hp, b1, by show m ≤ n; omega, asc⟩
      | false =>
        have hc' : O.kle (K key p (m - 1)) (K key p 0) := hc
        simp only [Bool.false_eq_true, if_false]
        have he : ∀ k, 0 ≤ k → k < m → K key p k = K key p (m - 1) := fun k _ h2 =>
          KeyOrd.kle_antisymm (asc.le' (by omega) (by omega)) (KeyOrd.kle_trans hc' (asc.le' (by omega) h2))
        have kk := K_rev_eq (key := key) (p := p) (i := 0) (j := m) (by omega) he
        refine descPart_ok h0 (hp.rev _ _) b1 (by omega) fun i hi => ?_
        rw [kk, kk]
        by_cases e : i + 1 = m
        · rw [e, show i = m - 1 by omega]; exact KeyOrd.kle_of_klt hk
        · rw [he i (by omega) (by omega), he (i + 1) (by omega) (by omega)]; exact KeyOrd.kle_refl _
    · rw [if_neg e2]
      refine descPart_ok h0 hp b1 (by omega) fun i hi => ?_
      have : m = 1 := by omega
      subst this
      obtain rfl : i = 0 := by omega
      exact KeyOrd.kle_of_klt hk

theorem place_ok (h0 : 0 < n) {p : Array Nat} {k : Nat} (hp : Pm n p) (ha : Asc key p k) : ∀ (f l r : Nat), r - l ≤ f → l ≤ r → r ≤ k → (∀ i, i < l → O.kle (K key p i) (K key p k)) → (∀ i, r ≤ i → i < k → O.klt (K key p k) (K key p i)) →
    Tw (lt O key) n (kas_place p k f l r) fun m => m ≤ k ∧ (∀ i, i < m → O.kle (K key p i) (K key p k)) ∧ (∀ i, m ≤ i → i < k → O.klt (K key p k) (K key p i))
  | 0, l, r, hf, hl, hr, h1, h2 => ⟨by omega, h1, fun i a b => h2 i (by omega) b⟩
  | f + 1, l, r, hf, hl, hr, h1, h2 => by
    unfold kas_place
    by_cases e : l ≥ r
    · rw [if_pos e]
      exact ⟨by omega, h1, fun i a b => h2 i (by omega) b⟩
    · rw [if_neg e]
      refine ⟨hp.lt h0 _, hp.lt h0 _, ?_⟩
      cases hc : lt O key (p.getD k 0) (p.getD ((l + r) / 2) 0) with
      | true =>
        have hc' : O.klt (K key p k) (K key p ((l + r) / 2)) := hc
        simp only [if_true]
        exact place_ok h0 hp ha f l ((l + r) / 2) (by omega) (by omega) (by omega) h1 fun i a b => KeyOrd.klt_of_klt_of_kle hc' (ha.le' a b)
      | false =>
        have hc' : O.kle (K key p ((l + r) / 2)) (K key p k) := hc
        simp only [Bool.false_eq_true, if_false]
        exact place_ok h0 hp ha f ((l + r) / 2 + 1) r (by omega) (by omega) hr (fun i a => KeyOrd.kle_trans (ha.le' (by omega) (by omega)) hc') h2
theorem bin_ok (h0 : 0 < n) : ∀ (f : Nat) (p : Array Nat) (k : Nat), Pm n p → k + f = n → Asc key p k → Tw (lt O key) n (kas_bin f p k) fun p' => Pm n p' ∧ Asc key p' n
  | 0, p, k, hp, hk, ha => ⟨hp, by have : k = n := by omega
                                   rw [← this]; exact ha⟩
  | f + 1, p, k, hp, hk, ha => by
    have hz := hp.size
    unfold kas_bin
    refine Tw_bind _ (Tw_mono ?_ _ (place_ok (O := O) (key := key) h0 hp ha k 0 k (by omega) (by omega) (Nat.le_refl _) (fun i h => by omega) fun i a b => by omega))
    rintro l ⟨b1, b2, b3⟩
    have kk := K_bub (key := key) (p := p) (k := k) (l := l) (by omega) b1
    refine bin_ok h0 f _ (k + 1) (hp.bub _ _) (by omega) fun i hi => ?_
    rw [kk, kk]
    by_cases e1 : i = l
    · rw [if_pos e1, if_neg (by omega)]
      by_cases e2 : i + 1 ≤ k
      · rw [if_pos (by omega)]
        exact KeyOrd.kle_of_klt (b3 (i + 1 - 1) (by omega) (by omega))
      · omega
    · rw [if_neg e1]
      by_cases e2 : i + 1 = l
      · rw [if_pos e2, if_neg (by omega)]
        exact b2 i (by omega)
      · rw [if_neg e2]
        by_cases e3 : l < i
        · rw [if_pos (by omega), if_pos (by omega)]
          have := ha (i - 1) (by omega)
          rwa [show i - 1 + 1 = i + 1 - 1 by omega] at this
        · rw [if_neg (by omega), if_neg (by omega)]
          exact ha i (by omega)
theorem sort_ok (h0 : 0 < n) : Tw (lt O key) n (kas_sort n) fun p => Pm n p ∧ Asc key p n := by
  unfold kas_sort
  refine Tw_bind _ (Tw_mono ?_ _ (count_ok (O := O) (key := key) h0 (Array.Perm.refl _)))
  rintro ⟨m, p⟩ ⟨b1, b2, b3, b4⟩
  dsimp only at b1 b2 b3 b4 ⊢
  split
  · rw [show max m 1 = m by omega]
    exact bin_ok h0 _ _ _ b1 (by omega) b4
  · exact ⟨b1, by have : m = n := by omega
                  rw [← this]; exact b4⟩
end
end KasM

namespace L2
open PySem PySem.Spec PyProof.Rows
section
variable {prog : Program} {w : World} {A : Around} {E : Value → Shared → Prop} {s : Shared}
/-- list.sort with questions that change nothing -/
theorem list_sort_kas {O : KeyOrd} {key : Nat → O.α} {κ : SortKind} {a : Addr} {vs : List Value} {n : Nat} {P : PySem.Fin → Shared → Prop} (ho : s.heap.get? a = some (seqObj "list" vs.toArray n)) (h64 : vs.length < 64)
    (hkind : 2 ≤ vs.length → ∀ (h' : Heap), (∀ b o, b ≠ a → s.heap.get? b = some o → h'.get? b = some o) → ∀ (Q : SortKind → Shared → Prop), Q κ { s with heap := h' } → wpAny (model prog w) A (keyKind' vs.toArray) Q (fun _ _ => False) { s with heap := h' })
    (hcmp : ∀ (h' : Heap), (∀ b o, b ≠ a → s.heap.get? b = some o → h'.get? b = some o) → ∀ (i j : Nat) (C : Bool → Shared → Prop), i < vs.length → j < vs.length → C (O.blt (key i) (key j)) { s with heap := h' } → PySem.W.kas_ask prog w A κ vs i j C { s with heap := h' })
    (h : ∀ is : List Nat, is.Perm (List.range vs.length) → (∀ i, i + 1 < is.length → O.kle (key (is.getD i 0)) (key (is.getD (i + 1) 0))) → P (.done (.ret .none)) { s with heap := sortedHeap s.heap a vs (is.map fun i => vs.getD i Value.none).toArray }) :
    wpAny (model prog w) A (Builtin.«list.sort» ⟨[.ref a], []⟩) P E s := by
  rw [list_sort_plain]
  have ha : a < s.heap.objs.size := Heap.lt_size ho
  have hsz : vs.toArray.size = vs.length := by simp
  refine wpAny_bind (listItems_at ho rfl ?_)
  refine wpAny_bind (listUpdate_at ho rfl ?_ (by rw [List.size_toArray, sizeLine_eq]; omega) (Nat.zero_le _))
  obtain ⟨e1, ho1⟩ : ∃ e1, (s.heap.update a (Obj.mapSeq fun _ => #[])).get? a = some (seqObj "list" #[] e1) := ⟨_, get?_update_seq ho (fun _ => #[])⟩
  refine wpAny_bind (seqEpoch_at ho1 rfl ?_)
  refine wpAny_bind (wpAny_newTuple ?_ (by show vs.length ≤ _; rw [sizeLine_eq]; omega))
  refine wpAny_bind (wpAny_newList ?_ (Nat.zero_le _))
  refine wpAny_holding ?_
  have ho6 : (((s.heap.update a (Obj.mapSeq fun _ => #[])).push (seqObj "tuple" vs.toArray 0)).push (seqObj "list" #[] 0)).get? a = some (seqObj "list" #[] e1) := by
    rw [Heap.get?_push_ne _ _ _ (by rw [size_push', Heap.size_update]; exact Nat.ne_of_lt (Nat.lt_succ_of_lt ha)), Heap.get?_push_ne _ _ _ (by rw [Heap.size_update]; exact Nat.ne_of_lt ha)]
    exact ho1
  have keep : ∀ b o, b ≠ a → s.heap.get? b = some o → (((s.heap.update a (Obj.mapSeq fun _ => #[])).push (seqObj "tuple" vs.toArray 0)).push (seqObj "list" #[] 0)).get? b = some o := fun b o hb q => by
    refine Heap.get?_push_of_some _ (Heap.get?_push_of_some _ ?_)
    rw [Heap.get?_update_ne _ _ _ _ hb]; exact q
  show wpAny (model prog w) A _ P E { s with heap := ((s.heap.update a (Obj.mapSeq fun _ => #[])).push (seqObj "tuple" vs.toArray 0)).push (seqObj "list" #[] 0) }
  dsimp only
  by_cases h2 : vs.toArray.size < 2
  · rw [if_pos h2, if_pos h2]
    refine wpAny_bind (wpAny_pure ?_)
    rw [StateT.run_pure]
    refine wpAny_bind (wpAny_pure ?_)
    dsimp only
    refine wpAny_bind (seqEpoch_at ho6 rfl ?_)
    refine wpAny_bind (listUpdate_at ho6 rfl ?_ (Nat.zero_le _) (by rw [Array.size_map]; show (pairsOf vs).size ≤ _; rw [pairsOf_size, sizeLine_eq]; omega))
    simp only [bne_self_eq_false, Bool.false_eq_true, if_false]
    have := h (List.range vs.length) (List.Perm.refl _) (fun i hi => by rw [List.length_range] at hi; omega)
    have e : ((List.range vs.length).map fun i => vs.getD i Value.none).toArray = (arrOf (SortSt.mk' general' (vs.toArray.zip vs.toArray) #[] 7 none)).map (·.2) := by
      apply Array.toList_inj.mp
      show (List.range vs.length).map (fun i => vs.getD i Value.none) = ((vs.toArray.zip vs.toArray).map (·.2)).toList
      apply List.ext_getElem?
      intro k
      by_cases hk : k < vs.length
      · simp [hk, List.getD_eq_getElem?_getD]
      · simp [hk]
    rw [e] at this
    exact wpAny_pure this
  · rw [if_neg h2, if_neg h2]
    have h2' : 2 ≤ vs.length := by omega
    refine wpAny_bind (wpAny_mono (hkind h2' _ keep (fun κ' s' => κ' = κ ∧ s' = _) ⟨rfl, rfl⟩) ?_ fun _ _ x => x.elim)
    rintro κ' s' ⟨rfl, rfl⟩
    refine wpAny_bind (wpAny_mono (PySem.W.kat_run (Q := fun st' s' => ∃ p : Array Nat, arrOf st' = p.map (PySem.W.kas_item (vs.toArray.zip vs.toArray)) ∧ failedOf st' = none ∧ KasM.Pm vs.length p ∧ KasM.Asc key p vs.length ∧ s' = { s with heap := ((s.heap.update a (Obj.mapSeq fun _ => #[])).push (seqObj "tuple" vs.toArray 0)).push (seqObj "list" #[] 0) })
      (G := fun p s' => KasM.Pm vs.length p ∧ KasM.Asc key p vs.length ∧ s' = { s with heap := ((s.heap.update a (Obj.mapSeq fun _ => #[])).push (seqObj "tuple" vs.toArray 0)).push (seqObj "list" #[] 0) })
      rfl h2' h64 (fun p' st' s' a1 a2 a3 a4 => ⟨p', a2, a3, a4.1, a4.2.1, a4.2.2⟩)
      (KasM.Tw_wp (lt := KasM.lt O key) (n := vs.length) (hcmp _ keep) _ (KasM.Tw_mono (fun p hp => ⟨hp.1, hp.2, rfl⟩) _ (KasM.sort_ok (O := O) (key := key) (by omega))))) ?_ fun _ _ e => e)
    rintro ⟨⟨⟩, st'⟩ s' ⟨p, har, hf, hp, hasc, rfl⟩
    dsimp only
    have hout := PySem.W.kat_snds (ks := vs) (vs := vs) rfl har
    rw [hout]
    refine wpAny_bind (seqEpoch_at ho6 rfl ?_)
    refine wpAny_bind (listUpdate_at ho6 rfl ?_ (Nat.zero_le _) (by rw [List.size_toArray, List.length_map, Array.length_toList, hp.size, sizeLine_eq]; omega))
    rw [hf]
    simp only [bne_self_eq_false, Bool.false_eq_true, if_false]
    refine wpAny_pure (h p.toList (by have := Array.perm_iff_toList_perm.mp hp; simpa using this) fun i hi => ?_)
    have hz := hp.size
    have := hasc i (by simpa [hz] using hi)
    simpa [KasM.K, Array.getD_eq_getD_getElem?, List.getD_eq_getElem?_getD] using this

theorem sorted_kas {O : KeyOrd} {key : Nat → O.α} {κ : SortKind} {l : Addr} {vs : List Value} {Q : Value → Shared → Prop} (hl : s.heap.IsList l vs.toArray) (h64 : vs.length < 64)
    (hkind : 2 ≤ vs.length → ∀ (h' : Heap), (∀ b o, s.heap.get? b = some o → h'.get? b = some o) → ∀ (Q : SortKind → Shared → Prop), Q κ { s with heap := h' } → wpAny (model prog w) A.in1.in1 (keyKind' vs.toArray) Q (fun _ _ => False) { s with heap := h' })
    (hcmp : ∀ (h' : Heap), (∀ b o, s.heap.get? b = some o → h'.get? b = some o) → ∀ (i j : Nat) (C : Bool → Shared → Prop), i < vs.length → j < vs.length → C (O.blt (key i) (key j)) { s with heap := h' } → PySem.W.kas_ask prog w A.in1.in1 κ vs i j C { s with heap := h' })
    (h : ∀ (D : Addr) (h' : Heap) (n : Nat) (is : List Nat), (∀ b o, s.heap.get? b = some o → h'.get? b = some o) → (∀ b o, s.heap.get? b = some o → b ≠ D) → is.Perm (List.range vs.length) → (∀ i, i + 1 < is.length → O.kle (key (is.getD i 0)) (key (is.getD (i + 1) 0))) →
      h'.get? D = some (seqObj "list" (is.map fun i => vs.getD i Value.none).toArray n) → Q (.ref D) { s with heap := h' }) :
    wpAny (model prog w) A (call (.builtin "sorted") [.ref l]) Q E s := by
  refine Calls.call_function_entry kind_sorted plain_sorted entry_sorted (args_sorted1 _) ?_
  unfold Builtin.«sorted»
  refine wpAny_bind (m := checkCount "sorted" 1 1 _) (wpAny_pure ?_)
  refine wpAny_bind (collect_list hl ?_ (by rw [sizeLine_eq]; omega))
  refine wpAny_bind (wpAny_newList ?_ (by rw [sizeLine_eq]; omega))
  have hsz : ((s.heap.push (seqObj "list" #[] 0)).update s.heap.objs.size (Obj.mapSeq (· ++ vs.toArray))).objs.size = s.heap.objs.size + 1 := by
    rw [Heap.size_update, size_push']
  have hoL : (((s.heap.push (seqObj "list" #[] 0)).update s.heap.objs.size (Obj.mapSeq (· ++ vs.toArray))).push (seqObj "list" vs.toArray 0)).get? (s.heap.objs.size + 1) = some (seqObj "list" vs.toArray 0) := by
    rw [← hsz]; exact Heap.get?_push_size _ rfl
  have keep : ∀ b o, s.heap.get? b = some o → (((s.heap.push (seqObj "list" #[] 0)).update s.heap.objs.size (Obj.mapSeq (· ++ vs.toArray))).push (seqObj "list" vs.toArray 0)).get? b = some o := fun b o q => by
    have hlt : b < s.heap.objs.size := Heap.lt_size q
    rw [Heap.get?_push_ne _ _ _ (by rw [hsz]; exact Nat.ne_of_lt (Nat.lt_succ_of_lt hlt)), Heap.get?_update_ne _ _ _ _ (Nat.ne_of_lt hlt), Heap.get?_push_ne _ _ _ (Nat.ne_of_lt hlt)]
    exact q
  have szne : ∀ b o, s.heap.get? b = some o → b ≠ s.heap.objs.size + 1 := fun b o q => Nat.ne_of_lt (Nat.lt_succ_of_lt (Heap.lt_size q))
  show wpAny _ _ _ _ _ { s with heap := ((s.heap.push (seqObj "list" #[] 0)).update s.heap.objs.size (Obj.mapSeq (· ++ vs.toArray))).push (seqObj "list" vs.toArray 0) }
  rw [hsz]
  refine wpAny_bind (wpAny_holding (wpAny_call_entry slot_list_sort ⟨_, hoL, rfl⟩ entry_list_sort ?body (args_list_sort _)))
  case body =>
    refine list_sort_kas (s := { s with heap := ((s.heap.push (seqObj "list" #[] 0)).update s.heap.objs.size (Obj.mapSeq (· ++ vs.toArray))).push (seqObj "list" vs.toArray 0) }) (key := key) (κ := κ) hoL h64
      (fun h2 h' k => hkind h2 h' fun b o q => k b o (szne b o q) (keep b o q)) (fun h' k => hcmp h' fun b o q => k b o (szne b o q) (keep b o q)) fun is hp hs => ?_
    obtain ⟨n, hg⟩ := sortedHeap_at (vs := vs) (out := (is.map fun i => vs.getD i Value.none).toArray) hoL
    refine ⟨_, rfl, wpAny_pure ⟨_, rfl, h (s.heap.objs.size + 1) _ n is (fun b o q => ?_) szne hp hs hg⟩⟩
    show (sortedHeap (((s.heap.push (seqObj "list" #[] 0)).update s.heap.objs.size (Obj.mapSeq (· ++ vs.toArray))).push (seqObj "list" vs.toArray 0)) (s.heap.objs.size + 1) vs _).get? b = some o
    rw [sortedHeap_old (szne b o q) (Heap.lt_size (keep b o q))]
    exact keep b o q
end
end L2

namespace L2
open PySem PySem.Spec PyProof.Rows
/-- the order of pairs -/
@[reducible] def lexO (O P : KeyOrd) : KeyOrd where
  α := O.α × P.α
  blt x y := O.blt x.1 y.1 || (!O.blt y.1 x.1 && P.blt x.2 y.2)
  irrefl x := by simp [O.irrefl, P.irrefl]
  trans x y z h1 h2 := by
    simp only [Bool.or_eq_true, Bool.and_eq_true, Bool.not_eq_true'] at h1 h2 ⊢
    rcases h1 with h1 | ⟨h1, k1⟩ <;> rcases h2 with h2 | ⟨h2, k2⟩
    · exact .inl (O.trans _ _ _ h1 h2)
    · exact .inl (KeyOrd.klt_of_klt_of_kle h1 h2)
    · exact .inl (KeyOrd.klt_of_kle_of_klt h1 h2)
    · exact .inr ⟨KeyOrd.kle_trans (O := O) h1 h2, P.trans _ _ _ k1 k2⟩
  negTrans x y z h := by
    simp only [Bool.or_eq_true, Bool.and_eq_true, Bool.not_eq_true'] at h ⊢
    rcases h with h | ⟨h, k⟩
    · rcases O.negTrans _ y.1 _ h with h | h
      · exact .inl (.inl h)
      · exact .inr (.inl h)
    · cases e1 : O.blt x.1 y.1 with
      | true => exact .inl (.inl rfl)
      | false =>
        cases e2 : O.blt y.1 z.1 with
        | true => exact .inr (.inl rfl)
        | false =>
          have a1 : O.kle y.1 x.1 := e1
          have a2 : O.kle z.1 y.1 := e2
          have a3 : O.kle x.1 z.1 := h
          have b1 : O.blt y.1 x.1 = false := KeyOrd.kle_trans (O := O) a3 a2
          have b2 : O.blt z.1 y.1 = false := KeyOrd.kle_trans (O := O) a1 a3
          rcases P.negTrans _ y.2 _ k with k | k
          · exact .inl (.inr ⟨b1, k⟩)
          · exact .inr (.inr ⟨b2, k⟩)
  total x y h1 h2 := by
    simp only [Bool.or_eq_false_iff, Bool.and_eq_false_iff, Bool.not_eq_false'] at h1 h2
    have e1 : x.1 = y.1 := O.total _ _ h1.1 h2.1
    have e2 : x.2 = y.2 := P.total _ _ (by rcases h1.2 with z | z; exact absurd (h2.1.symm.trans z) (by simp); exact z) (by rcases h2.2 with z | z; exact absurd (h1.1.symm.trans z) (by simp); exact z)
    exact Prod.ext e1 e2
@[reducible] def strO : KeyOrd where
  α := Str
  blt a b := decide (a.cps.toList < b.cps.toList)
  irrefl a := by simpa using List.lt_irrefl a.cps.toList
  trans a b c h1 h2 := by simp only [decide_eq_true_eq] at *; exact List.lt_trans h1 h2
  negTrans a b c h := by
    simp only [decide_eq_true_eq] at *
    by_cases hab : a.cps.toList < b.cps.toList
    · exact .inl hab
    · exact .inr (List.lt_of_le_of_lt (List.not_lt.mp hab) h)
  total a b h1 h2 := by simp only [decide_eq_false_iff_not] at *; exact ext_toList (List.le_antisymm (List.not_lt.mp h2) (List.not_lt.mp h1))
@[reducible] def intO : KeyOrd where
  α := Int
  blt a b := decide (a < b)
  irrefl a := by simp
  trans a b c h1 h2 := by simp only [decide_eq_true_eq] at *; omega
  negTrans a b c h := by simp only [decide_eq_true_eq] at *; omega
  total a b h1 h2 := by simp only [decide_eq_false_iff_not] at *; omega
/-- a column of sorted rows -/
structure Col where
  O : KeyOrd
  val : O.α → V
  dflt : O.α
  T : Value
  tT : (T == T) = true
  tN : (T != Value.type "tuple") = true
  look : ∀ (M : Model) (h : Heap) (a : O.α) (u : Value), RelV (val a) u → PySem.W.Looks M h (typeOf u) T
  eqB : ∀ (prog : Program) (w : World) (A : Around) (E : Value → Shared → Prop) (s : Shared) (a b : O.α) (u v : Value) (Q : Bool → Shared → Prop), RelV (val a) u → RelV (val b) v → (∀ e : Bool, (e = true ↔ a = b) → Q e s) → wpAny (model prog w) A (eqBool u v) Q E s
  ltB : ∀ (prog : Program) (w : World) (A : Around) (E : Value → Shared → Prop) (s : Shared) (a b : O.α) (u v : Value) (Q : Bool → Shared → Prop), RelV (val a) u → RelV (val b) v → Q (O.blt a b) s → wpAny (model prog w) A (oneLt' true u v) Q E s
  ltC : ∀ (prog : Program) (w : World) (A : Around) (E : Value → Shared → Prop) (s : Shared) (a b : O.α) (u v : Value) (Q : Bool → Shared → Prop), RelV (val a) u → RelV (val b) v → Q (O.blt a b) s → wpAny (model prog w) A (oneLt' false u v) Q E s
@[reducible] def strC : Col where
  O := strO
  val := V.str
  dflt := default
  T := .type "str"
  tT := by decide
  tN := by decide
  look M h a u r := by obtain ⟨t, rfl⟩ := r; exact PySem.W.Looks.of_pure rfl
  eqB prog w A E s a b u v Q r r' h := by
    obtain ⟨t, rfl⟩ := r; obtain ⟨t', rfl⟩ := r'
    exact eqBool_str (h _ (by simp))
  ltB prog w A E s a b u v Q r r' h := by
    obtain ⟨t, rfl⟩ := r; obtain ⟨t', rfl⟩ := r'
    exact oneLt_str h
  ltC prog w A E s a b u v Q r r' h := by
    obtain ⟨t, rfl⟩ := r; obtain ⟨t', rfl⟩ := r'
    exact PySem.W.kat_one _ _ (PySem.P.lt_str h)
@[reducible] def intC : Col where
  O := intO
  val := V.int
  dflt := 0
  T := .type "int"
  tT := by decide
  tN := by decide
  look M h a u r := by obtain ⟨t, rfl⟩ := r; exact PySem.W.Looks.of_pure rfl
  eqB prog w A E s a b u v Q r r' h := by
    obtain ⟨t, rfl⟩ := r; obtain ⟨t', rfl⟩ := r'
    exact wpAny_eqBool_int (h _ (by simp))
  ltB prog w A E s a b u v Q r r' h := by
    obtain ⟨t, rfl⟩ := r; obtain ⟨t', rfl⟩ := r'
    exact oneLt_int h
  ltC prog w A E s a b u v Q r r' h := by
    obtain ⟨t, rfl⟩ := r; obtain ⟨t', rfl⟩ := r'
    exact PySem.W.kat_one _ _ (PySem.P.lt_int h)

theorem lexO_eq {c d : Col} (x y : (lexO c.O d.O).α) (e : x.1 = y.1) : (lexO c.O d.O).blt x y = d.O.blt x.2 y.2 := by
  show (c.O.blt x.1 y.1 || (!c.O.blt y.1 x.1 && d.O.blt x.2 y.2)) = _
  rw [e, c.O.irrefl]; rfl
theorem lexO_ne {c d : Col} (x y : (lexO c.O d.O).α) (e : x.1 ≠ y.1) : (lexO c.O d.O).blt x y = c.O.blt x.1 y.1 := by
  show (c.O.blt x.1 y.1 || (!c.O.blt y.1 x.1 && d.O.blt x.2 y.2)) = _
  cases h1 : c.O.blt x.1 y.1 with
  | true => rfl
  | false =>
    cases h2 : c.O.blt y.1 x.1 with
    | true => rfl
    | false => exact absurd (c.O.total _ _ h1 h2) e
section
variable {prog : Program} {w : World} {A : Around} {E : Value → Shared → Prop} {s : Shared}
theorem cmp_rowP (c d : Col) {x y : Addr} {p q : (lexO c.O d.O).α} {u1 u2 v1 v2 : Value} {Q : Bool → Shared → Prop} (hx : IsTup s.heap x #[u1, u2]) (hy : IsTup s.heap y #[v1, v2]) (r1 : RelV (c.val p.1) u1) (r2 : RelV (d.val p.2) u2) (s1 : RelV (c.val q.1) v1) (s2 : RelV (d.val q.2) v2)
    (h : Q ((lexO c.O d.O).blt p q) s) : wpAny (model prog w) A (keyLt' (tuples' true) (.ref x) (.ref y)) Q E s := by
  obtain ⟨ox, hox, _, n, dx⟩ := hx
  obtain ⟨oy, hoy, _, m, dy⟩ := hy
  refine PySem.W.kat_lt hox dx hoy dy (PySem.W.kat_cons (c.eqB _ _ _ _ _ _ _ _ _ _ r1 s1 fun e he => ?_))
  cases e with
  | false =>
    have hne : p.1 ≠ q.1 := fun z => Bool.false_ne_true (he.mpr z)
    rw [lexO_ne _ _ hne] at h
    exact PySem.W.kat_no (c.ltB _ _ _ _ _ _ _ _ _ _ r1 s1 h)
  | true =>
    rw [lexO_eq _ _ (he.mp rfl)] at h
    refine PySem.W.kat_yes (PySem.W.kat_cons (d.eqB _ _ _ _ _ _ _ _ _ _ r2 s2 fun e he => ?_))
    cases e with
    | false => exact PySem.W.kat_no (d.ltC _ _ _ _ _ _ _ _ _ _ r2 s2 h)
    | true =>
      refine PySem.W.kat_yes (PySem.W.kat_nil ?_)
      rw [he.mp rfl, d.O.irrefl] at h
      exact h
end
theorem pairwise_of_steps {α : Type} {R : α → α → Prop} (tr : ∀ a b c, R a b → R b c → R a c) : ∀ (l : List α), (∀ i a b, l[i]? = some a → l[i + 1]? = some b → R a b) → l.Pairwise R
  | [], _ => .nil
  | [x], _ => by simp
  | x :: y :: r, h => by
    have ih := pairwise_of_steps tr (y :: r) fun i a b h1 h2 => h (i + 1) a b (by simpa using h1) (by simpa using h2)
    have hxy : R x y := h 0 x y rfl rfl
    refine List.pairwise_cons.mpr ⟨fun z hz => ?_, ih⟩
    rcases List.mem_cons.mp hz with e | hz
    · rw [e]; exact hxy
    · exact tr _ _ _ hxy ((List.pairwise_cons.mp ih).1 z hz)
section
variable {X : Cx}
abbrev Row (c d : Col) : Type := V × (lexO c.O d.O).α
def rSortP (X : Cx) (c d : Col) : List V → Hp → VK → Prop := fun vs H Q => ∃ (l : Addr) (zs : List (Row c d)), vs = [.ref l] ∧ SqL X.K H l (zs.map (·.1)) ∧ zs.length < 64 ∧
  (∀ z ∈ zs, ∃ t, z.1 = .ref t ∧ SqT X.K H t [c.val z.2.1, d.val z.2.2]) ∧ ∀ (D : Addr) (zs' : List (Row c d)), zs'.Perm zs → (zs'.map (·.2)).Pairwise (lexO c.O d.O).kle → H D = none → Q (.ref D) (upd H D (.lst (zs'.map (·.1))))

def HR (c d : Col) (h : Heap) (z : Row c d) (v : Value) : Prop := ∃ t u1 u2, z.1 = .ref t ∧ v = .ref t ∧ IsTup h t #[u1, u2] ∧ RelV (c.val z.2.1) u1 ∧ RelV (d.val z.2.2) u2
theorem HR.keeps {c d : Col} {h h' : Heap} {z : Row c d} {v : Value} (k : ∀ b o, h.get? b = some o → h'.get? b = some o) (x : HR c d h z v) : HR c d h' z v := by
  obtain ⟨t, u1, u2, a1, a2, a3, a4⟩ := x
  exact ⟨t, u1, u2, a1, a2, a3.keeps k, a4⟩
theorem hr_tups {c d : Col} {h : Heap} (zs : List (Row c d)) (its : List Value) (hp : Paired (HR c d h) zs its) : ∃ fs, PySem.W.KatTups h its fs ∧ fs.length = zs.length ∧ ∀ v ∈ fs, ∃ a, RelV (c.val a) v := by
  induction hp with
  | nil => exact ⟨[], .nil, rfl, fun _ x => by cases x⟩
  | cons hx r ih =>
    obtain ⟨t, u1, u2, a1, a2, ⟨o, b1, b2, n, b3⟩, a4, a5⟩ := hx
    obtain ⟨fs, k1, k2, k3⟩ := ih
    subst a2
    refine ⟨u1 :: fs, .cons b1 b2 b3 rfl k1, by simp [k2], fun v hv => ?_⟩
    rcases List.mem_cons.mp hv with e | hv
    · exact ⟨_, e ▸ a4⟩
    · exact k3 v hv
theorem paired_at {α β : Type} {R : α → β → Prop} {xs : List α} {ys : List β} (h : Paired R xs ys) : ∀ (i : Nat) (dx : α) (dy : β), i < xs.length → R (xs.getD i dx) (ys.getD i dy) := by
  induction h with
  | nil => intro i dx dy h; simp at h
  | cons a r ih =>
    intro i dx dy h
    cases i with
    | zero => exact a
    | succ i => simpa using ih i dx dy (by simpa using h)
theorem paired_map {α β γ : Type} {R : α → β → Prop} {f : γ → α} {g : γ → β} : ∀ (l : List γ), (∀ x ∈ l, R (f x) (g x)) → Paired R (l.map f) (l.map g)
  | [], _ => .nil
  | x :: l, h => .cons (h x List.mem_cons_self) (paired_map l fun y hy => h y (List.mem_cons_of_mem _ hy))
theorem hr_of {c d : Col} {pins : List (Addr × Obj)} {σ : L2.St} {H : Hp} {s : Shared} (I : Inv X pins σ H s) : ∀ (zs : List (Row c d)) (its : List Value), Vals (zs.map (·.1)) its → (∀ z ∈ zs, ∃ t, z.1 = .ref t ∧ SqT X.K H t [c.val z.2.1, d.val z.2.2]) → Paired (HR c d s.heap) zs its
  | [], its, r, _ => by cases r; exact .nil
  | z :: zs, its, r, h => by
    cases r with
    | cons a b =>
      obtain ⟨t, e, sq⟩ := h z List.mem_cons_self
      obtain ⟨us, r1, it, _⟩ := I.tuple sq
      cases r1 with
      | cons r1 r2 =>
        cases r2 with
        | cons r2 r3 =>
          cases r3
          dsimp only at a
          rw [e] at a
          exact .cons ⟨t, _, _, e, a, it, r1, r2⟩ (hr_of I zs _ b fun y hy => h y (List.mem_cons_of_mem _ hy))
theorem call_sortP (c d : Col) : CallR X (.builtin "sorted") (rSortP X c d) := by
  intro pins s σ H vs us Q I r h
  obtain ⟨l, zs, rfl, hl, h64, hr, q⟩ := h
  obtain ⟨u, rfl, ru⟩ := vals1 r
  obtain rfl : u = Value.ref l := ru
  obtain ⟨its, ri, pl, _⟩ := I.list hl
  have hp := hr_of I zs its ri hr
  have hlen : zs.length = its.length := hp.length
  let dz : Row c d := (V.non, (c.dflt, d.dflt))
  refine sorted_kas (O := lexO c.O d.O) (key := fun i => (zs.getD i dz).2) (κ := tuples' true) (vs := its) (by obtain ⟨o, n, a1, a2, a3, a4⟩ := pl; exact ⟨o, a1, a2, n, a4⟩) (by omega) (fun h2 h' k Q' hq => ?_) (fun h' k i j C hi hj hC => ?_) fun D h' n is kk hD hpm hst hg => ?_
  · have hp' : Paired (HR c d h') zs its := Paired.mapP hp fun _ _ x => x.keeps k
    obtain ⟨fs, k1, k2, k3⟩ := hr_tups _ _ hp'
    refine PySem.W.kat_kind (T := c.T) k1 (by omega) (fun v hv => ?_) c.tT (by rw [c.tN]; exact hq)
    obtain ⟨a, ha⟩ := k3 v hv
    exact c.look _ _ a v ha
  · obtain ⟨t, u1, u2, a1, a2, a3, a4, a5⟩ := (paired_at hp i dz Value.none (by omega)).keeps k
    obtain ⟨t', v1, v2, b1, b2, b3, b4, b5⟩ := (paired_at hp j dz Value.none (by omega)).keeps k
    unfold PySem.W.kas_ask
    rw [a2, b2]
    exact cmp_rowP c d a3 b3 a4 a5 b4 b5 hC
  · have hin : ∀ i ∈ is, i < zs.length := fun i hi => by
      have := hpm.mem_iff.mp hi
      rw [hlen]; simpa using this
    have hrange : (List.range zs.length).map (fun i => zs.getD i dz) = zs := by
      apply List.ext_getElem?
      intro k
      by_cases hk : k < zs.length
      · simp [hk, List.getD_eq_getElem?_getD]
      · simp [hk]
    have hperm : (is.map fun i => zs.getD i dz).Perm zs := by
      have := hpm.map (fun i => zs.getD i dz)
      rwa [← hlen, hrange] at this
    have hv : Vals ((is.map fun i => zs.getD i dz).map (·.1)) (is.map fun i => its.getD i Value.none) := by
      rw [List.map_map]
      refine paired_map is fun i hi => ?_
      obtain ⟨t, u1, u2, a1, a2, _⟩ := paired_at hp i dz Value.none (hin i hi)
      show RelV (zs.getD i dz).1 (its.getD i Value.none)
      rw [a1, a2]; exact rfl
    have hpw : ((is.map fun i => zs.getD i dz).map (·.2)).Pairwise (lexO c.O d.O).kle := by
      refine pairwise_of_steps (fun _ _ _ => KeyOrd.kle_trans) _ fun i a b h1 h2 => ?_
      rw [List.map_map, List.getElem?_map, Option.map_eq_some_iff] at h1 h2
      obtain ⟨x, e1, rfl⟩ := h1
      obtain ⟨y, e2, rfl⟩ := h2
      obtain ⟨hlt, _⟩ := List.getElem?_eq_some_iff.mp e2
      have := hst i hlt
      have g1 : is.getD i 0 = x := by rw [List.getD_eq_getElem?_getD, e1]; rfl
      have g2 : is.getD (i + 1) 0 = y := by rw [List.getD_eq_getElem?_getD, e2]; rfl
      rw [g1, g2] at this
      exact this
    exact ⟨.ref D, upd H D (.lst ((is.map fun i => zs.getD i dz).map (·.1))), I.laidN (t' := s.toks) kk hD ⟨by rw [List.length_map, hperm.length_eq]; exact Nat.le_of_lt (small1000 (by omega)), _, n, hv, hg⟩, rfl, q D _ hperm hpw (I.freshN hD)⟩
end
end L2

namespace L2
open PySem PySem.Spec PyProof.Rows Ord
/-! ### states of tables -/
abbrev goD (p : Str × Int) : Dt := .tup [.str p.1, .int p.2]
abbrev Stt : Type := List (Str × Int) × List Str
abbrev stD (s : Stt) : Dt := .tup [.lst (s.1.map goD), .lst (s.2.map Dt.str)]
def Goes (K : PySem.W.Frag) (H : Hp) (a : Addr) (gs : List (Str × Int)) : Prop := ∃ vs, SqL K H a vs ∧ IsDts K H vs (gs.map goD)
def Stts (K : PySem.W.Frag) (H : Hp) (a : Addr) (ss : List Stt) : Prop := ∃ vs, SqL K H a vs ∧ IsDts K H vs (ss.map stD)
theorem Goes.same {K : PySem.W.Frag} {H H' : Hp} {a : Addr} {gs : List (Str × Int)} (e : Same H H') (h : Goes K H a gs) : Goes K H' a gs := by
  obtain ⟨vs, h1, h2⟩ := h
  exact ⟨vs, e.seq h1, h2.same e⟩
theorem Stts.same {K : PySem.W.Frag} {H H' : Hp} {a : Addr} {ss : List Stt} (e : Same H H') (h : Stts K H a ss) : Stts K H' a ss := by
  obtain ⟨vs, h1, h2⟩ := h
  exact ⟨vs, e.seq h1, h2.same e⟩
theorem strs_dts {K : PySem.W.Frag} {H : Hp} : ∀ {vs : List V} {xs : List Str}, IsDts K H vs (xs.map Dt.str) → vs = xs.map V.str
  | _, [], .nil => rfl
  | _, _ :: _, .cons h t => by cases h; rw [strs_dts t]; rfl
theorem go_at {K : PySem.W.Frag} {H : Hp} {v : V} {p : Str × Int} (h : IsDt K H v (goD p)) : ∃ t, v = .ref t ∧ SqT K H t [.str p.1, .int p.2] := by
  cases h with
  | tup h t =>
    cases t with
    | cons h1 t =>
      cases t with
      | cons h2 t =>
        cases t
        cases h1; cases h2
        exact ⟨_, rfl, h⟩
theorem IsDts.goes_get {K : PySem.W.Frag} {H : Hp} {vs : List V} {gs : List (Str × Int)} (h : IsDts K H vs (gs.map goD)) {i : Nat} {v : V} (hv : vs[i]? = some v) : ∃ p t, gs[i]? = some p ∧ v = .ref t ∧ SqT K H t [.str p.1, .int p.2] := by
  obtain ⟨d, hd, hi⟩ := h.get hv
  rw [List.getElem?_map] at hd
  cases e : gs[i]? with
  | none => rw [e] at hd; cases hd
  | some p =>
    rw [e] at hd
    cases hd
    obtain ⟨t, h1, h2⟩ := go_at hi
    exact ⟨p, t, rfl, h1, h2⟩
theorem st_at {K : PySem.W.Frag} {H : Hp} {v : V} {s : Stt} (h : IsDt K H v (stD s)) : ∃ t g e, v = .ref t ∧ SqT K H t [.ref g, .ref e] ∧ Goes K H g s.1 ∧ SqL K H e (s.2.map V.str) := by
  cases h with
  | tup h t =>
    cases t with
    | cons h1 t =>
      cases t with
      | cons h2 t =>
        cases t
        cases h1 with
        | lst a1 b1 =>
          cases h2 with
          | lst a2 b2 =>
            rw [strs_dts b2] at a2
            exact ⟨_, _, _, rfl, h, ⟨_, a1, b1⟩, a2⟩
theorem IsDts.sts_get {K : PySem.W.Frag} {H : Hp} {vs : List V} {ss : List Stt} (h : IsDts K H vs (ss.map stD)) {i : Nat} {v : V} (hv : vs[i]? = some v) :
    ∃ s t g e, ss[i]? = some s ∧ v = .ref t ∧ SqT K H t [.ref g, .ref e] ∧ Goes K H g s.1 ∧ SqL K H e (s.2.map V.str) := by
  obtain ⟨d, hd, hi⟩ := h.get hv
  rw [List.getElem?_map] at hd
  cases e : ss[i]? with
  | none => rw [e] at hd; cases hd
  | some p =>
    rw [e] at hd
    cases hd
    obtain ⟨t, g, e, h1, h2, h3, h4⟩ := st_at hi
    exact ⟨p, t, g, e, rfl, h1, h2, h3, h4⟩
theorem IsDts.len_map {K : PySem.W.Frag} {H : Hp} {α : Type} {f : α → Dt} {vs : List V} {xs : List α} (h : IsDts K H vs (xs.map f)) : vs.length = xs.length := by
  have := h.length
  rwa [List.length_map] at this
/-- states whose ends are lists of this heap -/
def StE (K : PySem.W.Frag) (H : Hp) (a : Addr) (ss : List Stt) : Prop := ∃ vs, SqL K H a vs ∧ vs.length = ss.length ∧ ∀ (i : Nat) (v : V) (s : Stt), vs[i]? = some v → ss[i]? = some s → ∃ t g e, v = .ref t ∧ SqT K H t [.ref g, .ref e] ∧ Goes K H g s.1 ∧ H e = some (.lst (s.2.map V.str))
/-- the sizes that a table may have -/
structure Fits (ss : List Stt) : Prop where
  n : ss.length ≤ 8
  gs : ∀ s ∈ ss, s.1.length ≤ 8
  es : ∀ s ∈ ss, s.2.length ≤ 8
def labelsOf (ss : List Stt) : List Str := ss.flatMap fun s => s.1.map (·.1) ++ s.2
def labelsP (ps : List (Str × Str)) : List Str := ps.flatMap fun p => [p.1, p.2]
theorem labelsOf_snoc (ss : List Stt) (s : Stt) : labelsOf (ss ++ [s]) = (labelsOf ss ++ s.1.map (·.1)) ++ s.2 := by
  unfold labelsOf; rw [List.flatMap_append]; simp
theorem labelsP_snoc (ps : List (Str × Str)) (p : Str × Str) : labelsP (ps ++ [p]) = (labelsP ps ++ [p.1]) ++ [p.2] := by
  unfold labelsP; rw [List.flatMap_append]; simp
theorem labelsOf_len : ∀ (ss : List Stt), (∀ s ∈ ss, s.1.length ≤ 8) → (∀ s ∈ ss, s.2.length ≤ 8) → (labelsOf ss).length ≤ 16 * ss.length
  | [], _, _ => Nat.le_refl _
  | s :: r, h1, h2 => by
    have ih := labelsOf_len r (fun x hx => h1 x (List.mem_cons_of_mem _ hx)) (fun x hx => h2 x (List.mem_cons_of_mem _ hx))
    have a1 := h1 s List.mem_cons_self
    have a2 := h2 s List.mem_cons_self
    unfold labelsOf at ih ⊢
    rw [List.flatMap_cons, List.length_append, List.length_append, List.length_map, List.length_cons]
    omega
theorem labelsP_len : ∀ (ps : List (Str × Str)), (labelsP ps).length = 2 * ps.length
  | [] => rfl
  | p :: r => by
    have ih := labelsP_len r
    unfold labelsP at ih ⊢
    rw [List.flatMap_cons, List.length_append, ih, List.length_cons]
    simp; omega

theorem kind_strs2 {its : List Value} {ss : List Str} (hS : StrsAre its ss) (h2 : 2 ≤ its.length) : keyKind' its.toArray = pure oneType' := by
  match its, hS, h2 with
  | [], _, h2 => simp at h2
  | [_], _, h2 => simp at h2
  | v₁ :: v₂ :: rest, hS, _ => exact keyKind_strs hS
section
variable {X : Cx}
def rSortS (X : Cx) : List V → Hp → VK → Prop := fun vs H Q => ∃ (l : Addr) (ss : List Str), vs = [.ref l] ∧ SqL X.K H l (ss.map V.str) ∧ ss.length < 64 ∧ ∀ (D : Addr) (ss' : List Str), ss'.Perm ss → ss'.Pairwise strO.kle → H D = none → Q (.ref D) (upd H D (.lst (ss'.map V.str)))
theorem call_sortS : CallR X (.builtin "sorted") (rSortS X) := by
  intro pins s σ H vs us Q I r h
  obtain ⟨l, ss, rfl, hl, h64, q⟩ := h
  obtain ⟨u, rfl, ru⟩ := vals1 r
  obtain rfl : u = Value.ref l := ru
  obtain ⟨its, ri, pl, _⟩ := I.list hl
  have hS := strsAre_of ri
  have hlen : ss.length = its.length := by have := ri.length; rwa [List.length_map] at this
  have hat : ∀ i, i < ss.length → ∃ t, its.getD i Value.none = .str (ss.getD i default) t := fun i hi => by
    have := paired_at ri i V.non Value.none (by rw [List.length_map]; exact hi)
    have e : (ss.map V.str).getD i V.non = V.str (ss.getD i default) := by
      rw [List.getD_eq_getElem?_getD, List.getElem?_map, List.getD_eq_getElem?_getD, List.getElem?_eq_getElem hi]; rfl
    rw [e] at this
    exact this
  refine sorted_kas (O := strO) (key := fun i => ss.getD i default) (κ := oneType') (vs := its) pl.isList (by omega) (fun h2 h' k Q' hq => ?_) (fun h' k i j C hi hj hC => ?_) fun D h' n is kk hD hpm hst hg => ?_
  · rw [kind_strs2 hS h2]
    exact wpAny_pure hq
  · obtain ⟨t, e1⟩ := hat i (by omega)
    obtain ⟨t', e2⟩ := hat j (by omega)
    unfold PySem.W.kas_ask
    rw [e1, e2, keyLt'_oneType]
    exact oneLt_str hC
  · have hin : ∀ i ∈ is, i < ss.length := fun i hi => by
      have := hpm.mem_iff.mp hi
      rw [hlen]; simpa using this
    have hrange : (List.range ss.length).map (fun i => ss.getD i default) = ss := by
      apply List.ext_getElem?
      intro k
      by_cases hk : k < ss.length
      · simp [hk, List.getD_eq_getElem?_getD]
      · simp [hk]
    have hperm : (is.map fun i => ss.getD i default).Perm ss := by
      have := hpm.map (fun i => ss.getD i default)
      rwa [← hlen, hrange] at this
    have hv : Vals ((is.map fun i => ss.getD i default).map V.str) (is.map fun i => its.getD i Value.none) := by
      rw [List.map_map]
      exact paired_map is fun i hi => hat i (hin i hi)
    have hpw : (is.map fun i => ss.getD i default).Pairwise strO.kle := by
      refine pairwise_of_steps (R := strO.kle) (fun _ _ _ h k => KeyOrd.kle_trans (O := strO) h k) _ fun i a b h1 h2 => ?_
      rw [List.getElem?_map, Option.map_eq_some_iff] at h1 h2
      obtain ⟨x, e1, rfl⟩ := h1
      obtain ⟨y, e2, rfl⟩ := h2
      obtain ⟨hlt, _⟩ := List.getElem?_eq_some_iff.mp e2
      have := hst i hlt
      have g1 : is.getD i 0 = x := by rw [List.getD_eq_getElem?_getD, e1]; rfl
      have g2 : is.getD (i + 1) 0 = y := by rw [List.getD_eq_getElem?_getD, e2]; rfl
      rw [g1, g2] at this
      exact this
    exact ⟨.ref D, upd H D (.lst ((is.map fun i => ss.getD i default).map V.str)), I.laidN (t' := s.toks) kk hD ⟨by rw [List.length_map, hperm.length_eq]; exact Nat.le_of_lt (small1000 (by omega)), _, n, hv, hg⟩, rfl, q D _ hperm hpw (I.freshN hD)⟩
end

abbrev RowGo (K : PySem.W.Frag) (H : Hp) (z : Row strC intC) : Prop := ∃ t, z.1 = .ref t ∧ SqT K H t [V.str z.2.1, V.int z.2.2]
theorem zip_rows {K : PySem.W.Frag} {H : Hp} : ∀ {ts : List Addr} {gs : List (Str × Int)}, ts.length = gs.length → (∀ (n : Nat) (a : Addr) (p : Str × Int), ts[n]? = some a → gs[n]? = some p → H a = some (.tup [.str p.1, .int p.2])) →
    ∃ zs : List (Row strC intC), zs.map (·.1) = ts.map V.ref ∧ zs.map (·.2) = gs ∧ ∀ z ∈ zs, RowGo K H z
  | [], [], _, _ => ⟨[], rfl, rfl, fun z hz => by cases hz⟩
  | [], _ :: _, h, _ => by simp at h
  | _ :: _, [], h, _ => by simp at h
  | a :: ts, p :: gs, h, k => by
    obtain ⟨zs, h1, h2, h3⟩ := zip_rows (K := K) (H := H) (ts := ts) (gs := gs) (by simpa using h) fun n a p h1 h2 => k (n + 1) a p (by simpa using h1) (by simpa using h2)
    refine ⟨(V.ref a, p) :: zs, by rw [List.map_cons, h1]; rfl, by rw [List.map_cons, h2], fun z hz => ?_⟩
    rcases List.mem_cons.mp hz with e | hz
    · rw [e]; exact ⟨a, rfl, SqT.of (k 0 a p rfl rfl)⟩
    · exact h3 z hz
theorem rows_dts {K : PySem.W.Frag} {H : Hp} : ∀ (zs : List (Row strC intC)), (∀ z ∈ zs, RowGo K H z) → IsDts K H (zs.map (·.1)) ((zs.map (·.2)).map goD)
  | [], _ => .nil
  | z :: zs, h => by
    obtain ⟨t, e, sq⟩ := h z List.mem_cons_self
    refine .cons ?_ (rows_dts zs fun y hy => h y (List.mem_cons_of_mem _ hy))
    show IsDt K H z.1 (goD z.2)
    rw [e]
    exact .tup sq (.cons (.str _) (.cons (.int _) .nil))
/-- a state as a table has it -/
structure SrtOf (s r : Stt) : Prop where
  pg : r.1.Perm s.1
  pe : r.2.Perm s.2
  og : r.1.Pairwise (lexO strO intO).kle
  oe : r.2.Pairwise strO.kle

theorem SqL.updN {K : PySem.W.Frag} {H : Hp} {a D : Addr} {o : HO} {xs : List V} (hn : a ≠ D) (h : SqL K H a xs) : SqL K (upd H D o) a xs := by
  rcases h with (h | ⟨u, h⟩) | h
  · exact .inl (.inl (by rw [upd_ne hn]; exact h))
  · exact .inl (.inr ⟨u, by rw [upd_ne hn]; exact h⟩)
  · exact .inr h
theorem SqT.updL {K : PySem.W.Frag} {H : Hp} {a D : Addr} {o : HO} {xs ys : List V} (hD : H D = some (.lst ys)) (h : SqT K H a xs) : SqT K (upd H D o) a xs := by
  rcases h with (h | ⟨u, h⟩) | h
  · exact .inl (.inl (by rw [upd_ne fun z => by rw [z, hD] at h; cases h]; exact h))
  · exact .inl (.inr ⟨u, by rw [upd_ne fun z => by rw [z, hD] at h; cases h]; exact h⟩)
  · exact .inr h
theorem gos_updL {K : PySem.W.Frag} {H : Hp} {D : Addr} {o : HO} {ys : List V} (hD : H D = some (.lst ys)) : ∀ {vs : List V} {gs : List (Str × Int)}, IsDts K H vs (gs.map goD) → IsDts K (upd H D o) vs (gs.map goD)
  | _, [], .nil => .nil
  | _, p :: gs, .cons h t => by
    obtain ⟨a, e, sq⟩ := go_at h
    subst e
    exact .cons (.tup (sq.updL hD) (.cons (.str _) (.cons (.int _) .nil))) (gos_updL hD t)
theorem Goes.updL {K : PySem.W.Frag} {H : Hp} {a D : Addr} {o : HO} {ys : List V} {gs : List (Str × Int)} (hD : H D = some (.lst ys)) (hn : a ≠ D) (h : Goes K H a gs) : Goes K (upd H D o) a gs := by
  obtain ⟨vs, h1, h2⟩ := h
  exact ⟨vs, h1.updN hn, gos_updL hD h2⟩
/-- rows of states, none of which holds the list D itself, all of whose lists are F -/
structure StRows (K : PySem.W.Frag) (F : Addr → Prop) (H : Hp) (D : Addr) (us : List Addr) (rs : List Stt) : Prop where
  len : us.length = rs.length
  at_ : ∀ (i : Nat) (u : Addr) (r : Stt), us[i]? = some u → rs[i]? = some r → ∃ G E xs, H u = some (.tup [.ref G, .ref E]) ∧ Goes K H G r.1 ∧ H G = some (.lst xs) ∧ H E = some (.lst (r.2.map V.str)) ∧ G ≠ D ∧ E ≠ D ∧ F G ∧ F E
theorem StRows.nil {K : PySem.W.Frag} {F : Addr → Prop} {H : Hp} {D : Addr} : StRows K F H D [] [] := ⟨rfl, fun i u r h => by simp at h⟩
theorem StRows.same {K : PySem.W.Frag} {F : Addr → Prop} {H H' : Hp} {D : Addr} {us : List Addr} {rs : List Stt} (e : Same H H') (h : StRows K F H D us rs) : StRows K F H' D us rs := by
  refine ⟨h.len, fun i u r h1 h2 => ?_⟩
  obtain ⟨G, E, xs, a1, a2, a3, a4, a5, a6, a7⟩ := h.at_ i u r h1 h2
  exact ⟨G, E, xs, e _ _ a1, a2.same e, e _ _ a3, e _ _ a4, a5, a6, a7⟩
theorem StRows.updL {K : PySem.W.Frag} {F : Addr → Prop} {H : Hp} {D : Addr} {o : HO} {ys : List V} {us : List Addr} {rs : List Stt} (hD : H D = some (.lst ys)) (h : StRows K F H D us rs) : StRows K F (upd H D o) D us rs := by
  refine ⟨h.len, fun i u r h1 h2 => ?_⟩
  obtain ⟨G, E, xs, a1, a2, a3, a4, a5, a6, a7⟩ := h.at_ i u r h1 h2
  exact ⟨G, E, xs, by rw [upd_ne fun z => by rw [z, hD] at a1; cases a1]; exact a1, a2.updL hD a5, by rw [upd_ne a5]; exact a3, by rw [upd_ne a6]; exact a4, a5, a6, a7⟩
theorem StRows.snoc {K : PySem.W.Frag} {F : Addr → Prop} {H : Hp} {D u G E : Addr} {xs : List V} {us : List Addr} {rs : List Stt} {r : Stt} (h : StRows K F H D us rs) (a1 : H u = some (.tup [.ref G, .ref E])) (a2 : Goes K H G r.1) (a3 : H G = some (.lst xs)) (a4 : H E = some (.lst (r.2.map V.str))) (a5 : G ≠ D) (a6 : E ≠ D) (a7 : F G) (a8 : F E) : StRows K F H D (us ++ [u]) (rs ++ [r]) := by
  refine ⟨by rw [List.length_append, List.length_append, h.len]; rfl, fun i v q h1 h2 => ?_⟩
  rcases Nat.lt_or_ge i us.length with hlt | hge
  · rw [List.getElem?_append_left hlt] at h1
    rw [List.getElem?_append_left (by rw [← h.len]; exact hlt)] at h2
    exact h.at_ i v q h1 h2
  · have hn1 : i < (us ++ [u]).length := (List.getElem?_eq_some_iff.mp h1).1
    rw [List.length_append, List.length_singleton] at hn1
    have e : i = us.length := by omega
    subst e
    rw [List.getElem?_append_right (Nat.le_refl _), Nat.sub_self] at h1
    rw [List.getElem?_append_right (by rw [h.len]; exact Nat.le_refl _), h.len, Nat.sub_self] at h2
    cases h1; cases h2
    exact ⟨G, E, xs, a1, a2, a3, a4, a5, a6, a7, a8⟩
theorem three_le : ([] : List V).length + 1 + 1 + 1 ≤ sizeLine := by decide

theorem StRows.dts {K : PySem.W.Frag} {F : Addr → Prop} {H : Hp} {D : Addr} : ∀ {us : List Addr} {rs : List Stt}, StRows K F H D us rs → IsDts K H (us.map V.ref) (rs.map stD)
  | [], [], _ => .nil
  | [], _ :: _, h => by have := h.len; simp at this
  | _ :: _, [], h => by have := h.len; simp at this
  | u :: us, r :: rs, h => by
    obtain ⟨G, E, xs, a1, ⟨gv, a2, a2'⟩, a3, a4, _⟩ := h.at_ 0 u r rfl rfl
    refine .cons (.tup (SqT.of a1) (.cons (.lst a2 a2') (.cons (.lst (SqL.of a4) (IsDts.strs _)) .nil))) ?_
    exact StRows.dts (D := D) ⟨by simpa using h.len, fun i v q h1 h2 => h.at_ (i + 1) v q (by simpa using h1) (by simpa using h2)⟩
theorem StRows.stts {K : PySem.W.Frag} {F : Addr → Prop} {H : Hp} {a : Addr} {us : List Addr} {rs : List Stt} (e : H a = some (.lst (us.map V.ref))) (h : StRows K F H a us rs) : Stts K H a rs := ⟨_, SqL.of e, h.dts⟩

theorem goes_rows {K : PySem.W.Frag} {H : Hp} : ∀ {vs : List V} {gs : List (Str × Int)}, IsDts K H vs (gs.map goD) → ∃ zs : List (Row strC intC), zs.map (·.1) = vs ∧ zs.map (·.2) = gs ∧ ∀ z ∈ zs, RowGo K H z
  | _, [], .nil => ⟨[], rfl, rfl, fun z hz => by cases hz⟩
  | v :: _, p :: gs, .cons h t => by
    obtain ⟨zs, h1, h2, h3⟩ := goes_rows t
    obtain ⟨a, e, sq⟩ := go_at h
    refine ⟨(v, p) :: zs, by rw [List.map_cons, h1], by rw [List.map_cons, h2], fun z hz => ?_⟩
    rcases List.mem_cons.mp hz with e' | hz
    · rw [e']; exact ⟨a, e, sq⟩
    · exact h3 z hz
theorem srt_uniq {O : KeyOrd} {l m : List O.α} (h : l.Perm m) (h1 : l.Pairwise O.kle) (h2 : m.Pairwise O.kle) : l = m :=
  h.eq_of_pairwise (fun a b _ _ x y => KeyOrd.kle_antisymm x y) h1 h2

/-- goes as tuples of this heap -/
structure GT (H : Hp) (ts : List Addr) (gs : List (Str × Int)) : Prop where
  len : ts.length = gs.length
  at_ : ∀ (n : Nat) (t : Addr) (p : Str × Int), ts[n]? = some t → gs[n]? = some p → H t = some (.tup [.str p.1, .int p.2])
theorem GT.nil {H : Hp} : GT H [] [] := ⟨rfl, fun n t p h => by simp at h⟩
theorem GT.same {H H' : Hp} {ts : List Addr} {gs : List (Str × Int)} (e : Same H H') (h : GT H ts gs) : GT H' ts gs := ⟨h.len, fun n t p h1 h2 => e _ _ (h.at_ n t p h1 h2)⟩
theorem GT.updL {H : Hp} {a : Addr} {o : HO} {xs : List V} {ts : List Addr} {gs : List (Str × Int)} (hD : H a = some (.lst xs)) (h : GT H ts gs) : GT (upd H a o) ts gs := ⟨h.len, fun n t p h1 h2 => by
  have := h.at_ n t p h1 h2
  rw [upd_ne fun z => by rw [z, hD] at this; cases this]
  exact this⟩
theorem GT.snoc {H : Hp} {t : Addr} {ts : List Addr} {gs : List (Str × Int)} {p : Str × Int} (h : GT H ts gs) (e : H t = some (.tup [.str p.1, .int p.2])) : GT H (ts ++ [t]) (gs ++ [p]) := by
  refine ⟨by rw [List.length_append, List.length_append, h.len]; rfl, fun n v q h1 h2 => ?_⟩
  rcases Nat.lt_or_ge n ts.length with hlt | hge
  · rw [List.getElem?_append_left hlt] at h1
    rw [List.getElem?_append_left (by rw [← h.len]; exact hlt)] at h2
    exact h.at_ n v q h1 h2
  · have hn1 : n < (ts ++ [t]).length := (List.getElem?_eq_some_iff.mp h1).1
    rw [List.length_append, List.length_singleton] at hn1
    have e' : n = ts.length := by omega
    subst e'
    rw [List.getElem?_append_right (Nat.le_refl _), Nat.sub_self] at h1
    rw [List.getElem?_append_right (by rw [h.len]; exact Nat.le_refl _), h.len, Nat.sub_self] at h2
    cases h1; cases h2
    exact e
theorem GT.dts {K : PySem.W.Frag} {H : Hp} {ts : List Addr} {gs : List (Str × Int)} (h : GT H ts gs) : IsDts K H (ts.map V.ref) (gs.map goD) := by
  obtain ⟨zs, z1, z2, z3⟩ := zip_rows (K := K) h.len h.at_
  rw [← z1, ← z2]
  exact rows_dts zs z3

/-- over a range, no test, by an invariant of the items so far -/
theorem comp_rangeI {k : Nat} {caps : List Nat} {g : TG} {te : TE} {σ : St} {H1 : Hp} {Q : Addr → Hp → Prop} {lo : Int} {n : Nat} (Pv : Addr → Nat → List V → Hp → Prop)
    (h0 : ∀ D, H1 D = none → Pv D 0 [] (upd H1 D (.lst [])))
    (hs : ∀ (D : Addr) (i : Nat) (ys : List V) (H2 : Hp) (R : VK), H1 D = none → i < n → Pv D i ys H2 → (∀ y H6, H6 D = some (.lst ys) → ys.length < sizeLine → Pv D (i + 1) (ys ++ [y]) (upd H6 D (.lst (ys ++ [y]))) → R y H6) → g (.int (lo + i)) (compSt k caps σ) H2 fun σ4 H4 => te σ4 H4 R)
    (hd : ∀ D ys H2, H1 D = none → Pv D n ys H2 → Q D H2) :
    ∀ D, H1 D = none → ∃ W : Nat → Nat → List V → Hp → Prop, (∃ m, W 0 m [] (upd H1 D (.lst []))) ∧ ∀ i m ys H2, W i m ys H2 →
      ((Itr lo n).stop i H2 ∧ Q D H2) ∨ ((Itr lo n).go i H2 ∧ ∀ x H3, (Itr lo n).yld i H2 x H3 → g x (compSt k caps σ) H3 fun σ4 H4 => tYes σ4 H4 fun b H5 =>
        if b = true then te σ4 H5 fun y H6 => H6 D = some (.lst ys) ∧ ys.length < sizeLine ∧ ∃ m', m' < m ∧ W (i + 1) m' (ys ++ [y]) (upd H6 D (.lst (ys ++ [y]))) else ∃ m', m' < m ∧ W (i + 1) m' ys H5) := by
  intro D hD
  refine ⟨fun i m ys H2 => m = n - i ∧ i ≤ n ∧ Pv D i ys H2, ⟨n, rfl, Nat.zero_le _, h0 D hD⟩, ?_⟩
  rintro i m ys H2 ⟨rfl, hi, p⟩
  by_cases hlt : i < n
  · refine .inr ⟨hlt, fun x H3 y => ?_⟩
    obtain ⟨rfl, rfl⟩ := y
    refine hs D i ys H3 _ hD hlt p fun v H6 e6 hz p6 => ?_
    exact ⟨e6, hz, n - (i + 1), by omega, rfl, hlt, p6⟩
  · have e : i = n := by omega
    subst e
    exact .inl ⟨Nat.le_refl _, hd D ys H2 hD p⟩
theorem pair_kle {p q : Str × Str} (h : (lexO strO strO).kle p q) (hn : p ≠ q) : ltS p.1 q.1 ∨ (p.1 = q.1 ∧ ltS p.2 q.2) := by
  have h' : (lexO strO strO).blt q p = false := h
  cases e : (lexO strO strO).blt p q with
  | false => exact absurd ((lexO strO strO).total _ _ e h') hn
  | true =>
    by_cases e1 : p.1 = q.1
    · rw [lexO_eq (c := strC) (d := strC) p q e1] at e
      exact .inr ⟨e1, show p.2.cps.toList < q.2.cps.toList from of_decide_eq_true e⟩
    · rw [lexO_ne (c := strC) (d := strC) p q e1] at e
      exact .inl (show p.1.cps.toList < q.1.cps.toList from of_decide_eq_true e)
end L2

namespace L2
open PySem PySem.Spec PyProof.Rows Ord
/-! ### what stays where only some lists are changed -/
section
variable {K : PySem.W.Frag} {M : Addr → Prop} {H H' : Hp}
end
theorem StRows.stE {K : PySem.W.Frag} {F : Addr → Prop} {H : Hp} {a : Addr} {us : List Addr} {rs : List Stt} (e : H a = some (.lst (us.map V.ref))) (h : StRows K F H a us rs) : StE K H a rs := by
  refine ⟨_, SqL.of e, by rw [List.length_map, h.len], fun i v s hv hs => ?_⟩
  rw [List.getElem?_map] at hv
  obtain ⟨u, hu, rfl⟩ := Option.map_eq_some_iff.mp hv
  obtain ⟨G, E, xs, a1, a2, a3, a4, _⟩ := h.at_ i u s hu hs
  exact ⟨u, G, E, rfl, SqT.of a1, a2, a4⟩
theorem StRows.mono {K : PySem.W.Frag} {F F' : Addr → Prop} {H : Hp} {D : Addr} {us : List Addr} {rs : List Stt} (hF : ∀ x, F x → F' x) (h : StRows K F H D us rs) : StRows K F' H D us rs := by
  refine ⟨h.len, fun i u r h1 h2 => ?_⟩
  obtain ⟨G, E, xs, a1, a2, a3, a4, a5, a6, a7, a8⟩ := h.at_ i u r h1 h2
  exact ⟨G, E, xs, a1, a2, a3, a4, a5, a6, hF _ a7, hF _ a8⟩
/-- over a list that stays, with a test, by an invariant of the items so far -/
theorem comp_listT {K : PySem.W.Frag} {a : Addr} {xs : List V} {k : Nat} {caps : List Nat} {g : TG} {tc : TT} {te : TE} {σ : St} {H1 : Hp} {Q : Addr → Hp → Prop} (Pv : Addr → Nat → List V → Hp → Prop)
    (h0 : ∀ D, H1 D = none → Pv D 0 [] (upd H1 D (.lst []))) (hq : ∀ D i ys H2, Pv D i ys H2 → SqL K H2 a xs)
    (hs : ∀ D i x ys H2 (R : VK) (R0 : Hp → Prop), H1 D = none → xs[i]? = some x → Pv D i ys H2 → (∀ y H6, H6 D = some (.lst ys) → ys.length < sizeLine → Pv D (i + 1) (ys ++ [y]) (upd H6 D (.lst (ys ++ [y]))) → R y H6) → (∀ H5, Pv D (i + 1) ys H5 → R0 H5) → g x (compSt k caps σ) H2 fun σ4 H4 => tc σ4 H4 fun b H5 => if b = true then te σ4 H5 R else R0 H5)
    (hd : ∀ D ys H2, H1 D = none → Pv D xs.length ys H2 → Q D H2) :
    ∀ D, H1 D = none → ∃ W : Nat → Nat → List V → Hp → Prop, (∃ m, W 0 m [] (upd H1 D (.lst []))) ∧ ∀ i m ys H2, W i m ys H2 →
      ((Itl K a).stop i H2 ∧ Q D H2) ∨ ((Itl K a).go i H2 ∧ ∀ x H3, (Itl K a).yld i H2 x H3 → g x (compSt k caps σ) H3 fun σ4 H4 => tc σ4 H4 fun b H5 =>
        if b = true then te σ4 H5 fun y H6 => H6 D = some (.lst ys) ∧ ys.length < sizeLine ∧ ∃ m', m' < m ∧ W (i + 1) m' (ys ++ [y]) (upd H6 D (.lst (ys ++ [y]))) else ∃ m', m' < m ∧ W (i + 1) m' ys H5) := by
  intro D hD
  refine ⟨fun i m ys H2 => m = xs.length - i ∧ i ≤ xs.length ∧ Pv D i ys H2, ⟨xs.length, rfl, Nat.zero_le _, h0 D hD⟩, ?_⟩
  rintro i m ys H2 ⟨rfl, hi, p⟩
  have q2 := hq D i ys H2 p
  by_cases hlt : i < xs.length
  · refine .inr ⟨⟨xs, xs[i], q2, by simp [hlt]⟩, fun x H3 y => ?_⟩
    obtain ⟨rfl, y⟩ := y
    have hx := y xs q2
    refine hs D i x ys H3 _ _ hD hx p (fun v H6 e6 hz p6 => ?_) (fun H5 p5 => ?_)
    · exact ⟨e6, hz, xs.length - (i + 1), by omega, rfl, hlt, p6⟩
    · exact ⟨xs.length - (i + 1), by omega, rfl, hlt, p5⟩
  · have e : i = xs.length := by omega
    subst e
    exact .inl ⟨⟨xs, q2, Nat.le_refl _⟩, hd D ys H2 hD p⟩
/-- a table in the heap: its states, its inner and its order -/
structure Tab (K : PySem.W.Frag) (F : Addr → Prop) (H : Hp) (t : Addr) (rs : List Stt) (n : Int) (ord : List (Str × Str)) : Prop where
  ex : ∃ (a o : Addr) (us : List Addr) (ts : List Addr), H t = some (.tup [.ref a, .int n, .ref o]) ∧ F a ∧ F o ∧ a ≠ o ∧ H a = some (.lst (us.map V.ref)) ∧ StRows K F H a us rs ∧ H o = some (.lst (ts.map V.ref)) ∧ Tups H ts ord
theorem Tab.same {K : PySem.W.Frag} {F : Addr → Prop} {H H' : Hp} {t : Addr} {rs : List Stt} {n : Int} {ord : List (Str × Str)} (s : Same H H') (h : Tab K F H t rs n ord) : Tab K F H' t rs n ord := by
  obtain ⟨a, o, us, ts, h1, h2, h3, h4, h5, h6, h7, h8⟩ := h.ex
  exact ⟨a, o, us, ts, s _ _ h1, h2, h3, h4, s _ _ h5, h6.same s, s _ _ h7, h8.same s⟩
theorem Tab.mono {K : PySem.W.Frag} {F F' : Addr → Prop} {H : Hp} {t : Addr} {rs : List Stt} {n : Int} {ord : List (Str × Str)} (hF : ∀ x, F x → F' x) (h : Tab K F H t rs n ord) : Tab K F' H t rs n ord := by
  obtain ⟨a, o, us, ts, h1, h2, h3, h4, h5, h6, h7, h8⟩ := h.ex
  exact ⟨a, o, us, ts, h1, hF _ h2, hF _ h3, h4, h5, h6.mono hF, h7, h8⟩
/-! ### the usual table -/
end L2

namespace L2
open PySem PySem.Spec PyProof.Rows
/-! ### enumerate of a list, with a pair of targets -/
def Ite (K : PySem.W.Frag) (l : Addr) : It :=
  ⟨fun i H => ∃ xs x, SqL K H l xs ∧ xs[i]? = some x,
   fun i H v H' => ∃ T x, H T = none ∧ v = .ref T ∧ H' = upd H T (.tup [.int i, x]) ∧ ∀ xs, SqL K H l xs → xs[i]? = some x,
   fun i H => ∃ xs, SqL K H l xs ∧ xs.length ≤ i⟩
def EnumSt (e it l : Addr) (i : Nat) (h : Heap) : Prop := (∃ old, IsEnum h e it i old) ∧ h.IsListIter it l i
theorem turn_enum {P : Program} {w : World} {K : PySem.W.Frag} {es : List Expr} {k : Nat} {pos : Pos} {e it l : Addr} (hei : e ≠ it) :
    Turn P w K (.Tuple es k pos) (Ite K l) [e, it] e (EnumSt e it l) where
  mem := by simp
  obj := fun i h st b hb => by
    obtain ⟨⟨old, he⟩, ⟨o1, e1, c1, d1⟩⟩ := st
    simp at hb
    rcases hb with rfl | rfl
    · exact ⟨_, he, fun v q => by cases q⟩
    · exact ⟨_, e1, fun v q => by rw [d1] at q; cases q⟩
  keep := fun i h h' st kk => by
    obtain ⟨⟨old, he⟩, h1⟩ := st
    exact ⟨⟨old, kk e (by simp) _ he⟩, h1.at fun o x => kk it (by simp) o x⟩
  item := by
    intro X hP hw hK hc i pins s σ H E I hf st hg
    subst hP hw hK
    obtain ⟨xs, x, hq1, hx⟩ := hg
    obtain ⟨⟨old, he⟩, h1⟩ := st
    obtain ⟨its1, rv1, p1, hz1⟩ := I.list hq1
    obtain ⟨u1, hu1, ru1⟩ := rv1.get hx
    refine wpAny_pyNext_enum_item he h1 p1.isList (x := u1) (by simpa using hu1) hei fun h' a1 a2 a3 a4 hk => ?_
    refine ⟨_, rfl, wpAny_letOwnedTupleGo_enum (s := { s with heap := h', toks := s.toks + 1 }) a1 fun h'' hz'' hs'' => ?_⟩
    have fe := hf e (by simp)
    have fi := hf it (by simp)
    have trk : ∀ b u, H b = some u → b ≠ e ∧ b ≠ it := fun b u z => ⟨ne_of_none z fe.1, ne_of_none z fi.1⟩
    have keep : ∀ b o, b ≠ e → b ≠ it → s.heap.get? b = some o → h''.get? b = some o := fun b o n1 n2 z => (hs''.2 b n1).trans (hk b o n1 n2 z)
    have nch : ∀ {b : Addr}, b ∉ [e, it] → b ≠ e ∧ b ≠ it := fun {b} hb => by simpa using hb
    have I1 : Inv X pins σ H { s with heap := h'', toks := s.toks + 1 } := by
      refine I.step (g' := s.gens) (t' := s.toks + 1) (d' := s.drawn) (h' := h'') (ch := [e, it]) (fun b hb => ?_) (fun b ob _ _ hb z _ => keep b ob (nch hb).1 (nch hb).2 z) (fun b ob _ _ hb z _ => ⟨ob.slots, keep b ob (nch hb).1 (nch hb).2 z⟩)
        (fun _ _ _ _ n => n) (fun b ob hb z => ⟨ob, keep b ob (nch hb).1 (nch hb).2 z⟩) (fun _ _ z => z) (fun _ _ _ z => z) (fun b ps z => ⟨#[], by rw [z]; simp⟩) (fun m hm => ?_) (fun b u z => ?_) I.bare
      · have : b = e ∨ b = it := by simpa using hb
        rcases this with rfl | rfl
        · exact ⟨fe.2.2.2.1, fe.2.1, fe.2.2.2.2.1, fe.2.2.2.2.2⟩
        · exact ⟨fi.2.2.2.1, fi.2.1, fi.2.2.2.2.1, fi.2.2.2.2.2⟩
      · obtain ⟨o, es, ep, ho, r⟩ := hm
        exact ⟨o, es, ep, keep _ o (Ne.symm fe.2.1) (Ne.symm fi.2.1) ho, r⟩
      · refine (I.hok b u z).stay (fun c v hc q => ?_) (fun _ q => q) fun _ _ q => q
        have hc' : ∃ u', H c = some u' := by
          rcases hc with rfl | hc
          · exact ⟨_, z⟩
          · exact ⟨_, hc⟩
        obtain ⟨u', e'⟩ := hc'
        obtain ⟨n1, n2⟩ := trk c u' e'
        exact keep c v n1 n2 q
    have hTz : s.heap.objs.size ≠ e := Nat.ne_of_gt (Heap.lt_size he)
    have hT0 : H s.heap.objs.size = none := I.hok.fresh (Nat.le_refl _)
    have hTget : h''.get? s.heap.objs.size = some { cls := .type "tuple", data := .seq #[.int i s.toks, u1] } := (hs''.2 _ hTz).trans a3
    have I2 : Inv X pins σ (upd H s.heap.objs.size (.tup [.int i, x])) { s with heap := h'', toks := s.toks + 1 } := by
      refine I1.track (I.fpOk (Nat.le_refl _) hT0) ⟨_, hTget⟩ ?_
      exact ⟨by show 2 ≤ sizeLine; decide, [.int i s.toks, u1], .cons ⟨_, rfl⟩ (.cons ru1 .nil), ⟨_, hTget, rfl, _, rfl⟩⟩
    refine ⟨.ref s.heap.objs.size, _, I2, rfl, ⟨s.heap.objs.size, x, hT0, rfl, rfl, fun zs hzs => by rw [I.list_inj hzs hq1]; exact hx⟩, ?_, fun b hb => ?_⟩
    · refine ⟨⟨u1, by simpa using hz''⟩, a2.extBut hs''.extBut (Ne.symm hei)⟩
    · have hb' := (hf b hb).1
      rw [upd_ne (fun q => ?_)]
      · exact hb'
      · have hb2 : b = e ∨ b = it := by simpa using hb
        obtain ⟨o1, e1, _⟩ := h1
        have lt : b < s.heap.objs.size := by
          rcases hb2 with rfl | rfl
          · exact Heap.lt_size he
          · exact Heap.lt_size e1
        rw [q] at lt
        exact absurd lt (Nat.lt_irrefl _)
  done := by
    intro X hP hw hK hc i pins s σ H E I hf st hg
    subst hP hw hK
    obtain ⟨xs, hq1, hend⟩ := hg
    obtain ⟨⟨old, he⟩, h1⟩ := st
    obtain ⟨its1, rv1, p1, hz1⟩ := I.list hq1
    have l1' := rv1.length
    obtain ⟨f0, f1, f2, f3, f4, f5⟩ := hf it (by simp)
    exact wpAny_pyNext_enum_end (I.ok.hd hc) he h1 p1.isList (by simp; omega) fun h' eb => ⟨rfl, I.turned (t' := s.toks) (fun b o hb z => eb b o hb z) f0 f1 f3 f4 f5⟩
  self := fun _ _ _ _ _ st h => by
    obtain ⟨⟨old, he⟩, _⟩ := st
    exact wpAny_pyIter_enum he h
def iEnum (K : PySem.W.Frag) (ta : TA) : TI := fun σ H R => ta σ H fun vs H1 => ∃ l, vs = [.ref l] ∧ (∃ xs, H1 l = some (.lst xs)) ∧ R (Ite K l) H1
theorem pi_enum {X : Cx} {es : List Expr} {k : Nat} {tpos : Pos} {a : Expr} {ta : TA} {p pos : Pos} (hg : Gl X "enumerate") (hm : X.mg "enumerate" = none) (ha : PA X [a] ta) (hs : starEach [a] X.env = [(false, eval a X.env)] := by rfl) :
    PI X (.Tuple es k tpos) (.Call (.Name "enumerate" p) [a] [] pos) (iEnum X.K ta) := by
  intro pins s σ H R I h
  refine Call_ (ld_blt I hg hm (u := .type "enumerate") (by decide +kernel) (PyProof.Rows.callWith_type1 (thn (ha pos pins s σ H _ I h) fun us s1 ⟨vs, H1, I1, r1, q1⟩ => ?_) (by rw [hs]; rfl) (by rfl)))
  obtain ⟨l, rfl, ⟨xs, hq⟩, q⟩ := q1
  obtain ⟨u1, rfl, ru1⟩ := vals1 r1
  obtain rfl : u1 = Value.ref l := ru1
  obtain ⟨z, its, n, rv, e⟩ := I1.hok l _ hq
  have a1 : l < s1.heap.objs.size := Heap.lt_size e
  refine call_enumerate_1 e fun h' he hi hsz hk => ?_
  refine wpAny_pyIter_enum (s := { s1 with heap := h' }) he ?_
  refine ⟨_, [s1.heap.objs.size + 1, s1.heap.objs.size], _, _, H1, rfl, I1.kept (t' := s1.toks) hk, turn_enum (Nat.succ_ne_self _), ⟨⟨_, he⟩, hi⟩, fun b hb => ?_, q⟩
  have hb' : s1.heap.objs.size ≤ b := by
    have hb2 : b = s1.heap.objs.size + 1 ∨ b = s1.heap.objs.size := by simpa using hb
    rcases hb2 with rfl | rfl
    · exact Nat.le_add_right _ _
    · exact Nat.le_refl _
  exact I1.fpOk hb' (I1.hok.fresh hb')
theorem for_enum {K : PySem.W.Frag} {l : Addr} {xs : List V} {g : TG} {tb : TS} {D : Ends} {σ : St} {H : Hp} (Pv : Nat → St → Hp → Prop) (h0 : Pv 0 σ H) (hl : ∀ i σ H, Pv i σ H → SqL K H l xs)
    (hs : ∀ i x T σ H, xs[i]? = some x → H T = none → Pv i σ H → g (.ref T) σ (upd H T (.tup [.int i, x])) fun σ2 H2 => tb { D with nx := Pv (i + 1), ct := Pv (i + 1), bk := D.nx } σ2 H2) (hd : ∀ σ H, Pv xs.length σ H → D.nx σ H) :
    ∃ W : Nat → Nat → St → Hp → Prop, (∃ m, W 0 m σ H) ∧ ∀ i m σ H, W i m σ H →
      ((Ite K l).stop i H ∧ D.nx σ H) ∨ ((Ite K l).go i H ∧ ∃ N : St → Hp → Prop, (∀ σ' H', N σ' H' → ∃ m', m' < m ∧ W (i + 1) m' σ' H') ∧ ∀ x H', (Ite K l).yld i H x H' → g x σ H' fun σ2 H2 => tb { D with nx := N, ct := N, bk := D.nx } σ2 H2) := by
  refine ⟨fun i m σ H => m = xs.length - i ∧ i ≤ xs.length ∧ Pv i σ H, ⟨_, rfl, Nat.zero_le _, h0⟩, ?_⟩
  rintro i m σ H ⟨rfl, hi, p⟩
  have q1 := hl i σ H p
  by_cases hlt : i < xs.length
  · refine .inr ⟨⟨xs, xs[i], q1, by simp [hlt]⟩, Pv (i + 1), fun σ' H' p' => ⟨xs.length - (i + 1), by omega, rfl, hlt, p'⟩, fun v H' y => ?_⟩
    obtain ⟨T, x, hT, rfl, rfl, e1⟩ := y
    exact hs i x T σ H (e1 xs q1) hT p
  · have e : i = xs.length := by omega
    refine .inl ⟨⟨xs, q1, by omega⟩, ?_⟩
    rw [e] at p
    exact hd σ H p
end L2

namespace L2
open PySem PySem.Spec PySem.Calls PyProof.Rows PySem.W
/-! ### text.split(sep) -/
def rSplit : V → List V → Hp → VK → Prop := fun x vs H Q => ∃ (a b : Str), x = .str a ∧ vs = [.str b] ∧ (b.length == 0) = false ∧ a.length ≤ 100000 ∧ ∀ D, H D = none → Q (.ref D) (upd H D (.lst ((Txt.split a b).map V.str)))
theorem vals_of_sv : ∀ (l : List (Str × Tok)), Vals ((l.map (·.1)).map V.str) (strValues l)
  | [] => .nil
  | p :: l => .cons ⟨p.2, rfl⟩ (vals_of_sv l)
theorem mt_split {X : Cx} : MtR X "str.split" rSplit := by
  intro pins s σ H x vs v us Q I rx rv h
  obtain ⟨a, b, rfl, rfl, hb, ha, q⟩ := h
  obtain ⟨t, rfl⟩ := rx
  obtain ⟨u, rfl, ru⟩ := vals1 rv
  obtain ⟨t2, rfl⟩ := ru
  have hs : (200000 : Nat) ≤ sizeLine := by decide
  have e1 := StrLaws.occ_length_le a b 0 a.length (a.length + 1)
  have hn : (Builtin.Str.partsBetween a (Builtin.Str.occurrences a b 0 a.length (a.length + 1)) b.length).length ≤ sizeLine := by
    rw [length_partsBetween]; omega
  have fin : ∀ (l : List (Str × Tok)) (k : Nat), l.map (·.1) = Txt.split a b → l.length ≤ sizeLine → EP X pins σ Q (.ref s.heap.objs.size) { s with heap := s.heap.push { cls := .type "list", data := .seq (strValues l).toArray }, toks := k } := fun l k e hz =>
    ⟨.ref s.heap.objs.size, _, I.laid (t' := k) (fun b o e => Heap.get?_push_of_some _ e) (Nat.le_refl _) (show ObjOk X.prog X.w _ _ _ (.lst ((Txt.split a b).map V.str)) from ⟨by rw [← e, List.length_map, List.length_map]; exact hz, strValues l, 0, by rw [← e]; exact vals_of_sv l, Heap.get?_push_size _ rfl⟩), rfl, q _ (I.hok.fresh (Nat.le_refl _))⟩
  cases h1 : (decide (a.length < b.length) || decide (Builtin.Str.strKind a < Builtin.Str.strKind b))
  · cases hf : (Builtin.Str.occurrences a b 0 a.length (a.length + 1)).isEmpty
    · refine call_meets F.slot_str_split (typeIs_str _ _ _) F.entry_str_split (F.args_str_split_2 _ _) (meets_str_split_sep a b t t2 h1 hb hf (by omega) hn) ?_
      show wants _ _ _ { s with toks := _, heap := s.heap.push { cls := .type "list", data := .seq (strsFrom s.toks (Builtin.Str.partsBetween a (Builtin.Str.occurrences a b 0 a.length (a.length + 1)) b.length)).toArray } }
      rw [strsFrom_eq]
      have e2 := numbered_texts s.toks (Builtin.Str.partsBetween a (Builtin.Str.occurrences a b 0 a.length (a.length + 1)) b.length)
      exact fin (numbered s.toks _) _ (e2.trans ((if_neg (ne_true_of_eq_false h1)).trans (if_neg (ne_true_of_eq_false hf))).symm) (by rw [← List.length_map (f := fun p : Str × Tok => p.1), e2]; exact hn)
    · exact call_meets F.slot_str_split (typeIs_str _ _ _) F.entry_str_split (F.args_str_split_2 _ _) (meets_str_split_not_found a b t t2 h1 hb hf) (fin [(a, t)] s.toks ((if_neg (ne_true_of_eq_false h1)).trans (if_pos hf)).symm (show 1 ≤ sizeLine by decide))
  · exact call_meets F.slot_str_split (typeIs_str _ _ _) F.entry_str_split (F.args_str_split_2 _ _) (meets_str_split_cannot_occur a b t t2 h1) (fin [(a, t)] s.toks (if_pos h1).symm (show 1 ≤ sizeLine by decide))
end L2

namespace L2
open PySem PySem.Spec PySem.Calls PyProof.Rows PySem.W
/-! ### str(n) -/
theorem call_strI {X : Cx} : CallR X (.type "str") (fun vs H Q => ∃ n : Int, vs = [.int n] ∧ n.natAbs.log2 < 1920 ∧ Q (.str (toString n)) H) := by
  intro pins s σ H vs us Q I r h
  obtain ⟨n, rfl, hn, q⟩ := h
  obtain ⟨u, rfl, ru⟩ := vals1 r
  obtain ⟨t, rfl⟩ := ru
  exact PySem.P.str_of_int hn ⟨.str _, H, I.tok _, ⟨_, rfl⟩, q⟩
/-! ### int(text) -/
theorem call_intS {X : Cx} : CallR X (.type "int") (fun vs H Q => ∃ (x : Str) (n : Int), vs = [.str x] ∧ PySem.intText? x = some n ∧ x.length ≤ 640 ∧ Q (.int n) H) := by
  intro pins s σ H vs us Q I r h
  obtain ⟨x, n, rfl, hx, hl, q⟩ := h
  obtain ⟨u, rfl, ru⟩ := vals1 r
  obtain ⟨t, rfl⟩ := ru
  exact PySem.W.KIN.call_text hx hl ⟨.int n, H, I.tok _, ⟨_, rfl⟩, q⟩
end L2

namespace L2
open PySem PySem.Spec PyProof.Rows
/-! ### a set's table: its places rise -/
def Ris (xs : Array Nat) : Prop := xs.toList.Pairwise (· < ·)
theorem Ris.lt {xs : Array Nat} (h : Ris xs) {a b : Nat} (hab : a < b) (hb : b < xs.size) : xs.getD a 0 < xs.getD b 0 := by
  have ha : a < xs.size := by omega
  have := (List.pairwise_iff_getElem.mp h) a b (by simpa using ha) (by simpa using hb) hab
  rw [Array.getD_eq_getD_getElem?, Array.getD_eq_getD_getElem?, Array.getElem?_eq_getElem ha, Array.getElem?_eq_getElem hb]
  simpa using this
theorem Ris.le {xs : Array Nat} (h : Ris xs) {a b : Nat} (hab : a ≤ b) (hb : b < xs.size) : xs.getD a 0 ≤ xs.getD b 0 := by
  rcases Nat.lt_or_eq_of_le hab with e | e
  · exact Nat.le_of_lt (h.lt e hb)
  · rw [e]; exact Nat.le_refl _
theorem getD_in {xs : Array Nat} {i d : Nat} (h : i < xs.size) : xs.getD i d = xs.getD i 0 := by
  rw [Array.getD_eq_getD_getElem?, Array.getD_eq_getD_getElem?, Array.getElem?_eq_getElem h]; rfl
theorem below_go {xs : Array Nat} (hr : Ris xs) (j : Nat) : ∀ (fuel lo hi : Nat), hi ≤ xs.size → lo ≤ hi → hi - lo ≤ fuel → (∀ i, i < lo → xs.getD i 0 < j) → (∀ i, hi ≤ i → i < xs.size → j ≤ xs.getD i 0) →
    SetTable.below.go xs j fuel lo hi ≤ xs.size ∧ (∀ i, i < SetTable.below.go xs j fuel lo hi → xs.getD i 0 < j) ∧ ∀ i, SetTable.below.go xs j fuel lo hi ≤ i → i < xs.size → j ≤ xs.getD i 0
  | 0, lo, hi, h1, h2, h3, h4, h5 => by
    have : lo = hi := by omega
    subst this
    exact ⟨h1, h4, h5⟩
  | fuel + 1, lo, hi, h1, h2, h3, h4, h5 => by
    unfold SetTable.below.go
    by_cases c : lo < hi
    · rw [if_pos c]
      dsimp only
      have hm : (lo + hi) / 2 < xs.size := by omega
      rw [getD_in hm]
      by_cases d : xs.getD ((lo + hi) / 2) 0 < j
      · rw [if_pos d]
        exact below_go hr j fuel _ hi h1 (by omega) (by omega) (fun i hi' => Nat.lt_of_le_of_lt (hr.le (by omega) hm) d) h5
      · rw [if_neg d]
        exact below_go hr j fuel lo _ (by omega) (by omega) (by omega) h4 (fun i hi' hs => Nat.le_trans (Nat.le_of_not_lt d) (hr.le hi' hs))
    · rw [if_neg c]
      have : lo = hi := by omega
      subst this
      exact ⟨h1, h4, h5⟩
theorem below_ok {xs : Array Nat} (hr : Ris xs) (j : Nat) : SetTable.below xs j ≤ xs.size ∧ (∀ i, i < SetTable.below xs j → xs.getD i 0 < j) ∧ ∀ i, SetTable.below xs j ≤ i → i < xs.size → j ≤ xs.getD i 0 :=
  below_go hr j xs.size 0 xs.size (Nat.le_refl _) (Nat.zero_le _) (by omega) (fun i h => by omega) (fun i h1 h2 => by omega)
/-- the walk by places goes through them one by one -/
theorem below_zero {xs : Array Nat} (hr : Ris xs) : SetTable.below xs 0 = 0 := by
  obtain ⟨_, h2, _⟩ := below_ok hr 0
  cases e : SetTable.below xs 0 with
  | zero => rfl
  | succ n => have := h2 0 (by omega); omega
theorem below_next {xs : Array Nat} (hr : Ris xs) {i j : Nat} (h : xs[i]? = some j) : SetTable.below xs (j + 1) = i + 1 := by
  obtain ⟨h1, h2, h3⟩ := below_ok hr (j + 1)
  have hi : i < xs.size := (Array.getElem?_eq_some_iff.mp h).1
  have ej : xs.getD i 0 = j := by rw [Array.getD_eq_getD_getElem?, h]; rfl
  rcases Nat.lt_trichotomy (SetTable.below xs (j + 1)) (i + 1) with c | c | c
  · have := h3 i (by omega) hi
    omega
  · exact c
  · have h4 := h2 (i + 1) c
    have h5 : xs.getD i 0 < xs.getD (i + 1) 0 := hr.lt (Nat.lt_succ_self i) (show i + 1 < xs.size by omega)
    omega
theorem insert_list {α : Type} (xs : Array α) (p : Nat) (x : α) (hp : p ≤ xs.size) : (SetTable.insertAt xs p x).toList = xs.toList.take p ++ [x] ++ xs.toList.drop p := by
  unfold SetTable.insertAt
  simp [Array.toList_extract]
  exact List.take_of_length_le (by simp)
theorem insert_ris {xs : Array Nat} (hr : Ris xs) {j : Nat} (hn : xs[SetTable.below xs j]? ≠ some j) : Ris (SetTable.insertAt xs (SetTable.below xs j) j) := by
  obtain ⟨h1, h2, h3⟩ := below_ok hr j
  generalize SetTable.below xs j = p at h1 h2 h3 hn
  unfold Ris
  rw [insert_list xs p j h1]
  have g : ∀ {i : Nat} (hi : i < xs.toList.length), xs.toList[i] = xs.getD i 0 := fun {i} hi => by
    have hi' : i < xs.size := by simpa using hi
    rw [Array.getD_eq_getD_getElem?, Array.getElem?_eq_getElem hi']; simp
  refine List.pairwise_append.mpr ⟨List.pairwise_append.mpr ⟨hr.sublist (List.take_sublist _ _), List.pairwise_singleton _ _, fun a ha b hb => ?_⟩, hr.sublist (List.drop_sublist _ _), fun a ha b hb => ?_⟩
  · rw [List.mem_singleton.mp hb]
    obtain ⟨i, hi, rfl⟩ := List.getElem_of_mem ha
    rw [List.length_take] at hi
    rw [List.getElem_take, g (by omega)]
    exact h2 i (by omega)
  · obtain ⟨i, hi, rfl⟩ := List.getElem_of_mem hb
    rw [List.length_drop] at hi
    rw [List.getElem_drop, g (by omega)]
    have hi' : p + i < xs.size := by simp at hi; omega
    have hj : j < xs.getD p 0 := by
      have hp : p < xs.size := by omega
      have := h3 p (Nat.le_refl _) hp
      have ne : xs.getD p 0 ≠ j := fun z => hn (by rw [Array.getElem?_eq_getElem hp]; rw [Array.getD_eq_getD_getElem?, Array.getElem?_eq_getElem hp] at z; exact congrArg some z)
      omega
    have hle := hr.le (show p ≤ p + i by omega) hi'
    rcases List.mem_append.mp ha with ha | ha
    · obtain ⟨k, hk, rfl⟩ := List.getElem_of_mem ha
      rw [List.length_take] at hk
      rw [List.getElem_take, g (by omega)]
      have := h2 k (by omega)
      omega
    · rw [List.mem_singleton.mp ha]; omega
structure TOk (led : Bool) (t : SetTable) : Prop where
  ris : Ris t.place
  dum : t.dummies = #[]
  led : t.led = led
theorem probe_go {t : SetTable} {hashAt : Nat → Int} {h : Int} (hd : t.dummies = #[]) : ∀ (fuel : Nat) (p : SetTable.Probe) {j : Nat} {d : Option Nat}, p.dummy = none → SetTable.probe.go t hashAt h fuel p = some (.empty j d) → t.slot j = .empty ∧ d = none
  | 0, p, j, d, _, e => by cases e
  | fuel + 1, p, j, d, hp, e => by
    unfold SetTable.probe.go at e
    have adv : ∀ q : SetTable.Probe, q.dummy = none → (t.advance q).dummy = none := fun q hq => by
      unfold SetTable.advance
      split
      · exact hq
      · exact hq
    cases c : t.slot p.j with
    | empty => rw [c] at e; cases e; exact ⟨c, hp⟩
    | dummy =>
      exfalso
      have hh : SetTable.has t.dummies p.j = false := by rw [hd]; unfold SetTable.has; simp
      unfold SetTable.slot at c
      dsimp only at c
      rw [hh] at c
      by_cases g : (t.place[SetTable.below t.place p.j]? == some p.j) = true
      · rw [if_pos g] at c; cases c
      · rw [if_neg g] at c; cases c
    | live i =>
      rw [c] at e
      dsimp only at e
      split at e
      · cases e
      · exact probe_go hd fuel _ (adv p hp) e
theorem slot_empty {t : SetTable} {j : Nat} (h : t.slot j = .empty) : t.place[SetTable.below t.place j]? ≠ some j := fun e => by
  unfold SetTable.slot at h
  simp only [e] at h
  simp at h
theorem standIn_ok {led : Bool} {t : SetTable} (h : TOk led t) (n : Nat) : TOk led (t.standIn n) := ⟨by
  show Ris (Array.range n)
  unfold Ris
  rw [Array.toList_range]
  exact List.pairwise_lt_range, rfl, h.led⟩
theorem put_ok {led : Bool} {t : SetTable} (h : TOk led t) {j : Nat} (hs : t.slot j = .empty) : TOk led (t.put j).1 := by
  refine ⟨insert_ris h.ris (slot_empty hs), ?_, h.led⟩
  show (if SetTable.has t.dummies j then SetTable.eraseAt t.dummies (SetTable.below t.dummies j) else t.dummies) = #[]
  rw [h.dum]
  have : SetTable.has #[] j = false := by unfold SetTable.has; simp
  rw [this]; rfl
theorem layNew_ok {led : Bool} {t : SetTable} (h : TOk led t) (es : Array (Int × Value)) (k : Int) (x : Value) : TOk led (layNew t es k x).2.1 := by
  unfold layNew
  cases e : t.freeSlot k with
  | none => exact standIn_ok h _
  | some r =>
    obtain ⟨slot, wd⟩ := r
    dsimp only
    have hs : t.slot slot = .empty := by
      unfold SetTable.freeSlot at e
      cases c : t.probe (fun _ => k + 1) k (t.probeStart k) with
      | none => rw [c] at e; cases e
      | some m =>
        rw [c] at e
        cases m with
        | candidate => cases e
        | empty j d =>
          obtain ⟨h1, h2⟩ := probe_go h.dum _ _ rfl c
          subst h2
          cases e
          exact h1
    have hp := put_ok h hs
    unfold SetTable.orStandIn
    split
    · exact hp
    · exact standIn_ok hp _
theorem laid_ok {mask finger moves : Nat} {led plain : Bool} {hs : Array Int} {r : SetTable × Array Nat} (h : SetTable.laid mask finger moves led plain hs = some r) : TOk led r.1 := by
  unfold SetTable.laid at h
  cases c : SetTable.layClean mask hs with
  | none => rw [c] at h; cases h
  | some owner =>
    rw [c] at h
    cases h
    refine ⟨?_, rfl, rfl⟩
    unfold Ris
    dsimp only
    have : (List.map (fun x => x.1) (List.filterMap (fun j => Option.map (fun x => (j, x)) (owner.getD j none)) (List.range (mask + 1)))).Pairwise (· < ·) := by
      rw [List.pairwise_map]
      refine List.Pairwise.filterMap _ (fun a b hab c hc d hd => ?_) (List.pairwise_lt_range (n := mask + 1))
      obtain ⟨x, _, rfl⟩ := Option.map_eq_some_iff.mp hc
      obtain ⟨y, _, rfl⟩ := Option.map_eq_some_iff.mp hd
      exact hab
    exact this
theorem relayAll_ok {led : Bool} {t : SetTable} (h : TOk led t) (es : Array (Int × Value)) (wanted : Nat) : TOk led (relayAll t es wanted).2.1 := by
  unfold relayAll
  cases c : t.relaid (es.map (·.1)) wanted with
  | none => exact standIn_ok h _
  | some r =>
    obtain ⟨t', order⟩ := r
    dsimp only
    split
    · have := laid_ok c
      rw [h.led] at this
      exact this
    · exact standIn_ok h _
end L2

namespace L2
open PySem PySem.Spec PyProof.Rows
/-! ### a set with its table: elements added -/
section
variable {prog : Program} {w : World} {α : Type} [DecidableEq α] [BEq α] [LawfulBEq α]
def SetL (knd : KeyKind prog w α) (ld : Bool) (hp : Heap) (D : Addr) (M : α → Bool) (n : Nat) : Prop :=
  ∃ (ob : Obj) (es : Array (Int × Value)) (ep : Nat) (tb : SetTable), hp.get? D = some ob ∧ ob.ExactSet ∧ ob.data = .set es ep tb ∧ ElemsOf knd es.toList ∧ (∀ y, M y = true ↔ ∃ e ∈ es.toList, knd.is y e.2 = true) ∧ es.size < scanBound ∧ tb.fits es.size = true ∧ es.size = n ∧ TOk ld tb
variable {knd : KeyKind prog w α} {ld : Bool} {A : Around} {E : Value → Shared → Prop} {s : Shared} {D : Addr}
theorem SetL.keep {hp hq : Heap} {M : α → Bool} {n : Nat} (x : SetL knd ld hp D M n) (k : ∀ ob, hp.get? D = some ob → hq.get? D = some ob) : SetL knd ld hq D M n := by
  obtain ⟨ob, es, ep, tb, x1, x⟩ := x
  exact ⟨ob, es, ep, tb, k _ x1, x⟩
theorem SetL.cong {hp : Heap} {M M' : α → Bool} {n n' : Nat} (x : SetL knd ld hp D M n) (hM : ∀ y, M' y = M y) (hn : n' = n) : SetL knd ld hp D M' n' := by
  obtain ⟨ob, es, ep, tb, x1, x2, x3, x4, x5, x6, x7, x8, x9⟩ := x
  exact ⟨ob, es, ep, tb, x1, x2, x3, x4, fun y => by rw [hM]; exact x5 y, x6, x7, by rw [hn]; exact x8, x9⟩
theorem off_ok {tb : SetTable} (x : TOk ld tb) : TOk ld { tb with plain := false } := ⟨x.ris, x.dum, x.led⟩
/-- the new state laid down -/
theorem put_state {ob : Obj} {es es' : Array (Int × Value)} {ep : Nat} {tb tb' : SetTable} {M : α → Bool} (x1 : s.heap.get? D = some ob) (x2 : ob.ExactSet) (x3 : ob.data = .set es ep tb) (y1 : ElemsOf knd es'.toList) (y2 : ∀ y, M y = true ↔ ∃ e ∈ es'.toList, knd.is y e.2 = true) (y3 : es'.size < scanBound) (y4 : tb'.fits es'.size = true) (y5 : TOk ld tb') {Q : Unit → Shared → Prop}
    (q : ∀ hp, Heap.SameBut D s.heap hp → (∃ ob', hp.get? D = some ob' ∧ ob'.ExactSet ∧ ob'.data = .set es' (ep + 1) tb') → SetL knd ld hp D M es'.size → Q () { s with heap := hp }) : wpAny (model prog w) A (storeSet D es' tb') Q E s := by
  obtain ⟨z1, _⟩ := SetOf_store (knd := knd) x1 x2 x3 y1 y2 y3 y4
  exact wpAny_storeSet_of x1 x3 (q _ (Heap.SameBut.update ..) ⟨_, z1, x2, rfl⟩ ⟨_, es', ep + 1, tb', z1, x2, rfl, y1, y2, y3, y4, rfl, y5⟩) (fits_of_scanBound y3)
theorem size_perm {l : Array (Int × Value)} {m : List (Int × Value)} (p : l.toList.Perm m) : l.size = m.length := by rw [← Array.length_toList, p.length_eq]
theorem gave_on (b : Bool) {u : Shared} {Q : Unit → Shared → Prop} (q : Q () u) : wpAny (model prog w) A (match b with | true => rule "set.scan.the-table-gave-way" | false => pure ()) Q E u := by
  cases b
  · exact wpAny_pure q
  · exact wpAny_rule q
/-- the end of an adding: the table laid anew where it is too full -/
theorem add_end {ob : Obj} {es e1 : Array (Int × Value)} {ep : Nat} {tb t1 : SetTable} {M : α → Bool} (x1 : s.heap.get? D = some ob) (x2 : ob.ExactSet) (x3 : ob.data = .set es ep tb) (y1 : ElemsOf knd e1.toList) (y2 : ∀ y, M y = true ↔ ∃ e ∈ e1.toList, knd.is y e.2 = true) (y3 : e1.size < scanBound) (y4 : t1.fits e1.size = true) (y5 : TOk ld t1) {wd : Bool} {Q : Option Bool → Shared → Prop}
    {g : Bool → Sem Unit} (hg : ∀ (b : Bool) (u : Shared) (Q' : Unit → Shared → Prop), Q' () u → wpAny (model prog w) A (g b) Q' E u)
    (q : ∀ hp, Heap.SameBut D s.heap hp → SetL knd ld hp D M e1.size → Q (some true) { s with heap := hp }) :
    wpAny (model prog w) A (storeSet D e1 t1 >>= fun _ => if (!wd && t1.tooFull) = true then g (relayAll t1 e1 (SetTable.grown e1.size)).2.2 >>= fun _ => storeSet D (relayAll t1 e1 (SetTable.grown e1.size)).1 (relayAll t1 e1 (SetTable.grown e1.size)).2.1 >>= fun _ => pure (some true) else pure (some true)) Q E s := by
  refine wpAny_bind (put_state x1 x2 x3 y1 y2 y3 y4 y5 fun hp sb ⟨ob', z1, z2, z3⟩ sl => ?_)
  split
  · have pm := relayAll_perm t1 e1 (SetTable.grown e1.size)
    have ft := relayAll_fits t1 e1 (SetTable.grown e1.size)
    have tk := relayAll_ok y5 e1 (SetTable.grown e1.size)
    generalize relayAll t1 e1 (SetTable.grown e1.size) = rl at pm ft tk
    obtain ⟨e2, t2, gv⟩ := rl
    have n2 : e2.size = e1.size := (size_perm pm).trans (Array.length_toList ..)
    refine wpAny_bind (hg _ _ _ (wpAny_bind ?_))
    refine put_state (s := { s with heap := hp }) z1 z2 z3 (y1.perm pm) (fun y => (y2 y).trans ⟨fun ⟨e, a, b⟩ => ⟨e, pm.mem_iff.mpr a, b⟩, fun ⟨e, a, b⟩ => ⟨e, pm.mem_iff.mp a, b⟩⟩) (by rw [n2]; exact y3) ft tk fun hq sb2 _ sl2 => ?_
    exact wpAny_pure (q hq (sb.trans sb2) (sl2.cong (fun _ => rfl) n2.symm))
  · exact wpAny_pure (q hp sb sl)
theorem add_lay {M : α → Bool} {n : Nat} {y : α} {x : Value} {Q : Bool → Shared → Prop} (hx : knd.is y x = true) (sx : x.scannable = true) (hS : SetL knd ld s.heap D M n) (room : n + 1 < scanBound)
    (q : ∀ hp, Heap.SameBut D s.heap hp → SetL knd ld hp D (fun z => M z || decide (z = y)) (if M y then n else n + 1) → Q (!M y) { s with heap := hp }) : wpAny (model prog w) A (setAddHashed D x (knd.hash y)) Q E s := by
  obtain ⟨ob, es, ep, tb, x1, x2, x3, x4, x5, x6, x7, x8, x9⟩ := hS
  unfold setAddHashed setAddHashedIn
  refine wpAny_holding (wpAny_bind (wpAny_setState_of x1 x3 x7 ?_))
  dsimp only
  rw [byScan_of sx x6 x4, if_pos rfl]
  unfold setAddByScan
  refine wpAny_bind (wpAny_bind (wpAny_rule (wpAny_bind (wpAny_setScan_of hx x1 x3 x7 x4 ?_))))
  cases fd : List.findIdx? (fun e => knd.is y e.2) es.toList with
  | some j =>
    obtain ⟨hj, pj, _⟩ := List.findIdx?_eq_some_iff_getElem.mp fd
    have my : M y = true := (x5 y).mpr ⟨_, List.getElem_mem hj, pj⟩
    dsimp only
    refine wpAny_pure (wpAny_pure ?_)
    have key := q s.heap (Heap.SameBut.refl ..) ⟨ob, es, ep, tb, x1, x2, x3, x4, fun z => by
      rw [← x5 z, Bool.or_eq_true, decide_eq_true_eq]
      refine ⟨fun c => ?_, .inl⟩
      rcases c with c | c
      · exact c
      · rw [c]; exact my, x6, x7, by rw [my]; exact x8, x9⟩
    rw [my] at key
    exact key
  | none =>
    have my : M y = false := by
      cases c : M y with
      | false => rfl
      | true =>
        obtain ⟨e, he, pe⟩ := (x5 y).mp c
        have := List.findIdx?_eq_none_iff.mp fd e he
        rw [pe] at this; cases this
    dsimp only
    have pm := layNew_perm tb es (knd.hash y) x
    have ft := layNew_fits tb es (knd.hash y) x
    have tk := layNew_ok x9 es (knd.hash y) x
    generalize layNew tb es (knd.hash y) x = ly at pm ft tk
    obtain ⟨e1, t1, wd, gv⟩ := ly
    dsimp only at pm ft tk
    rw [Array.toList_push] at pm
    have n1 : e1.size = n + 1 := by rw [size_perm pm, List.length_append, Array.length_toList, x8]; rfl
    have z1 : ElemsOf knd e1.toList := (x4.push hx sx).perm pm
    have z2 := mem_push_iff hx x5 pm
    have z3 : e1.size < scanBound := by rw [n1]; exact room
    have fin : ∀ hp, Heap.SameBut D s.heap hp → SetL knd ld hp D (fun z => M z || decide (z = y)) e1.size → Q true { s with heap := hp } := fun hp sb sl => by
      have := q hp sb
      rw [my] at this
      exact this (sl.cong (fun _ => rfl) n1.symm)
    refine wpAny_bind (gave_on _ ?_)
    split
    · rw [hashByValue_scannable 8 sx]
      refine wpAny_bind (wpAny_pure ?_)
      refine add_end x1 x2 x3 z1 z2 z3 (by split; exact ft; exact SetTable.fits_plain_off ft) (by split; exact tk; exact off_ok tk) (fun b u Q' q' => gave_on b q') fun hp sb sl => ?_
      exact wpAny_pure (fin hp sb sl)
    · refine wpAny_bind (wpAny_pure ?_)
      rw [if_pos rfl]
      exact add_end x1 x2 x3 z1 z2 z3 ft tk (fun b u Q' q' => gave_on b q') fun hp sb sl => wpAny_pure (fin hp sb sl)
end
end L2

namespace L2
open PySem PySem.Spec PyProof.Rows
/-! ### set(xs) of a list of texts, with its table -/
/-- whether a set's maker is led: not where the order of sets follows a text -/
abbrev ledW (w : World) : Bool := !(w.params.followText "set-order")
abbrev setOb (b : Bool) : Obj := { cls := .type "set", dict := none, data := .set #[] 0 (.fresh 0 0 b) }
section
variable {prog : Program} {w : World} {A : Around} {E : Value → Shared → Prop} {s : Shared}
theorem new_led (x : Value) {Q : Value → Shared → Prop} (q : Q (.ref s.heap.objs.size) { s with heap := s.heap.push (setOb (ledW w)) }) :
    codeAny (model prog w) A (.call (.builtin "set.__new__") ⟨[.type "set", x], []⟩) (wants Q E) s := by
  refine codeAny_of_tree ?_
  show wpAny _ A.in1 (checkBuiltinCall "set.__new__" ⟨[.type "set", x], []⟩ >>= fun _ => again (.builtin "set.__new__" ⟨[.type "set", x], []⟩)) _ _ s
  refine wpAny_bind (wpAny_of_eq (F.newCall_set_1 x) (wpAny_pure ⟨plainId_quiet F.plain_set_new _, codeAny_builtin F.entry_set_new ?_⟩))
  rw [Around.under_plainId F.plain_set_new _]
  have hs := sub_set_self
  unfold Builtin.«set.__new__» Builtin.Frozenset.newClass
  cases s with
  | mk hp g d tk os =>
    dsimp only at q ⊢
    wp_walk
    refine wpAny_askSetting (wpAny_pure ?_)
    dsimp only
    simp only [newObj]
    exact wpAny_bind (wpAny_alloc (wpAny_pure (wpAny_pure q)))
end
section
variable {prog : Program} {w : World} {A : Around} {R : Result → Shared → Prop} {It : Addr} {fp wr : List Addr} {G : Array GenState → Array GenState → Prop} {n : Nat} {Pn : Nat → Value → Prop} {Sn : Nat → Shared → Prop}
theorem set_loopT (Wk : WalksS prog w A.in1 It fp wr G n Pn Sn) (D : Addr) (nD : D ∉ fp) (f : Nat → Str) (hf : ∀ i v, Pn i v → ∃ t, v = .str (f i) t) (small : n + 1 < scanBound) :
    ∀ (k i : Nat) (s : Shared), n - i = k → i ≤ n → Sn i s → SetL (strKind prog w) (ledW w) s.heap D (fun y => (metS f i).any (· == y)) (metS f i).length →
      (∀ s', Moved (D :: wr) G s s' → SetL (strKind prog w) (ledW w) s'.heap D (fun y => (metS f n).any (· == y)) (metS f n).length → R (.ok (.ret .none)) s') →
      codeAny (model prog w) A (.builtin "set.update.loop" ⟨[.ref D, .ref It], []⟩) R s := by
  have nDw : D ∉ wr := fun z => nD (Wk.sub _ z)
  have sub : ∀ b ∈ wr, b ∈ D :: wr := fun b z => List.mem_cons_of_mem _ z
  intro k
  induction k with
  | zero =>
    intro i s hk hi st hS fin
    obtain rfl : i = n := by omega
    refine codeAny_builtin F.entry_set_update_loop ?_
    rw [Around.under_plainId F.plain_set_update_loop _]
    show wpAny _ A.in1 (pyNext (.ref It) >>= _) _ _ s
    refine wpAny_bind (Wk.done s _ _ st fun s2 mv => ?_)
    show wpAny _ A.in1 (ret Value.none) _ _ s2
    refine wpAny_pure (fin s2 (mv.mono sub) ?_)
    exact hS.keep fun ob e => mv.heap D _ nDw e
  | succ k ih =>
    intro i s hk hi st hS fin
    have lt : i < n := by omega
    refine codeAny_builtin F.entry_set_update_loop ?_
    rw [Around.under_plainId F.plain_set_update_loop _]
    show wpAny _ A.in1 (pyNext (.ref It) >>= _) _ _ s
    refine wpAny_bind (Wk.item i s _ _ lt st fun v s2 pv st2 mv => ?_)
    obtain ⟨t, rfl⟩ := hf i v pv
    have hS2 : SetL (strKind prog w) (ledW w) s2.heap D (fun y => (metS f i).any (· == y)) (metS f i).length := hS.keep fun ob e => mv.heap D _ nDw e
    show wpAny _ A.in1 (holding [Value.str (f i) t] (setAdd D (.str (f i) t)) >>= _) _ _ s2
    refine wpAny_bind (wpAny_holding ?_)
    unfold setAdd
    refine wpAny_holding ?_
    have isk : (strKind prog w).is (f i) (.str (f i) t) = true := strKind_is _ _ _ _
    refine wpAny_bind ((strKind prog w).pyHash (k := f i) isk ?_)
    have room : (metS f i).length + 1 < scanBound := by have := metS_le f i; omega
    refine add_lay (knd := strKind prog w) (s := { s2 with toks := s2.toks + 1 }) isk rfl hS2 room fun h3 sb hS3 => ?_
    have hS4 : SetL (strKind prog w) (ledW w) h3 D (fun y => (metS f (i + 1)).any (· == y)) (metS f (i + 1)).length :=
      hS3.cong (fun y => by rw [metS_succ, dd_any]) (by rw [metS_succ, dd_len])
    refine wpAny_pure ⟨plainId_quiet F.plain_set_update_loop _, ih (i + 1) _ (by omega) lt (Wk.frame _ s2 _ _ st2 (Nat.le_succ _) fun b hb o e => ?_) hS4 fun s5 mv5 hS5 => ?_⟩
    · rw [sb.2 b fun z : b = D => nD (by rw [← z]; exact hb)]
      exact e
    · refine fin s5 (Moved.trans Wk.gtrans ((mv.mono sub).then_heap (Nat.le_succ _) fun b o hb e => ?_) mv5) hS5
      rw [sb.2 b fun z : b = D => hb (by rw [z]; exact List.mem_cons_self)]
      exact e
end
section
variable {prog : Program} {w : World} {A : Around} {E : Value → Shared → Prop} {s : Shared}
set_option maxRecDepth 100000 in
set_option maxHeartbeats 3200000 in
theorem call_set_strsT {l : Addr} {its : Array Value} {f : Nat → Str} {Q : Value → Shared → Prop} (hh : A.handled = none) (hl : s.heap.IsList l its) (hi : ∀ (i : Nat) (v : Value), its[i]? = some v → ∃ t, v = .str (f i) t) (hb : its.size + 1 < scanBound)
    (h : ∀ (h' : Heap) (tk : Nat), SetL (strKind prog w) (ledW w) h' s.heap.objs.size (fun y => (metS f its.size).any (· == y)) (metS f its.size).length →
      (∀ b o, b < s.heap.objs.size → s.heap.get? b = some o → h'.get? b = some o) → Q (.ref s.heap.objs.size) { s with heap := h', toks := tk }) :
    wpAny (model prog w) A (call (.type "set") [.ref l]) Q E s := by
  obtain ⟨c, tl, hmro⟩ := F.called_set.mro
  have hmade := F.called_set.made
  have hsub := F.called_set.sub
  refine wpAny_call (codeAny_of_tree ?_)
  show wpAny _ _ (callAny (.type "set") _) _ _ _
  refine wpAny_pure ⟨Code.quiet_builtin _ (by decide +kernel), codeAny_builtin F.entry_type_call ?_⟩
  rw [Around.under_plain (weight_type_call_type "set" [.ref l] []) rfl]
  have h1 := F.called_set.notType
  have h2 := F.called_set.canCreate
  have hct := F.typeCall_set_1 (.ref l)
  repeat (any_goals (first | assumption | wp_step))
  refine codeAny_mono (new_led (.ref l) (E := E) (Q := fun ob s1 => ob = .ref s.heap.objs.size ∧ s1 = { s with heap := s.heap.push (setOb (ledW w)) }) ⟨rfl, rfl⟩) fun r s1 hr => ?_
  cases r with
  | error e => exact hr
  | ok fl =>
    cases fl with
    | ret ob =>
      obtain ⟨rfl, rfl⟩ := hr
      have hS : (s.heap.push (setOb (ledW w))).get? s.heap.objs.size = some (setOb (ledW w)) := Heap.get?_push_size _ rfl
      have hT : Shared.TypeIs { s with heap := s.heap.push (setOb (ledW w)) } (.ref s.heap.objs.size) "set" := ⟨_, hS, rfl⟩
      have hli := F.called_set.init.lookup
      have hbi := F.called_set.init.bind (.ref s.heap.objs.size)
      repeat (any_goals (first | assumption | wp_step))
      refine codeAny_mono (codeAny_call_builtin (R := wants (fun r s2 => r = .none ∧ ∃ h' tk, s2 = { s with heap := h', toks := tk } ∧ SetL (strKind prog w) (ledW w) h' s.heap.objs.size (fun y => (metS f its.size).any (· == y)) (metS f its.size).length ∧
          (∀ b o, b < s.heap.objs.size → s.heap.get? b = some o → h'.get? b = some o)) E) F.called_set.init.plain F.entry_set_init (check_set_init_1 hT ?_)) fun r2 s2 hr2 => ?_
      · obtain ⟨⟨oc, od, oda, osl⟩, hol, hcl, nl, hdl⟩ := hl
        simp only at hcl hdl
        subst hcl; subst hdl
        have hol2 : (s.heap.push (setOb (ledW w))).get? l = some { cls := .type "list", dict := od, data := .seq its nl, slots := osl } := Heap.get?_push_of_some _ hol
        have hsls := F.sub_list_set
        have hslf := F.sub_list_frozenset
        have hne : (Value.type "list" == Value.type "dict") = false := by decide
        have hl1 : (s.heap.push (setOb (ledW w))).IsList l its := ⟨_, hol2, rfl, nl, rfl⟩
        unfold Builtin.«set.__init__» noKeywords Builtin.Frozenset.updateFrom
        generalize hPI : pyIter = PI
        wp_walk
        subst hPI
        refine wpAny_pyIter_list hl1 (wpAny_bind (wpAny_runValue ?_))
        have ltl : l < s.heap.objs.size := Heap.lt_size hol
        have hh3 : A.in1.in1.in1.handled = none := by simp [hh]
        have neI : l ≠ (s.heap.push (setOb (ledW w))).objs.size := by
          rw [Heap.size_push]
          exact Nat.ne_of_lt (Nat.lt_succ_of_lt ltl)
        have nSf : s.heap.objs.size ∉ [(s.heap.push (setOb (ledW w))).objs.size, l] := by
          rw [Heap.size_push]
          intro z
          rcases List.mem_cons.mp z with z | z
          · exact absurd z (Nat.ne_of_lt (Nat.lt_succ_self _))
          · exact absurd (List.mem_singleton.mp z) (Nat.ne_of_gt ltl)
        refine set_loopT ((Walks.list hh3 _ l neI its).toS) s.heap.objs.size nSf f hi hb (its.size - 0) 0 _ (by omega) (Nat.zero_le _) ⟨⟨_, Heap.get?_push_size _ rfl, rfl, rfl⟩, (hl1.push _)⟩ ?hS0 ?hR
        case hS0 =>
          have hg : ((s.heap.push (setOb (ledW w))).push { cls := .type "list_iterator", data := .fields #[.ref l, .int 0 0] }).get? s.heap.objs.size = some (setOb (ledW w)) := Heap.get?_push_of_some _ hS
          exact ⟨_, #[], 0, _, hg, ⟨rfl, rfl, rfl⟩, rfl, (fun e he => by simp at he), (fun y => by simp [metS]), by decide, rfl, rfl, ⟨List.Pairwise.nil, rfl, rfl⟩⟩
        case hR =>
          rintro ⟨h', g', d', tk', os'⟩ mv hS'
          obtain rfl : g' = s.gens := mv.gens
          obtain rfl : d' = s.drawn := mv.drawn
          obtain rfl : os' = s.os := mv.os
          show wpAny _ _ _ _ _ _
          refine wpAny_pure ?_
          show wpAny _ _ (ret Value.none) _ _ _
          refine wpAny_pure ⟨rfl, h', tk', rfl, hS', fun b o hb e => ?_⟩
          refine mv.heap b o (fun z => ?_) (Heap.get?_push_of_some _ (Heap.get?_push_of_some _ e))
          rcases List.mem_cons.mp z with z | z
          · exact absurd z (Nat.ne_of_lt hb)
          · have z' := List.mem_singleton.mp z
            rw [Heap.size_push] at z'
            exact absurd z' (Nat.ne_of_lt (Nat.lt_succ_of_lt hb))
      · cases r2 with
        | error e => exact hr2
        | ok fl2 =>
          cases fl2 with
          | ret r =>
            obtain ⟨rfl, h', tk, rfl, hS', hk'⟩ := hr2
            repeat (any_goals (first | assumption | wp_step))
            exact h _ _ hS' hk'
          | _ => exact hr2.elim
    | _ => exact hr.elim
end
end L2

namespace L2
open PySem PySem.Spec PyProof.Rows
/-! ### walking a set -/
theorem entry_setIter : entryFor table "set.__iter__" = some Builtin.«frozenset.__iter__» := entryFor_alias (id' := "frozenset.__iter__") (by kernel_rfl) rfl (by decide +kernel) (by kernel_rfl)
theorem slot_si : Slot "set_iterator" "__next__" "set_iterator.__next__" := .of (owner := "set_iterator") (n := "__next__") (by rw [typeLookup_type, builtinLookup_eq_fast]; kernel_rfl) (by decide +kernel) (by decide +kernel) (by decide +kernel) (by first | exact .inl (by decide +kernel) | exact .inr (by decide +kernel)) (by rw [isSubtype_type]; kernel_rfl)
theorem entry_si : entryFor table "set_iterator.__next__" = some Builtin.«set_iterator.__next__» := entryFor_of_tree (by kernel_rfl)
theorem owner_si : Manifest.owners.lookup (String.ofList ['r', 'o', 't', 'a', 'r', 'e', 't', 'i', '_', 't', 'e', 's'].reverse) = some Manifest.sig_set_iterator := by kernel_rfl
theorem args_si (a : Value) : argsOk "set_iterator.__next__" ⟨[a], []⟩ := by
  unfold argsOk; rw [signature?_of (id := "set_iterator.__next__") (n := ['_', '_', 't', 'x', 'e', 'n', '_', '_']) (o := ['r', 'o', 't', 'a', 'r', 'e', 't', 'i', '_', 't', 'e', 's']) (by kernel_rfl) owner_si]; kernel_rfl
/-- a set's iterator -/
abbrev itOb (f : Value) (i n ep : Nat) (D : Addr) : Obj := { cls := .type "set_iterator", data := .fields #[f, rawInt i, .ref D, rawInt n, rawInt ep] }
/-- a set's object with its elements -/
structure SAt (hp : Heap) (D : Addr) (es : Array (Int × Value)) (ep : Nat) (tb : SetTable) : Prop where
  ex : ∃ ob, hp.get? D = some ob ∧ ob.ExactSet ∧ ob.data = .set es ep tb
  fit : tb.fits es.size = true
section
variable {prog : Program} {w : World} {A : Around} {E : Value → Shared → Prop} {s : Shared} {It D : Addr} {es : Array (Int × Value)} {ep : Nat} {tb : SetTable}
theorem SAt.entries (x : SAt s.heap D es ep tb) {Q : Array (Int × Value) → Shared → Prop} (q : Q es s) : wpAny (model prog w) A (setEntries D) Q E s := by
  obtain ⟨ob, a, _, c⟩ := x.ex
  exact wpAny_setEntries_of a c x.fit q
theorem SAt.state (x : SAt s.heap D es ep tb) {Q : (Array (Int × Value) × Nat × SetTable) → Shared → Prop} (q : Q (es, ep, tb) s) : wpAny (model prog w) A (setState D) Q E s := by
  obtain ⟨ob, a, _, c⟩ := x.ex
  exact wpAny_setState_of a c x.fit q
theorem SAt.keep {hp hq : Heap} (x : SAt hp D es ep tb) (k : ∀ ob, hp.get? D = some ob → hq.get? D = some ob) : SAt hq D es ep tb := by
  obtain ⟨ob, a, b⟩ := x.ex
  exact ⟨⟨ob, k _ a, b⟩, x.fit⟩
/-- the next one, found by places -/
theorem next_item {sl sl' i : Nat} {v : Value} {Q : Option Value → Shared → Prop} (hit : s.heap.get? It = some (itOb (rawInt sl) i es.size ep D)) (hS : SAt s.heap D es ep tb)
    (hn : ∀ (B : Around) (E' : Value → Shared → Prop) (Q' : Option (Value × Nat) → Shared → Prop), Q' (some (v, sl')) s → wpAny (model prog w) B (setNext D sl i ep) Q' E' s)
    (q : ∀ hp, hp.get? It = some (itOb (rawInt sl') (i + 1) es.size ep D) → Heap.SameBut It s.heap hp → Q (some v) { s with heap := hp }) : wpAny (model prog w) A (pyNext (.ref It)) Q E s := by
  have hT : s.TypeIs (.ref It) "set_iterator" := ⟨_, hit, rfl⟩
  unfold pyNext
  refine wpAny_bind (wpAny_attempt (wpAny_callSpecial?_slot (name := Str.ofString "__next__") hT slot_si (wpAny_call_entry slot_si hT entry_si ?_ (args_si _))))
  unfold Builtin.«set_iterator.__next__» slotArgs
  simp only [List.isEmpty_nil, Bool.not_true, Bool.false_eq_true, ↓reduceIte, List.length_nil, bne_self_eq_false]
  refine wpAny_bind (wpAny_pure ?_)
  refine wpAny_bind (wpAny_fieldsOf hit rfl ?_)
  show wpAny _ _ (setEntries D >>= _) _ _ s
  refine wpAny_bind (hS.entries ?_)
  rw [if_neg (by simp)]
  refine wpAny_bind (hn _ _ _ ?_)
  show wpAny _ _ (setField (Value.ref It) 0 (rawInt sl') >>= _) _ _ s
  refine wpAny_bind (wpAny_setField hit rfl (by simp) ?_)
  have h2 : (s.heap.update It (Obj.mapFields (·.setIfInBounds 0 (rawInt sl')))).get? It = some (itOb (rawInt sl') i es.size ep D) := Heap.get?_update_self _ hit rfl
  refine wpAny_bind (wpAny_setField h2 rfl (by simp) ?_)
  have h3 := Heap.get?_update_self (Obj.mapFields (·.setIfInBounds 1 (rawInt ((i : Int) + 1)))) h2 rfl
  exact wpAny_pure ⟨_, rfl, wpAny_pure (q _ h3 ((Heap.SameBut.update ..).trans (Heap.SameBut.update ..)))⟩
theorem stop_end {vs : Array Value} {ob : Obj} {Q : Option Value → Shared → Prop} (hh : A.handled = none) (hit : s.heap.get? It = some ob) (hd : ob.data = .fields vs) (hz : 2 < vs.size)
    (q : ∀ hp, Heap.ExtBut It s.heap hp → Q none { s with heap := hp }) : wpAny (model prog w) A.in1 (setField (Value.ref It) 2 Value.none >>= fun _ => newExc (Value.type "StopIteration") [] >>= fun e => raiseNew (α := Fin) e) (fun fin s' => ∃ v, fin = Fin.done (Flow.ret v) ∧ wpAny (model prog w) A (pure (some v)) Q E s')
      (fun e s' => wpAny (model prog w) A (isInstance e (Value.type "StopIteration") >>= fun b => if b = true then pure none else throw e) Q E s') s := by
  refine wpAny_bind (wpAny_setField hit hd hz ?_)
  refine wpAny_bind ?_
  simp only [newExc, newTuple]
  refine wpAny_bind (wpAny_newObj_type ?_ (by size_fits))
  refine wpAny_bind (m := firstArgMember _ _) (wpAny_of_eq (a := Value.none) (by first | rfl | (simp only [firstArgMember]; rfl)) ?_)
  refine wpAny_newObj_type ?_ (by size_fits)
  simp only [raiseNew]
  refine wpAny_bind (wpAny_handled ?_)
  rw [show A.in1.handled = none from hh]
  refine wpAny_bind (wpAny_pure (wpAny_throw ?_))
  refine wpAny_bind (wpAny_isInstance (T := "StopIteration") (b := true) ⟨_, Heap.get?_push_size _ rfl, rfl⟩ isSubtype_stop ?_)
  exact wpAny_pure (q _ (((Heap.SameBut.update ..).extBut.push _).push _))
theorem next_end {sl i : Nat} {Q : Option Value → Shared → Prop} (hh : A.handled = none) (hit : s.heap.get? It = some (itOb (rawInt sl) i es.size ep D)) (hS : SAt s.heap D es ep tb)
    (hn : ∀ (B : Around) (E' : Value → Shared → Prop) (Q' : Option (Value × Nat) → Shared → Prop), Q' none s → wpAny (model prog w) B (setNext D sl i ep) Q' E' s)
    (q : ∀ hp, Heap.ExtBut It s.heap hp → Q none { s with heap := hp }) : wpAny (model prog w) A (pyNext (.ref It)) Q E s := by
  have hT : s.TypeIs (.ref It) "set_iterator" := ⟨_, hit, rfl⟩
  unfold pyNext
  refine wpAny_bind (wpAny_attempt (wpAny_callSpecial?_slot (name := Str.ofString "__next__") hT slot_si (wpAny_call_entry slot_si hT entry_si ?_ (args_si _))))
  unfold Builtin.«set_iterator.__next__» slotArgs
  simp only [List.isEmpty_nil, Bool.not_true, Bool.false_eq_true, ↓reduceIte, List.length_nil, bne_self_eq_false]
  refine wpAny_bind (wpAny_pure ?_)
  refine wpAny_bind (wpAny_fieldsOf hit rfl ?_)
  show wpAny _ _ (setEntries D >>= _) _ _ s
  refine wpAny_bind (hS.entries ?_)
  rw [if_neg (by simp)]
  refine wpAny_bind (hn _ _ _ ?_)
  exact stop_end hh hit rfl (by simp) q
/-- the next one of a drawn order -/
theorem next_drawn {T : Addr} {ps : Array Value} {i p : Nat} {t : Tok} {v : Value} {hv : Int} {Q : Option Value → Shared → Prop} (hit : s.heap.get? It = some (itOb (.ref T) i es.size ep D)) (hS : SAt s.heap D es ep tb) (hT' : s.heap.IsTuple T ps) (hp : ps[i]? = some (.int p t)) (hv : es[p]? = some (hv, v))
    (q : ∀ hp, hp.get? It = some (itOb (.ref T) (i + 1) es.size ep D) → Heap.SameBut It s.heap hp → Q (some v) { s with heap := hp }) : wpAny (model prog w) A (pyNext (.ref It)) Q E s := by
  have hT : s.TypeIs (.ref It) "set_iterator" := ⟨_, hit, rfl⟩
  obtain ⟨ot, et, ct, nn, dt⟩ := hT'
  unfold pyNext
  refine wpAny_bind (wpAny_attempt (wpAny_callSpecial?_slot (name := Str.ofString "__next__") hT slot_si (wpAny_call_entry slot_si hT entry_si ?_ (args_si _))))
  unfold Builtin.«set_iterator.__next__» slotArgs
  simp only [List.isEmpty_nil, Bool.not_true, Bool.false_eq_true, ↓reduceIte, List.length_nil, bne_self_eq_false]
  refine wpAny_bind (wpAny_pure ?_)
  refine wpAny_bind (wpAny_fieldsOf hit rfl ?_)
  show wpAny _ _ (setEntries D >>= _) _ _ s
  refine wpAny_bind (hS.entries ?_)
  rw [if_neg (by simp)]
  show wpAny _ _ (seqItems? (.ref T) >>= _) _ _ s
  refine wpAny_bind (wpAny_seqItems et dt ?_)
  show wpAny _ _ (match ps[i]? with | some (Value.int place tok) => _ | some val => _ | none => _) _ _ s
  rw [hp]
  show wpAny _ _ (setNextDrawn D p ep >>= _) _ _ s
  refine wpAny_bind ?_
  unfold setNextDrawn
  refine wpAny_bind (hS.state ?_)
  dsimp only
  rw [if_neg (by simp)]
  rw [hv]
  refine wpAny_pure ?_
  show wpAny _ _ (setField (Value.ref It) 1 (rawInt ((i : Int) + 1)) >>= _) _ _ s
  refine wpAny_bind (wpAny_setField hit rfl (by simp) ?_)
  have h3 := Heap.get?_update_self (Obj.mapFields (·.setIfInBounds 1 (rawInt ((i : Int) + 1)))) hit rfl
  exact wpAny_pure ⟨_, rfl, wpAny_pure (q _ h3 (Heap.SameBut.update ..))⟩
theorem end_drawn {T : Addr} {ps : Array Value} {i : Nat} {Q : Option Value → Shared → Prop} (hh : A.handled = none) (hit : s.heap.get? It = some (itOb (.ref T) i es.size ep D)) (hS : SAt s.heap D es ep tb) (hT' : s.heap.IsTuple T ps) (hp : ps[i]? = none)
    (q : ∀ hp, Heap.ExtBut It s.heap hp → Q none { s with heap := hp }) : wpAny (model prog w) A (pyNext (.ref It)) Q E s := by
  have hT : s.TypeIs (.ref It) "set_iterator" := ⟨_, hit, rfl⟩
  obtain ⟨ot, et, ct, nn, dt⟩ := hT'
  unfold pyNext
  refine wpAny_bind (wpAny_attempt (wpAny_callSpecial?_slot (name := Str.ofString "__next__") hT slot_si (wpAny_call_entry slot_si hT entry_si ?_ (args_si _))))
  unfold Builtin.«set_iterator.__next__» slotArgs
  simp only [List.isEmpty_nil, Bool.not_true, Bool.false_eq_true, ↓reduceIte, List.length_nil, bne_self_eq_false]
  refine wpAny_bind (wpAny_pure ?_)
  refine wpAny_bind (wpAny_fieldsOf hit rfl ?_)
  show wpAny _ _ (setEntries D >>= _) _ _ s
  refine wpAny_bind (hS.entries ?_)
  rw [if_neg (by simp)]
  show wpAny _ _ (seqItems? (.ref T) >>= _) _ _ s
  refine wpAny_bind (wpAny_seqItems et dt ?_)
  show wpAny _ _ (match ps[i]? with | some (Value.int place tok) => _ | some val => _ | none => _) _ _ s
  rw [hp]
  show wpAny _ _ (setField (Value.ref It) 0 (rawInt 0) >>= _) _ _ s
  refine wpAny_bind (wpAny_setField hit rfl (by simp) ?_)
  have h2 := Heap.get?_update_self (Obj.mapFields (·.setIfInBounds 0 (rawInt 0))) hit rfl
  exact stop_end hh h2 rfl (by simp) fun hp ex => q hp ((Heap.SameBut.update ..).extBut.trans ex)
theorem str_ofK {prog : Program} {w : World} {v : Value} {n : Str} (h : (strKind prog w).is n v = true) : ∃ t, v = .str n t := Value.isStrOf_shape h
theorem erase_perm {α : Type} : ∀ {l : List α} {i : Nat} (h : i < l.length), (l[i] :: l.eraseIdx i).Perm l
  | x :: l, 0, _ => List.Perm.refl _
  | x :: l, i + 1, h => (List.Perm.swap x _ _).trans (List.Perm.cons x (erase_perm (l := l) (i := i) (by simpa using h)))
/-- the order that a text tells -/
theorem pick_go {α : Type} (nx : Nat → Nat) : ∀ (fuel k : Nat) (left : List α) (out : Array α), left.length = fuel → (pickOrder.go nx fuel k left out).toList.Perm (out.toList ++ left)
  | 0, k, left, out, h => by
    rw [List.length_eq_zero_iff.mp h]
    unfold pickOrder.go
    simp
  | fuel + 1, k, left, out, h => by
    have hl : nx k % left.length < left.length := Nat.mod_lt _ (by omega)
    unfold pickOrder.go
    rw [List.getElem?_eq_getElem hl]
    dsimp only
    refine (pick_go nx fuel (k + 1) _ _ (by rw [List.length_eraseIdx, if_pos hl]; omega)).trans ?_
    rw [Array.toList_push, List.append_assoc]
    refine List.Perm.append_left _ ?_
    exact erase_perm hl
theorem choose_any {A : Around} {E : Value → Shared → Prop} {s : Shared} {src : Source} {n : Nat} {Q : Nat → Shared → Prop} (hn : n ≠ 0) (q : ∀ i dr, i < n → Q i { s with drawn := dr }) : wpAny (model prog w) A (choose src n) Q E s :=
  fun _ _ _ => ⟨hn, q _ _ (Nat.mod_lt _ (Nat.pos_of_ne_zero hn))⟩
theorem draw_any {α : Type} : ∀ (n : Nat) (xs : List α) {A : Around} {E : Value → Shared → Prop} {s : Shared} {Q : List α → Shared → Prop}, xs.length = n → (∀ ys dr, ys.Perm xs → Q ys { s with drawn := dr }) → wpAny (model prog w) A (drawOrder n xs) Q E s
  | 0, xs, A, E, s, Q, h, q => by
    have e := List.length_eq_zero_iff.mp h
    subst e
    unfold drawOrder
    exact wpAny_pure (q [] s.drawn (List.Perm.refl _))
  | n + 1, [], A, E, s, Q, h, q => by cases h
  | n + 1, x :: xs, A, E, s, Q, h, q => by
    unfold drawOrder
    refine wpAny_bind (choose_any (by simp) fun i dr hi => ?_)
    rw [List.getElem?_eq_getElem hi]
    dsimp only
    refine wpAny_bind (draw_any n _ (by rw [List.length_eraseIdx, if_pos hi]; omega) fun ys dr2 hp => ?_)
    exact wpAny_pure (q _ dr2 ((List.Perm.cons _ hp).trans (erase_perm hi)))
end
end L2

namespace L2
open PySem PySem.Spec PyProof.Rows
/-! ### a set's iterator: three ways of walking it -/
theorem slot_sii : Slot "set_iterator" "__iter__" "set_iterator.__iter__" := .of (owner := "set_iterator") (n := "__iter__") (by rw [typeLookup_type, builtinLookup_eq_fast]; kernel_rfl) (by decide +kernel) (by decide +kernel) (by decide +kernel) (by first | exact .inl (by decide +kernel) | exact .inr (by decide +kernel)) (by rw [isSubtype_type]; kernel_rfl)
theorem entry_sii : entryFor table "set_iterator.__iter__" = some Builtin.«dict_keyiterator.__iter__» := entryFor_alias (id' := "dict_keyiterator.__iter__") (by kernel_rfl) rfl (by decide +kernel) (by kernel_rfl)
theorem args_sii (a : Value) : argsOk "set_iterator.__iter__" ⟨[a], []⟩ := by
  unfold argsOk; rw [signature?_of (id := "set_iterator.__iter__") (n := ['_', '_', 'r', 'e', 't', 'i', '_', '_']) (o := ['r', 'o', 't', 'a', 'r', 'e', 't', 'i', '_', 't', 'e', 's']) (by kernel_rfl) owner_si]; kernel_rfl
section
variable {prog : Program} {w : World} {A : Around} {E : Value → Shared → Prop} {s : Shared} {It D : Addr} {es : Array (Int × Value)} {ep : Nat} {tb : SetTable}
theorem self_si {f : Value} {i n : Nat} {Q : Value → Shared → Prop} (hit : s.heap.get? It = some (itOb f i n ep D)) (q : Q (.ref It) s) : wpAny (model prog w) A (pyIter (.ref It)) Q E s := by
  have hT : s.TypeIs (.ref It) "set_iterator" := ⟨_, hit, rfl⟩
  refine wpAny_pyIter_slot hT slot_sii (wpAny_call_entry slot_sii hT entry_sii ?_ (args_sii _))
  show wpAny _ _ (ret (.ref It)) _ _ s
  exact wpAny_pure ⟨_, rfl, "set_iterator", _, hT, slot_si.lookup, q⟩
theorem pl_sub {b : Addr} (h : b ∈ [It]) : b ∈ [It, D] := by rw [List.mem_singleton.mp h]; exact List.mem_cons_self
/-- by places, or in the order that a text tells -/
theorem walk_places (hh : A.handled = none) (nD : It ≠ D) (sl : Nat → Nat) (vs : List Value) (hl : vs.length = es.size)
    (hn : ∀ (i : Nat) (v : Value) (s : Shared) (B : Around) (E' : Value → Shared → Prop) (Q' : Option (Value × Nat) → Shared → Prop), vs[i]? = some v → SAt s.heap D es ep tb → Q' (some (v, sl (i + 1))) s → wpAny (model prog w) B (setNext D (sl i) i ep) Q' E' s)
    (he : ∀ (s : Shared) (B : Around) (E' : Value → Shared → Prop) (Q' : Option (Value × Nat) → Shared → Prop), SAt s.heap D es ep tb → Q' none s → wpAny (model prog w) B (setNext D (sl es.size) es.size ep) Q' E' s) :
    Walks prog w A It [It, D] [It] es.size (fun i v => vs[i]? = some v) (fun i h => h.get? It = some (itOb (rawInt (sl i)) i es.size ep D) ∧ SAt h D es ep tb) where
  sub := fun b hb => pl_sub hb
  frame := fun i h h' ⟨a, b⟩ k => ⟨k It List.mem_cons_self _ a, b.keep fun ob e => k D (by simp) _ e⟩
  item := fun i s Q E hi ⟨a, b⟩ q => by
    have hi' : i < vs.length := by omega
    have hv := List.getElem?_eq_getElem hi'
    refine next_item (v := vs[i]) a b (fun B E' Q' q' => hn i _ s B E' Q' hv b q') fun hp h1 sb => ?_
    have := q vs[i] hp s.toks hv ⟨h1, b.keep fun ob e => (sb.2 D (Ne.symm nD)).trans e⟩ fun x o hx e => (sb.2 x (fun z => hx (by rw [z]; exact List.mem_cons_self))).trans e
    exact this
  done := fun s Q E ⟨a, b⟩ q => next_end hh a b (fun B E' Q' q' => he s B E' Q' b q') fun hp ex => q hp s.toks fun x o hx e => ex x o (fun z => hx (by rw [z]; exact List.mem_cons_self)) e
  self := fun i s Q E ⟨a, _⟩ q => self_si a q
/-- in an order that was drawn -/
theorem walk_drawn (hh : A.handled = none) (nD : It ≠ D) {T : Addr} (nT : It ≠ T) (ps : List Nat) (vs : List Value) (hl : vs.length = es.size) (hv : ∀ (i : Nat) (v : Value), vs[i]? = some v → ∃ (p : Nat) (x : Int), ps[i]? = some p ∧ es[p]? = some (x, v)) (hp : ps.length = es.size) :
    Walks prog w A It [It, D, T] [It] es.size (fun i v => vs[i]? = some v) (fun i h => h.get? It = some (itOb (.ref T) i es.size ep D) ∧ SAt h D es ep tb ∧ h.IsTuple T (ps.map fun p : Nat => rawInt (p : Int)).toArray) where
  sub := fun b hb => by rw [List.mem_singleton.mp hb]; exact List.mem_cons_self
  frame := fun i h h' ⟨a, b, c⟩ k => ⟨k It List.mem_cons_self _ a, b.keep fun ob e => k D (by simp) _ e, let ⟨o, e, x⟩ := c; ⟨o, k T (by simp) _ e, x⟩⟩
  item := fun i s Q E hi ⟨a, b, c⟩ q => by
    have hi' : i < vs.length := by omega
    have hvi := List.getElem?_eq_getElem hi'
    obtain ⟨p, x, h1, h2⟩ := hv i _ hvi
    refine next_drawn (v := vs[i]) (hv := x) (t := 0) a b c (by simp [h1, rawInt]) h2 fun hp h3 sb => ?_
    exact q vs[i] hp s.toks hvi ⟨h3, b.keep fun ob e => (sb.2 D (Ne.symm nD)).trans e, let ⟨o, e, x⟩ := c; ⟨o, (sb.2 T (Ne.symm nT)).trans e, x⟩⟩ fun x o hx e => (sb.2 x (fun z => hx (by rw [z]; exact List.mem_cons_self))).trans e
  done := fun s Q E ⟨a, b, c⟩ q => end_drawn hh a b c (by simp [hp]) fun hp ex => q hp s.toks fun x o hx e => ex x o (fun z => hx (by rw [z]; exact List.mem_cons_self)) e
  self := fun i s Q E ⟨a, _⟩ q => self_si a q
/-- what a walk through a set's ints is told by -/
structure SWalk (prog : Program) (w : World) (A : Around) (h0 hp : Heap) (D It : Addr) (ks : List Str) : Prop where
  walk : ∃ (fp : List Addr) (St : Nat → Heap → Prop), Walks prog w A It fp [It] ks.length (fun i v => ∃ t, v = .str (ks.getD i default) t) St ∧ St 0 hp ∧ ∀ b ∈ fp, b = D ∨ h0.objs.size ≤ b
  keep : ∀ b o, h0.get? b = some o → hp.get? b = some o
  new : h0.objs.size ≤ It
theorem Walks.weaker {fp wr : List Addr} {n : Nat} {P P' : Nat → Value → Prop} {St : Nat → Heap → Prop} (W : Walks prog w A It fp wr n P St) (h : ∀ i v, P i v → P' i v) : Walks prog w A It fp wr n P' St where
  sub := W.sub
  frame := W.frame
  item := fun i s Q E hi st q => W.item i s Q E hi st fun v h' tk pv => q v h' tk (h i v pv)
  done := W.done
  self := W.self
theorem strsk_of {M : Str → Bool} {vs : List Value} (x4 : ElemsOf (strKind prog w) es.toList) (x5 : ∀ y, M y = true ↔ ∃ e ∈ es.toList, (strKind prog w).is y e.2 = true) (hp : vs.Perm (es.toList.map (·.2))) : ∃ ks : List Str, ks.length = vs.length ∧ (∀ (i : Nat) (v : Value), vs[i]? = some v → ∃ t, v = .str (ks.getD i default) t) ∧ ∀ y, M y = true ↔ y ∈ ks := by
  have h1 : ∀ v ∈ vs, ∃ n t, v = Value.str n t := fun v hv => by
    obtain ⟨e, he, rfl⟩ := List.mem_map.mp (hp.mem_iff.mp hv)
    obtain ⟨⟨k, hk, _⟩, _⟩ := x4 e he
    obtain ⟨t, ht⟩ := str_ofK hk
    exact ⟨k, t, ht⟩
  have h2 : ∀ l : List Value, (∀ v ∈ l, ∃ n t, v = Value.str n t) → ∃ ks : List Str, ks.length = l.length ∧ ∀ (i : Nat) (v : Value), l[i]? = some v → ∃ t, v = .str (ks.getD i default) t := fun l => by
    induction l with
    | nil => exact fun _ => ⟨[], rfl, fun i v h => by cases h⟩
    | cons x l ih =>
      intro hl
      obtain ⟨ks, a, b⟩ := ih fun v hv => hl v (List.mem_cons_of_mem _ hv)
      obtain ⟨n, t, e⟩ := hl x List.mem_cons_self
      refine ⟨n :: ks, by simp [a], fun i v h => ?_⟩
      cases i with
      | zero => simp at h; subst h; exact ⟨t, e⟩
      | succ i => simpa using b i v (by simpa using h)
  obtain ⟨ks, a, b⟩ := h2 vs h1
  refine ⟨ks, a, b, fun y => ?_⟩
  rw [x5 y]
  constructor
  · rintro ⟨e, he, hy⟩
    obtain ⟨t, ht⟩ := str_ofK hy
    have hm : e.2 ∈ vs := hp.mem_iff.mpr (List.mem_map.mpr ⟨e, he, rfl⟩)
    obtain ⟨i, hi, ei⟩ := List.getElem_of_mem hm
    obtain ⟨t', e'⟩ := b i _ (List.getElem?_eq_getElem hi)
    rw [ei, ht] at e'
    have ek : y = ks.getD i default := by injection e'
    rw [ek, List.getD_eq_getElem?_getD, List.getElem?_eq_getElem (show i < ks.length by omega)]
    exact List.getElem_mem _
  · intro hy
    obtain ⟨i, hi, ei⟩ := List.getElem_of_mem hy
    have hi' : i < vs.length := by omega
    obtain ⟨t, e'⟩ := b i _ (List.getElem?_eq_getElem hi')
    obtain ⟨e, he, ee⟩ := List.mem_map.mp (hp.mem_iff.mp (List.getElem_mem hi'))
    refine ⟨e, he, ?_⟩
    rw [ee, e', List.getD_eq_getElem?_getD, List.getElem?_eq_getElem hi]
    show (strKind prog w).is y (.str ks[i] t) = true
    rw [ei]; exact strKind_is _ _ _ _
theorem SWalk.of {h0 hp : Heap} {fp : List Addr} {m : Nat} {vs : List Value} {St : Nat → Heap → Prop} {ks : List Str} (W : Walks prog w A It fp [It] m (fun i v => vs[i]? = some v) St) (hm : ks.length = m) (k2 : ∀ (i : Nat) (v : Value), vs[i]? = some v → ∃ t, v = .str (ks.getD i default) t) (st : St 0 hp) (lt : ∀ b ∈ fp, b = D ∨ h0.objs.size ≤ b) (kp : ∀ b o, h0.get? b = some o → hp.get? b = some o) (nw : h0.objs.size ≤ It) : SWalk prog w A h0 hp D It ks :=
  ⟨⟨fp, St, by rw [hm]; exact Walks.weaker W k2, st, lt⟩, kp, nw⟩
/-- the iterator laid -/
theorem it_end {f : Value} {Q : Value → Shared → Prop} (sa : SAt s.heap D es ep tb) (q : Q (.ref s.heap.objs.size) { s with heap := s.heap.push (itOb f 0 es.size ep D) }) :
    wpAny (model prog w) A (setEpoch D >>= fun e => newFields "set_iterator" [f, rawInt 0, Value.ref D, rawInt ↑es.size, rawInt ↑e] >>= fun v => ret v) (fun fin s' => ∃ v, fin = Fin.done (Flow.ret v) ∧ ∃ T' r, s'.TypeIs v T' ∧ typeLookup (Value.type T') (Str.ofString "__next__") = pure (some r) ∧ Q v s') E s := by
  obtain ⟨ob, a, _, c⟩ := sa.ex
  refine wpAny_bind (wpAny_setEpoch_of a c sa.fit ?_)
  refine wpAny_bind (wpAny_newObj_type (wpAny_pure ⟨_, rfl, "set_iterator", _, ⟨_, Heap.get?_push_size _ rfl, rfl⟩, slot_si.lookup, ?_⟩))
  exact q
theorem next_text {nx : Nat → Nat} {sl i : Nat} {v : Option (Value × Nat)} (hb : w.params.followText "set-order" = true) (hx : w.params.setOrder D ep = nx) (hv : ((pickOrder nx es)[i]?).map (fun e => (e.2, sl)) = v) (sa : SAt s.heap D es ep tb) {Q : Option (Value × Nat) → Shared → Prop} (q : Q v s) : wpAny (model prog w) A (setNext D sl i ep) Q E s := by
  unfold setNext
  refine wpAny_bind (sa.state ?_)
  dsimp only
  unfold setsByText
  refine wpAny_bind (wpAny_bind (wpAny_askSetting (wpAny_pure ?_)))
  have hb' : (model prog w).w.params.followText "set-order" = true := hb
  dsimp only
  rw [hb', if_pos rfl]
  rw [if_neg (by simp)]
  refine wpAny_bind ?_
  unfold setWalk setsByText
  refine wpAny_bind (sa.state ?_)
  dsimp only
  refine wpAny_bind (wpAny_bind (wpAny_askSetting (wpAny_pure ?_)))
  dsimp only
  rw [hb', if_pos rfl]
  refine wpAny_bind (wpAny_askSetting ?_)
  refine wpAny_pure ?_
  have hx' : (model prog w).w.params.setOrder D ep = nx := hx
  dsimp only
  rw [hx', hv]
  exact wpAny_pure q
theorem next_place {sl i : Nat} {v : Option (Value × Nat)} (hb : w.params.followText "set-order" = false) (hp : (!tb.plain && decide (es.size > 1)) = false) (hl : tb.led = true) (hv : (∃ h x j, es[SetTable.below tb.place sl]? = some (h, x) ∧ tb.place[SetTable.below tb.place sl]? = some j ∧ v = some (x, j + 1)) ∨ (es[SetTable.below tb.place sl]? = none ∧ v = none)) (sa : SAt s.heap D es ep tb) {Q : Option (Value × Nat) → Shared → Prop} (q : Q v s) : wpAny (model prog w) A (setNext D sl i ep) Q E s := by
  unfold setNext
  refine wpAny_bind (sa.state ?_)
  dsimp only
  unfold setsByText
  refine wpAny_bind (wpAny_bind (wpAny_askSetting (wpAny_pure ?_)))
  have hb' : (model prog w).w.params.followText "set-order" = false := hb
  dsimp only
  rw [hb', if_neg Bool.false_ne_true]
  refine wpAny_ite_split (fun h => absurd (show (!tb.plain && decide (es.size > 1)) = true from h) (by rw [hp]; exact Bool.false_ne_true)) (fun _ => ?_)
  refine wpAny_bind ?_
  show wpAny _ _ (if (!tb.led && !es.isEmpty) = true then _ else _) _ _ _
  rw [hl]
  simp only [Bool.not_true, Bool.false_and, Bool.false_eq_true, ↓reduceIte]
  refine wpAny_pure ?_
  rcases hv with ⟨h, x, j, e1, e2, rfl⟩ | ⟨e1, rfl⟩
  · rw [e1, e2]; exact wpAny_pure q
  · rw [e1]; exact wpAny_pure q
/-- pyIter of a set of ints -/
theorem iter_set {M : Str → Bool} {n : Nat} {Q : Value → Shared → Prop} (hh : A.handled = none) (hS : SetL (strKind prog w) (ledW w) s.heap D M n)
    (q : ∀ (It : Addr) (hp : Heap) (dr : Drawn) (ks : List Str), ks.length = n → (∀ y, M y = true ↔ y ∈ ks) → SWalk prog w A s.heap hp D It ks → Q (.ref It) { s with heap := hp, drawn := dr }) : wpAny (model prog w) A (pyIter (.ref D)) Q E s := by
  obtain ⟨ob, es, ep, tb, x1, x2, x3, x4, x5, x6, x7, x8, x9⟩ := hS
  have sa : SAt s.heap D es ep tb := ⟨⟨ob, x1, x2, x3⟩, x7⟩
  have hT : s.TypeIs (.ref D) "set" := ⟨ob, x1, x2.1⟩
  have ltD : D < s.heap.objs.size := Heap.lt_size x1
  refine wpAny_pyIter_slot hT F.slot_set_iter (wpAny_call_entry F.slot_set_iter hT entry_setIter ?_ (F.args_set_iter_1 _))
  unfold Builtin.«frozenset.__iter__» Builtin.Frozenset.slot0 slotArgs
  simp only [List.isEmpty_nil, Bool.not_true, Bool.false_eq_true, ↓reduceIte, bind_assoc, List.length_nil, bne_self_eq_false]
  unfold Builtin.Frozenset.addrOf Builtin.Frozenset.sizeOf
  refine wpAny_bind (wpAny_pure ?_)
  dsimp only
  refine wpAny_bind (wpAny_pure ?_)
  refine wpAny_bind (wpAny_bind (sa.entries (wpAny_pure ?_)))
  unfold setDrawn setsByText
  refine wpAny_bind (wpAny_bind (sa.state ?_))
  dsimp only
  refine wpAny_bind (wpAny_bind (wpAny_askSetting (wpAny_pure ?_)))
  refine wpAny_pure ?_
  dsimp only
  have n0 : s.heap.objs.size ≠ D := Nat.ne_of_gt ltD
  have ltp : ∀ {b : Addr}, b ∈ [s.heap.objs.size, D] → b = D ∨ s.heap.objs.size ≤ b := fun {b} hb => by
    rcases List.mem_cons.mp hb with rfl | hb
    · exact .inr (Nat.le_refl _)
    · exact .inl (List.mem_singleton.mp hb)
  cases hbt : (model prog w).w.params.followText "set-order" with
  | true =>
    simp only [Bool.not_true, Bool.false_and, Bool.false_eq_true, ↓reduceIte]
    refine wpAny_bind (wpAny_pure ?_)
    refine it_end sa ?_
    have pm : ((pickOrder (w.params.setOrder D ep) es).toList).Perm es.toList := by
      have := pick_go (w.params.setOrder D ep) es.size 0 es.toList #[] (by simp)
      show (pickOrder.go (w.params.setOrder D ep) es.size 0 es.toList #[]).toList.Perm es.toList
      simpa using this
    obtain ⟨ks, k1, k2, k3⟩ := strsk_of x4 x5 (pm.map (·.2))
    have lv : ((pickOrder (w.params.setOrder D ep) es).toList.map (·.2)).length = es.size := by rw [List.length_map, pm.length_eq]; simp
    have W := walk_places (prog := prog) (w := w) (A := A) (It := s.heap.objs.size) (D := D) (es := es) (ep := ep) (tb := tb) hh n0 (fun _ => 0) _ lv
      (fun i v s' B E' Q' hv hs q' => next_text (nx := w.params.setOrder D ep) hbt rfl (by
        rw [List.getElem?_map] at hv
        obtain ⟨e, e1, rfl⟩ := Option.map_eq_some_iff.mp hv
        rw [← Array.getElem?_toList, e1]; rfl) hs q')
      (fun s' B E' Q' hs q' => next_text (nx := w.params.setOrder D ep) hbt rfl (by
        have hz : (pickOrder (w.params.setOrder D ep) es).toList.length = es.size := by rw [pm.length_eq]; simp
        rw [← Array.getElem?_toList, List.getElem?_eq_none (by omega)]; rfl) hs q')
    refine q _ _ s.drawn ks (by rw [k1, lv, x8]) k3 (SWalk.of W (k1.trans lv) k2 ⟨Heap.get?_push_size _ rfl, sa.keep fun ob e => Heap.get?_push_of_some _ e⟩ (fun b hb => ltp hb) (fun b o e => Heap.get?_push_of_some _ e) (Nat.le_refl _))
  | false =>
    have hld : tb.led = true := by
      rw [x9.led]; unfold ledW
      have : w.params.followText "set-order" = false := hbt
      rw [this]; rfl
    simp only [Bool.not_false, Bool.true_and]
    cases hdr : (!tb.plain && decide (es.size > 1)) with
    | true =>
      refine wpAny_ite_split (fun _ => ?_) (fun h => absurd (show (!tb.plain && decide (es.size > 1)) = true from hdr) h)
      refine wpAny_bind (draw_any es.size _ List.length_range fun ys dr hp => ?_)
      have hpl : ys.length = es.size := by rw [hp.length_eq]; exact List.length_range
      refine wpAny_bind (wpAny_newObj_type ?_ (by show (List.map (fun i : Nat => rawInt (i : Int)) ys).toArray.size ≤ sizeLine; rw [List.size_toArray, List.length_map, hpl]; exact fits_of_scanBound x6))
      have sa' : SAt (s.heap.push { cls := .type "tuple", data := .seq (ys.map fun i : Nat => rawInt (i : Int)).toArray }) D es ep tb := sa.keep fun ob e => Heap.get?_push_of_some _ e
      refine it_end sa' ?_
      have hlt : ∀ p ∈ ys, p < es.size := fun p h => List.mem_range.mp (hp.mem_iff.mp h)
      have vp : (ys.map fun p => (es.getD p (0, .none)).2).Perm (es.toList.map (·.2)) := by
        have e1 : es.toList.map (·.2) = (List.range es.size).map fun p => (es.getD p (0, .none)).2 := by
          refine List.ext_getElem (by simp) fun i h1 h2 => ?_
          simp at h1
          simp [h1]
        rw [e1]
        exact hp.map _
      obtain ⟨ks, k1, k2, k3⟩ := strsk_of x4 x5 vp
      have lv : (ys.map fun p => (es.getD p (0, .none)).2).length = es.size := by rw [List.length_map, hpl]
      have W := walk_drawn (prog := prog) (w := w) (A := A) (It := (s.heap.push { cls := .type "tuple", data := .seq (ys.map fun i : Nat => rawInt (i : Int)).toArray }).objs.size) (D := D) (T := s.heap.objs.size) (es := es) (ep := ep) (tb := tb) hh (by rw [Heap.size_push]; exact Nat.ne_of_gt (Nat.lt_succ_of_lt ltD)) (by rw [Heap.size_push]; exact Nat.succ_ne_self _) ys _ lv (fun i v hv => by
        rw [List.getElem?_map] at hv
        obtain ⟨p, e1, rfl⟩ := Option.map_eq_some_iff.mp hv
        have hp' := hlt p (List.mem_of_getElem? e1)
        refine ⟨p, (es.getD p (0, .none)).1, e1, ?_⟩
        simp [hp']) hpl
      refine q _ _ dr ks (by rw [k1, lv, x8]) k3 (SWalk.of W (k1.trans lv) k2 ⟨Heap.get?_push_size _ rfl, sa'.keep fun ob e => Heap.get?_push_of_some _ e, ⟨_, Heap.get?_push_of_some _ (Heap.get?_push_size _ rfl), rfl, _, rfl⟩⟩ (fun b hb => ?_) (fun b o e => Heap.get?_push_of_some _ (Heap.get?_push_of_some _ e)) (by rw [Heap.size_push]; exact Nat.le_succ _))
      rcases List.mem_cons.mp hb with rfl | hb
      · rw [Heap.size_push]; exact .inr (Nat.le_succ _)
      · rcases List.mem_cons.mp hb with rfl | hb
        · exact .inl rfl
        · rw [List.mem_singleton.mp hb]; exact .inr (Nat.le_refl _)
    | false =>
      refine wpAny_ite_split (fun h => absurd (show (!tb.plain && decide (es.size > 1)) = true from h) (by rw [hdr]; exact Bool.false_ne_true)) (fun _ => ?_)
      refine wpAny_bind (wpAny_pure ?_)
      refine it_end sa ?_
      obtain ⟨ks, k1, k2, k3⟩ := strsk_of x4 x5 (List.Perm.refl _)
      have lv : (es.toList.map (·.2)).length = es.size := by simp
      have lp : tb.place.size = es.size := by
        have := x7
        unfold SetTable.fits at this
        simp at this
        exact this.1
      have bel : ∀ i, i ≤ tb.place.size → SetTable.below tb.place (if i = 0 then 0 else tb.place.getD (i - 1) 0 + 1) = i := fun i hi => by
        cases i with
        | zero => exact below_zero x9.ris
        | succ i =>
          have hi' : i < tb.place.size := hi
          simp only [Nat.add_eq_zero_iff, Nat.one_ne_zero, and_false, ↓reduceIte, Nat.add_sub_cancel]
          refine below_next x9.ris ?_
          rw [Array.getD_eq_getD_getElem?, Array.getElem?_eq_getElem hi']; rfl
      have W := walk_places (prog := prog) (w := w) (A := A) (It := s.heap.objs.size) (D := D) (es := es) (ep := ep) (tb := tb) hh n0 (fun i => if i = 0 then 0 else tb.place.getD (i - 1) 0 + 1) _ lv
        (fun i v s' B E' Q' hv hs q' => next_place hbt hdr hld (.inl (by
          rw [List.getElem?_map] at hv
          obtain ⟨⟨h, x⟩, e1, rfl⟩ := Option.map_eq_some_iff.mp hv
          rw [Array.getElem?_toList] at e1
          have hi : i < tb.place.size := by rw [lp]; exact (Array.getElem?_eq_some_iff.mp e1).1
          have hb := bel i (Nat.le_of_lt hi)
          refine ⟨h, x, tb.place.getD i 0, by rw [hb]; exact e1, ?_, by simp⟩
          rw [hb, Array.getD_eq_getD_getElem?, Array.getElem?_eq_getElem hi]; rfl)) hs q')
        (fun s' B E' Q' hs q' => next_place hbt hdr hld (.inr ⟨by
          rw [bel es.size (Nat.le_of_eq lp.symm)]; simp, rfl⟩) hs q')
      refine q _ _ s.drawn ks (by rw [k1, lv, x8]) k3 (SWalk.of W (k1.trans lv) k2 ⟨Heap.get?_push_size _ rfl, sa.keep fun ob e => Heap.get?_push_of_some _ e⟩ (fun b hb => ltp hb) (fun b o e => Heap.get?_push_of_some _ e) (Nat.le_refl _))
end
end L2

namespace L2
open PySem PySem.Spec PyProof.Rows
/-! ### sorted(set of ints) -/
section
variable {prog : Program} {w : World} {A : Around} {E : Value → Shared → Prop} {s : Shared} {D : Addr}
theorem hint_set (hT : s.TypeIs (.ref D) "set") {Q : Bool → Shared → Prop} (q : ∀ b, Q b s) : wpAny (model prog w) A (Builtin.List.listLengthHint (.ref D)) Q E s := by
  unfold Builtin.List.listLengthHint
  refine wpAny_bind (wpAny_specialOf hT F.slot_set_len.lookup ?_)
  generalize hid : ("set.__len__" : String) = i0
  wp_delta
  rw [show splitId i0 = some ("set", "__len__") by subst hid; decide +kernel]
  subst hid
  refine wpAny_bind (wpAny_isInstance (T := "set") (b := true) hT (by rw [isSubtype_type]; kernel_rfl) (wpAny_ite_split (fun h => absurd h (by decide)) fun _ => ?_))
  refine wpAny_ite_split (fun _ => wpAny_bind (wpAny_typeOf hT (wpAny_pure (q _)))) fun h => absurd (by decide +kernel) h
/-- all of a walk's ints laid behind one another -/
theorem ext_set {M : Str → Bool} {n : Nat} {R : Result → Shared → Prop} (hh : A.handled = none) (hS : SetL (strKind prog w) (ledW w) s.heap D M n) {S : Addr} (nS : S ≠ D) (res : Value) (e0 : s.heap.get? S = some { cls := .type "list", data := .seq #[] }) (hn : n ≤ sizeLine)
    (q : ∀ h' dr tk acc c (ks : List Str), (∀ b o, b ≠ S → s.heap.get? b = some o → h'.get? b = some o) → h'.get? S = some { cls := .type "list", dict := none, data := .seq acc c, slots := #[] } → ItemsOf (fun i v => ∃ t, v = .str (ks.getD i default) t) acc ks.length → ks.length = n → (∀ y, M y = true ↔ y ∈ ks) → R (.ok (.ret res)) { s with heap := h', drawn := dr, toks := tk }) :
    wpAny (model prog w) A.in1 (Builtin.List.listExtendWith (.ref S) (.ref D) res)
      (fun fin s' => match fin with | .done f => R (.ok f) s' | .again c' => c'.quiet = true ∧ codeAny (model prog w) A c' R s') (fun e s' => R (.error e) s') s := by
  have hT : s.TypeIs (.ref D) "set" := by obtain ⟨ob, _, _, _, a, b, _⟩ := hS; exact ⟨ob, a, b.1⟩
  have ltS : S < s.heap.objs.size := Heap.lt_size e0
  unfold Builtin.List.listExtendWith
  refine wpAny_bind (wpAny_typeOf hT ?_)
  rw [if_neg (by simp [Builtin.List.listSameRef, nS])]
  refine wpAny_bind (iter_set (A := A.in1) hh hS fun It hp dr ks h1 h2 sw => ?_)
  obtain ⟨⟨fp, St, W, st, far⟩, kp, nw⟩ := sw
  have eS := kp _ _ e0
  have nf : S ∉ fp := fun z => (far S z).elim nS fun y => absurd ltS (Nat.not_lt_of_le y)
  have key : ∀ (h : Heap) (c₁ : Nat), St 0 h → (∀ b o, b ≠ S → s.heap.get? b = some o → h.get? b = some o) → h.get? S = some { cls := .type "list", data := .seq #[] c₁ } →
      codeAny (model prog w) A (.builtin "list.extend.loop" ⟨[.ref S, .ref It, res], []⟩) R { s with heap := h, drawn := dr } := fun h c₁ hst hk hs => by
    refine codeAny_extend_loopS W.toS (by rw [h1]; exact hn) S nf res ks.length 0 _ #[] c₁ rfl (Nat.zero_le _) hst hs (ItemsOf.nil _) fun s' acc c hm e1 hacc => ?_
    rw [Moved.eq_with hm]
    refine q s'.heap dr s'.toks acc c ks (fun b o nb e => hm.heap b o (fun z => ?_) (hk b o nb e)) e1 hacc h1 h2
    rcases List.mem_cons.mp z with y | y
    · exact nb y
    · have := Heap.lt_size e
      rw [List.mem_singleton.mp y] at this
      exact absurd this (Nat.not_lt_of_le nw)
  have quiet : (Code.builtin "list.extend.loop" ⟨[.ref S, .ref It, res], []⟩).quiet = true := plainId_quiet F.plain_extend_loop _
  refine wpAny_bind (wpAny_holding (hint_set (s := { s with heap := hp, drawn := dr }) (by obtain ⟨ob, a, b⟩ := hT; exact ⟨ob, kp _ _ a, b⟩) fun b => ?_))
  refine wpAny_ite_split (fun _ => ?_) fun _ => wpAny_pure ⟨quiet, key _ 0 st (fun b o _ e => kp b o e) eS⟩
  refine wpAny_bind (wpAny_rule (wpAny_bind ?_))
  show wpAny _ _ (updateSeq S (·.push .none) >>= fun _ => updateSeq S (·.pop)) _ _ _
  refine wpAny_bind (wpAny_updateSeq eS rfl ?_)
  have g1 := Heap.get?_update_self (Obj.mapSeq (·.push Value.none)) eS rfl
  refine wpAny_updateSeq (hz := by seq_fits) g1 rfl ?_
  have g2 := Heap.get?_update_self (Obj.mapSeq (·.pop)) g1 rfl
  have oth : ∀ b, b ≠ S → ((hp.update S (Obj.mapSeq (·.push Value.none))).update S (Obj.mapSeq (·.pop))).get? b = hp.get? b := fun b hb => (Heap.get?_update_other _ _ (Ne.symm hb)).trans (Heap.get?_update_other _ _ (Ne.symm hb))
  exact wpAny_pure ⟨quiet, key _ _ (W.frame 0 _ _ st fun b hb o e => (oth b fun z => nf (z ▸ hb)).trans e) (fun b o hb e => (oth b hb).trans (kp b o e)) g2⟩
theorem coll_set {M : Str → Bool} {n : Nat} {Q : List Value → Shared → Prop} (hh : A.handled = none) (hS : SetL (strKind prog w) (ledW w) s.heap D M n) (hn : n ≤ sizeLine)
    (q : ∀ h' dr tk acc (ks : List Str), (∀ b o, s.heap.get? b = some o → h'.get? b = some o) → StrsAre acc ks → ks.length = n → (∀ y, M y = true ↔ y ∈ ks) → Q acc { s with heap := h', drawn := dr, toks := tk }) : wpAny (model prog w) A (collect (.ref D)) Q E s := by
  have ltD : D < s.heap.objs.size := by obtain ⟨ob, _, _, _, a, _⟩ := hS; exact Heap.lt_size a
  unfold collect
  refine wpAny_bind (wpAny_runValue (codeAny_builtin entry_proto_collect' ?_))
  rw [Around.under_plainId F.plain_proto_collect _]
  show wpAny _ A.in1 (newList [] >>= fun l => again (.builtin "list.__iadd__" ⟨[l, .ref D], []⟩)) _ _ s
  refine wpAny_bind (wpAny_newObj_type (wpAny_pure ⟨plainId_quiet F.plain_list_iadd _, codeAny_builtin entry_list_iadd' ?_⟩))
  rw [Around.under_plainId F.plain_list_iadd _]
  show wpAny _ A.in1 (Builtin.List.listExtendWith (.ref s.heap.objs.size) (.ref D) (.ref s.heap.objs.size)) _ _ _
  refine wpAny_mono (ext_set (A := A) (s := { s with heap := s.heap.push { cls := .type "list", data := .seq ([] : List Value).toArray } }) (S := s.heap.objs.size)
    (R := fun r s' => ∃ h' dr tk acc c, ∃ ks : List Str, r = .ok (.ret (.ref s.heap.objs.size)) ∧ s' = { s with heap := h', drawn := dr, toks := tk } ∧ (∀ b o, s.heap.get? b = some o → h'.get? b = some o) ∧ h'.get? s.heap.objs.size = some { cls := .type "list", dict := none, data := .seq acc c, slots := #[] } ∧ StrsAre acc.toList ks ∧ ks.length = n ∧ ∀ y, M y = true ↔ y ∈ ks)
    hh (hS.keep fun ob e => Heap.get?_push_of_some _ e) (Nat.ne_of_gt ltD) _ (Heap.get?_push_size _ rfl) hn fun h' dr tk acc c ks a1 a2 a3 a4 a5 => ⟨h', dr, tk, acc, c, ks, rfl, rfl, fun b o e => a1 b o (Nat.ne_of_lt (Heap.lt_size e)) (Heap.get?_push_of_some _ e), a2, ?_, a4, a5⟩) (fun fin s' x => ?_) fun e s' x => ?_
  · exact strs_of (by rw [Array.length_toList, a3.1]) fun i v hv => a3.2 i v (by rw [← Array.getElem?_toList]; exact hv)
  · cases fin with
    | done f =>
      obtain ⟨h', dr, tk, acc, c, ks, e, rfl, a1, a2, a3, a4, a5⟩ := x
      cases e
      show wpAny _ A (load s.heap.objs.size >>= _) _ _ _
      exact wpAny_bind (wpAny_load a2 (wpAny_pure (q h' dr tk acc.toList ks a1 a3 a4 a5)))
    | again c₁ =>
      refine ⟨x.1, codeAny_mono x.2 fun r s₂ y => ?_⟩
      obtain ⟨h', dr, tk, acc, c, ks, rfl, rfl, a1, a2, a3, a4, a5⟩ := y
      show wpAny _ A (load s.heap.objs.size >>= _) _ _ _
      exact wpAny_bind (wpAny_load a2 (wpAny_pure (q h' dr tk acc.toList ks a1 a3 a4 a5)))
  · obtain ⟨_, _, _, _, _, _, e', _⟩ := x
    cases e'
end
end L2

namespace L2
open PySem PySem.Spec PyProof.Rows Ord
/-! ### set(list of texts), sorted of it -/
theorem nd_lenS {l : List Str} : ∀ {m : List Str}, l.Nodup → (∀ x ∈ l, x ∈ m) → m.length ≤ l.length → m.Nodup := by
  induction l with
  | nil => intro m _ _ h; rw [List.length_eq_zero_iff.mp (Nat.le_zero.mp h)]; exact List.nodup_nil
  | cons a l ih =>
    intro m hn hs hl
    obtain ⟨h1, h2⟩ := List.nodup_cons.mp hn
    have pm := List.perm_cons_erase (hs a List.mem_cons_self)
    have hz : (m.erase a).length ≤ l.length := by
      have := pm.length_eq
      simp at this hl
      omega
    have sub : ∀ x ∈ l, x ∈ m.erase a := fun x hx => by
      have := pm.mem_iff.mp (hs x (List.mem_cons_of_mem _ hx))
      rcases List.mem_cons.mp this with e | e
      · exact absurd (e ▸ hx) h1
      · exact e
    refine pm.nodup_iff.mpr (List.nodup_cons.mpr ⟨fun ha => ?_, ih h2 sub hz⟩)
    have : (a :: l).length ≤ (m.erase a).length := Ord.nodup_sub_length hn fun x hx => by
      rcases List.mem_cons.mp hx with e | e
      · rw [e]; exact ha
      · exact sub x e
    simp at this
    omega
theorem dd_nd {l : List Str} {x : Str} (h : l.Nodup) : (step_dedup l x).Nodup := by
  unfold step_dedup
  split
  · exact h
  · rename_i c
    refine List.nodup_append.mpr ⟨h, List.pairwise_singleton _ _, fun a ha b hb e => c ?_⟩
    rw [List.mem_singleton.mp hb] at e
    rw [List.any_eq_true]
    exact ⟨a, ha, by rw [e]; simp⟩
theorem metS_nd (f : Nat → Str) : ∀ i, (metS f i).Nodup
  | 0 => List.nodup_nil
  | i + 1 => by rw [metS_succ]; exact dd_nd (metS_nd f i)
def SetSt (P : Program) (w : World) (a : Addr) (ns : List Str) : HO := .ext fun h => ∃ ds : List Str, ds.Nodup ∧ (∀ y, y ∈ ds ↔ y ∈ ns) ∧ SetL (strKind P w) (ledW w) h a (fun y => ds.any (· == y)) ds.length
section
variable {prog : Program} {w : World} {A : Around} {E : Value → Shared → Prop} {s : Shared} {D : Addr}
theorem sorted_setS {M : Str → Bool} {n : Nat} {Q : Value → Shared → Prop} (hh : A.handled = none) (hS : SetL (strKind prog w) (ledW w) s.heap D M n) (h64 : n < 64)
    (q : ∀ (R : Addr) h' dr tk k (out : List Value) (ks : List Str), (∀ b o, s.heap.get? b = some o → h'.get? b = some o) → (∀ b o, s.heap.get? b = some o → b ≠ R) → h'.get? R = some { cls := .type "list", data := .seq out.toArray k } → Vals (ks.map V.str) out → ks.length = n → (∀ y, M y = true ↔ y ∈ ks) → sortedS ks = true → Q (.ref R) { s with heap := h', drawn := dr, toks := tk }) :
    wpAny (model prog w) A (call (.builtin "sorted") [.ref D]) Q E s := by
  refine Calls.call_function_entry kind_sorted plain_sorted entry_sorted (args_sorted1 _) ?_
  unfold Builtin.«sorted»
  refine wpAny_bind (m := checkCount "sorted" 1 1 _) (wpAny_pure ?_)
  refine wpAny_bind (coll_set (A := A.in1) hh hS (Nat.le_of_lt (small1000 (by omega))) fun h1 dr tk acc ks k1 hI hl hm => ?_)
  have la : acc.length = ks.length := by
    have := (vals_of_strs hI).length
    rw [List.length_map] at this
    exact this.symm
  refine wpAny_bind (wpAny_newList ?_ (Nat.le_of_lt (small1000 (by omega))))
  have hoL : (h1.push { cls := .type "list", data := .seq acc.toArray }).get? h1.objs.size = some (seqObj "list" acc.toArray 0) := Heap.get?_push_size _ rfl
  refine wpAny_bind (wpAny_holding (wpAny_call_entry slot_list_sort ⟨_, hoL, rfl⟩ entry_list_sort (list_sort_treeK strKind_oneLt hoL hI.keysOf (fun v₁ v₂ rest e => keyKind_strs (by rw [← e]; exact hI)) (by omega) fun st' a1 a2 => ⟨_, rfl, ?_⟩) (args_list_sort _)))
  obtain ⟨ss', b1, b2, b3⟩ := sorted_out_str hI a1 a2
  obtain ⟨k, hg⟩ := sortedHeap_at (vs := acc) (out := (arrOf st').map (·.2)) hoL
  refine wpAny_pure ⟨_, rfl, q h1.objs.size _ dr tk k _ ss' (fun b o e => ?_) (fun b o e => Nat.ne_of_lt (Heap.lt_size (k1 b o e))) (by rw [Array.toArray_toList]; exact hg) (vals_of_strs b1) (by rw [b2.length_eq, hl]) (fun y => by rw [hm, b2.mem_iff]) b3⟩
  have hb := Heap.lt_size (k1 b o e)
  rw [sortedHeap_old (Nat.ne_of_lt hb) (by rw [Heap.size_push]; exact Nat.lt_succ_of_lt hb)]
  exact Heap.get?_push_of_some _ (k1 b o e)
end
section
variable {X : Cx} {pins : List (Addr × Obj)} {σ : L2.St} {H : Hp} {s : Shared}
theorem Inv.drew (I : Inv X pins σ H s) (dr : Drawn) : Inv X pins σ H { s with drawn := dr } :=
  I.step (h' := s.heap) (H' := H) (g' := s.gens) (t' := s.toks) (d' := dr) (ch := []) (fun _ z => nomatch z) (fun _ _ _ _ _ e _ => e) (fun _ o _ _ _ e _ => ⟨o.slots, e⟩) (fun _ _ _ _ n => n) (fun _ o _ e => ⟨o, e⟩) (fun _ _ e => e) (fun _ _ _ e => e) (fun _ ps e => ⟨#[], by rw [e]; simp⟩) (fun _ h => h) I.hok I.bare
def rSetSt (P : Program) (w : World) (K : PySem.W.Frag) : List V → Hp → VK → Prop := fun vs H Q => ∃ (p : Addr) (ns : List Str), vs = [.ref p] ∧ SqL K H p (ns.map V.str) ∧ ns.length ≤ 4000 ∧ ∀ q, H q = none → Q (.ref q) (upd H q (SetSt P w q ns))
theorem call_set_ofS (hc : X.calm = true) : CallR X (.type "set") (rSetSt X.prog X.w X.K) := by
  intro pins s σ H vs us Q I r h
  obtain ⟨p, ns, rfl, hq, hz, q⟩ := h
  obtain ⟨u, rfl, ru⟩ := vals1 r
  obtain rfl : u = Value.ref p := ru
  obtain ⟨its, rv, pl, _⟩ := I.list hq
  have hl := rv.length
  rw [List.length_map] at hl
  have hsz : its.toArray.size = ns.length := by rw [List.size_toArray, hl]
  refine call_set_strsT (f := fun i => ns.getD i default) (I.ok.hd hc) pl.isList (strs_at rv) (by rw [hsz]; unfold scanBound; omega) fun h' tk hS k => ?_
  have kk : ∀ b u, s.heap.get? b = some u → h'.get? b = some u := fun b u e => k b u (Heap.lt_size e) e
  refine ⟨.ref s.heap.objs.size, upd H s.heap.objs.size (SetSt X.prog X.w s.heap.objs.size ns), I.laid (t' := tk) kk (Nat.le_refl _) ?_, rfl, q _ I.fresh⟩
  refine ⟨⟨_, metS_nd _ _, fun y => ?_, hS⟩, ?_, fun h1 h2 ⟨ds, d1, d2, d3⟩ hk => ⟨ds, d1, d2, d3.keep fun ob e => hk ob e⟩⟩
  · have := metS_any (fun i => ns.getD i default) its.toArray.size y
    rw [List.any_eq_true] at this
    have e : (∃ x, x ∈ metS (fun i => ns.getD i default) its.toArray.size ∧ (x == y) = true) ↔ y ∈ metS (fun i => ns.getD i default) its.toArray.size := ⟨fun ⟨x, a, b⟩ => by rw [← eq_of_beq b]; exact a, fun a => ⟨y, a, by simp⟩⟩
    rw [← e, this, hsz]
    constructor
    · rintro ⟨j, hj, rfl⟩
      rw [List.getD_eq_getElem?_getD, List.getElem?_eq_getElem hj]
      exact List.getElem_mem hj
    · intro hy
      obtain ⟨j, hj, e⟩ := List.getElem_of_mem hy
      exact ⟨j, hj, by rw [List.getD_eq_getElem?_getD, List.getElem?_eq_getElem hj]; exact e⟩
  · obtain ⟨o, _, _, _, e, _⟩ := hS
    exact ⟨o, e⟩
def rSortSt (P : Program) (w : World) : List V → Hp → VK → Prop := fun vs H Q => ∃ (d : Addr) (ns : List Str), vs = [.ref d] ∧ H d = some (SetSt P w d ns) ∧ ns.length < 64 ∧ ∀ D (ms : List Str), ms.Pairwise ltS → (∀ y, y ∈ ms ↔ y ∈ ns) → H D = none → Q (.ref D) (upd H D (.lst (ms.map V.str)))
theorem call_sortSt (hc : X.calm = true) : CallR X (.builtin "sorted") (rSortSt X.prog X.w) := by
  intro pins s σ H vs us Q I r h
  obtain ⟨d, ns, rfl, hd, h64, q⟩ := h
  obtain ⟨u, rfl, ru⟩ := vals1 r
  obtain rfl : u = Value.ref d := ru
  obtain ⟨⟨ds, d1, d2, d3⟩, _, _⟩ := I.hok d _ hd
  have hn : ds.length < 64 := Nat.lt_of_le_of_lt (Ord.nodup_sub_length d1 fun y hy => (d2 y).mp hy) h64
  refine sorted_setS (I.ok.hd hc) d3 hn fun R h' dr tk k out ks kk hR hg rv hl hm hs => ?_
  have hm' : ∀ y, y ∈ ks ↔ y ∈ ds := fun y => by
    rw [← hm y, List.any_eq_true]
    exact ⟨fun ⟨x, a, b⟩ => by rw [← eq_of_beq b]; exact a, fun a => ⟨y, a, by simp⟩⟩
  have nd : ks.Nodup := nd_lenS d1 (fun y hy => (hm' y).mpr hy) (Nat.le_of_eq hl)
  have hlen : (ks.map V.str).length ≤ sizeLine := by rw [List.length_map, hl]; exact Nat.le_of_lt (small1000 (by omega))
  exact ⟨.ref R, upd H R (.lst (ks.map V.str)), (I.drew dr).laidN (t' := tk) kk hR ⟨hlen, out, k, rv, hg⟩, rfl, q R ks (sorted_pw hs nd) (fun y => (hm' y).trans (d2 y)) (I.freshN hR)⟩
end
end L2

namespace PySem
section
variable {prog : Program} {w : World} {K : Type} [DecidableEq K] {knd : HeapKind prog w K} {A : Around} {E : Value → Shared → Prop} {s : Shared}
end
section
variable {prog : Program} {w : World} {A : Around} {E : Value → Shared → Prop} {s : Shared}
end
end PySem
namespace L2
open PySem PySem.Spec PyProof.Rows
section
variable {X : Cx}
end
end L2

namespace PySem
section
variable {prog : Program} {w : World} {A : Around} {E : Value → Shared → Prop} {s : Shared}
theorem keys_miss {a : Addr} {o : Obj} {xs : Array Value} {k : Nat} {Q : Option Value → Shared → Prop}
    (hx : s.heap.get? a = some o) (hc : o.cls = .type "list") (hdat : o.data = .seq xs k) (hd : o.dict = none) (hA : A.handled = none)
    (h : ∀ h' tk, (∀ b o, s.heap.get? b = some o → h'.get? b = some o) → Q none { s with heap := h', toks := tk }) : wpAny (model prog w) A (getAttr? (.ref a) "keys") Q E s := by
  obtain ⟨c, dct, dat, sl⟩ := o
  simp only at hc hdat hd
  subst hc hdat hd
  obtain ⟨hp, g, d, tk, os⟩ := s
  have hT : ∀ tk', (⟨hp, g, d, tk', os⟩ : Shared).TypeIs (.ref a) "list" := fun _ => ⟨_, hx, rfl⟩
  have f1 := sub_AttributeError
  have f3 := F.slot_list_getattribute.lookup
  have f4 := F.slot_list_getattribute.bind (.ref a)
  have f5 := am_list_getattr_none
  have hmiss : typeLookup (.type "list") "keys" = pure none := by rw [typeLookup_type, builtinLookup_eq_fast]; kernel_rfl
  unfold getAttr? getAttrBy? getAttrBy
  repeat (any_goals (first | assumption | exact hT _ | ((with_reducible show wpAny _ _ (call (Value.builtin "list.__getattribute__") _ _) _ _ _); refine call_meets F.slot_list_getattribute (hT _) am_entry_list_getattribute (F.args_list_getattribute_2 _ _) (meets_getattribute_miss_list a xs k sl "keys" _ hmiss (by decide) (by size_fits)) ⟨hx, hA, fun h' tk' e hx' => ?_⟩) | wp_step))
  obtain ⟨t', u', he⟩ := hx'.there
  show wpAny _ _ (getattributeRaised _ _ _ _ _ _ _) _ _ _
  unfold getattributeRaised
  repeat (any_goals (first | assumption | wp_step))
  exact h _ _ hx'.keeps
namespace F
theorem entry_upd_loop : entryFor table "dict.update.loop" = some Builtin.«dict.update.loop» := entryFor_of_tree (by kernel_rfl)
theorem plain_upd_loop : plainId "dict.update.loop" = true := by decide +kernel
end F
variable {R : Result → Shared → Prop} {I : Addr} {fp wr : List Addr} {n : Nat} {P : Nat → Value → Prop} {St : Nat → Heap → Prop}
end
end PySem

namespace L2
open PySem PySem.Spec PyProof.Rows
section
variable {X : Cx}
/-! ### dict() of a list of pairs, the keys tuples -/
def mergeT (acc : List (List Key × V)) (ps : List (List Key × V)) : List (List Key × V) := ps.foldl (fun a kv => putK a kv.1 kv.2) acc
/-- the items of the list are these pairs -/
def PrsAt (H : Hp) (xs : List V) (ps : List (List Key × V)) : Prop := Paired (fun x (p : List Key × V) => ∃ t b, x = .ref t ∧ H t = some (.tup [.ref b, p.2]) ∧ H b = some (.tup (p.1.map kV))) xs ps
theorem upd_loop {pins : List (Addr × Obj)} {σ : St} {A : Around} {R : Result → Shared → Prop} {H : Hp} {p l it : Addr} (hu : A.units + 1 < cLine) (hh : A.in1.handled = none) (hp : H p = none) (hpi : it ≠ p) :
    ∀ (xs : List V) (ps : List (List Key × V)) (pre : List V) (acc : List (List Key × V)) (s : Shared), PrsAt H xs ps → H l = some (.lst (pre ++ xs)) → acc.length + xs.length ≤ sizeLine → Inv X pins σ (upd H p (.dT acc)) s →
    s.heap.IsListIter it l pre.length → FpOk X pins H it → (∀ s', Inv X pins σ (upd H p (.dT (mergeT acc ps))) s' → R (.ok (.ret .none)) s') → ∀ n : Int,
    codeAny (model X.prog X.w) A (.builtin "dict.update.loop" ⟨[.ref p, .ref it, rawInt n, .none], []⟩) R s := by
  intro xs ps pre acc s hx
  induction hx generalizing pre acc s with
  | nil =>
    intro hl hz I st hf hR n
    have hl' : upd H p (.dT acc) l = some (.lst (pre ++ [])) := (upd_ne (ne_of_none hl hp)).trans hl
    obtain ⟨f0, f1, f2, f3, f4, f5⟩ := hf
    have f0' : upd H p (.dT acc) it = none := (upd_ne hpi).trans f0
    obtain ⟨z, its, c, rv, e⟩ := (show ObjOk X.prog X.w _ s.heap l (.lst (pre ++ [])) from I.hok l _ hl')
    have hlen := rv.length
    rw [List.append_nil] at hlen
    refine codeAny_builtin PySem.F.entry_upd_loop ?_
    rw [Around.under_plainId PySem.F.plain_upd_loop _]
    show wpAny _ A.in1 (pyNext (.ref it) >>= _) _ _ s
    refine wpAny_bind (wpAny_pyNext_list_end hh st ⟨_, e, rfl, c, rfl⟩ (by simp; omega) fun h' eb => ?_)
    exact wpAny_bind (wpAny_pure (wpAny_pure (hR _ (I.turned (t' := s.toks) (fun b o hb e => eb b o hb e) f0' f1 f3 f4 f5))))
  | @cons x q xs ps hq tl ih =>
    intro hl hz I st hf hR n
    obtain ⟨t, b, rfl, ht, hb⟩ := hq
    have hl' : upd H p (.dT acc) l = some (.lst (pre ++ .ref t :: xs)) := (upd_ne (ne_of_none hl hp)).trans hl
    have ht' : upd H p (.dT acc) t = some (.tup [.ref b, q.2]) := (upd_ne (ne_of_none ht hp)).trans ht
    have hb' : upd H p (.dT acc) b = some (.tup (q.1.map kV)) := (upd_ne (ne_of_none hb hp)).trans hb
    obtain ⟨f0, f1, f2, f3, f4, f5⟩ := id hf
    have f0' : upd H p (.dT acc) it = none := (upd_ne hpi).trans f0
    obtain ⟨z, its, c, rv, e⟩ := (show ObjOk X.prog X.w _ s.heap l (.lst (pre ++ .ref t :: xs)) from I.hok l _ hl')
    obtain ⟨u, hu1, ru⟩ := rv.get (i := pre.length) (x := .ref t) (by simp)
    cases ru
    refine codeAny_builtin PySem.F.entry_upd_loop ?_
    rw [Around.under_plainId PySem.F.plain_upd_loop _]
    show wpAny _ A.in1 (pyNext (.ref it) >>= _) _ _ s
    refine wpAny_bind (wpAny_pyNext_list_item st (⟨_, e, rfl, c, rfl⟩ : s.heap.IsList l its.toArray) (x := .ref t) (by simpa using hu1) fun h' st' sb => ?_)
    have I1 : Inv X pins σ (upd H p (.dT acc)) { s with heap := h' } := I.turned (t' := s.toks) (fun b o hb e => (sb.2 b hb).trans e) f0' f1 f3 f4 f5
    obtain ⟨_, ts, rt, ot, et, ct, nt, dt⟩ := (show ObjOk X.prog X.w _ h' t (.tup [.ref b, q.2]) from I1.hok t _ ht')
    obtain ⟨u1, u2, rfl, r1, r2⟩ := vals2 rt
    cases (show u1 = Value.ref b from r1)
    obtain ⟨zd, hm, es, rel, dd⟩ := dt_of I1.hok (upd_same (H := H) (a := p) (o := .dT acc))
    have hl2 : es.length ≤ sizeLine := by rw [← Paired.length rel]; exact zd
    have hacc : (putK acc q.1 q.2).length ≤ acc.length + 1 := length_putK acc q.1 q.2
    rw [List.length_cons] at hz
    refine wpAny_bind (wpAny_holding (wpAny_bind (wpAny_tryCatch ?_)))
    show wpAny _ A.in1 (Builtin.Dict.pairItems (.ref t)) _ _ _
    unfold Builtin.Dict.pairItems
    refine wpAny_bind (wpAny_typeOf (s := { s with heap := h' }) (T := "tuple") ⟨ot, et, ct⟩ ?_)
    rw [if_pos (by decide)]
    refine wpAny_bind (wpAny_seqItems (s := { s with heap := h' }) et dt (wpAny_pure ?_))
    show wpAny _ A.in1 (holding [Value.ref b, u2] (dictSet p (.ref b) u2)) _ _ _
    refine wpAny_holding (wpAny_dictSet_heap (hsz := hl2) (knd := tupleKind (mixKind X.prog X.w)) (tupleKind_room_in1 hu) (key_of I1.hok hb') dd fun h2 dd' hs => ?_)
    obtain ⟨oo, es2, ep2, g1, g2, g3, g4, _, g5⟩ := dd'
    have I2 : Inv X pins σ (upd H p (.dT (putK acc q.1 q.2))) { s with heap := h2, toks := s.toks + (tupleKind (mixKind X.prog X.w)).draws q.1 } := by
      have := d_write (t' := s.toks + (tupleKind (mixKind X.prog X.w)).draws q.1) (ob := .dT (putK acc q.1 q.2)) I1 (by rw [upd_same]; exact True.intro) hs ⟨oo, g1⟩ ⟨by omega, hm, _, (rel.put q.1 hb' r2).keeps fun c ys ec => ?_, oo, es2, ep2, g1, g2, g3, g4, g5⟩
      · rw [upd_upd] at this; exact this
      · rw [upd_ne (ne_of ec upd_same (fun z => nomatch z))]; exact ec
    refine wpAny_pure ⟨plainId_quiet PySem.F.plain_upd_loop _, ?_⟩
    have := ih (pre ++ [.ref t]) (putK acc q.1 q.2) _ (by rw [List.append_assoc]; exact hl) (by omega) I2 (by rw [List.length_append]; exact st'.at fun o e => (hs.2 it hpi).trans e) hf hR (n + 1)
    exact this
/-- dict(l), l a list of pairs -/
def rDictOf : List V → Hp → VK → Prop := fun vs H Q => ∃ l xs ps, vs = [.ref l] ∧ H l = some (.lst xs) ∧ xs.length < sizeLine ∧ PrsAt H xs ps ∧ ∀ p, H p = none → Q (.ref p) (upd H p (.dT (mergeT [] ps)))
theorem call_dictOf (hc : X.calm = true) (hu : X.A.units + 2 < cLine) : CallR X (.type "dict") rDictOf := by
  intro pins s σ H vs us Q I r h
  obtain ⟨l, xs, ps, rfl, hl, hz, hp, q⟩ := h
  obtain ⟨u, rfl, rx⟩ := vals1 r
  cases rx
  have hn : H s.heap.objs.size = none := I.hok.fresh (Nat.le_refl _)
  refine callType_codes (Q₁ := fun obj s₁ => obj = .ref s.heap.objs.size ∧ s₁ = { s with heap := s.heap.push { cls := .type "dict", data := .dict #[] } }) PySem.F.kt_called_dict (PySem.F.kt_typeCall_dict_1 _) PySem.F.entry_dict_init (kt_code_dict_new _ ⟨rfl, rfl⟩) ?_
  rintro obj s₁ ⟨rfl, rfl⟩
  have I1 := I.laid (a := s.heap.objs.size) (o := .dT []) (t' := s.toks) (h' := s.heap.push { cls := .type "dict", data := .dict #[] }) (fun _ _ q => Heap.get?_push_of_some _ q) (Nat.le_refl _) (dt_empty s.heap I.big)
  obtain ⟨z, its, c, rv, e⟩ := (show ObjOk X.prog X.w _ s.heap l (.lst xs) from I.hok l _ hl)
  have e' := Heap.get?_push_of_some { cls := .type "dict", data := .dict #[] } e
  have hT : Shared.TypeIs { s with heap := s.heap.push { cls := .type "dict", data := .dict #[] } } (.ref s.heap.objs.size) "dict" := ⟨_, Heap.get?_push_size _ rfl, rfl⟩
  refine ⟨hT, PySem.F.args_dict_init_2 _ _, ?_⟩
  unfold Builtin.«dict.__init__»
  refine wpAny_bind ?_
  unfold Builtin.Dict.selfAndRest
  refine wpAny_bind (wpAny_notOrdered_dict hT ?_)
  show wpAny _ _ (pure (s.heap.objs.size, [Value.ref l])) _ _ _
  refine wpAny_pure ?_
  show wpAny _ _ (Builtin.Dict.updateFrom "dict.__init__" s.heap.objs.size (.ref l) [] .none) _ _ _
  unfold Builtin.Dict.updateFrom
  refine wpAny_bind (wpAny_typeOf (T := "list") ⟨_, e', rfl⟩ ?_)
  rw [if_pos (by decide)]
  refine wpAny_bind (keys_miss e' rfl rfl rfl (I.ok.hd hc) fun h1 tk k1 => ?_)
  rw [if_pos (show (none : Option Value).isNone = true from rfl)]
  have I2 := I1.kept (t' := tk) k1
  refine wpAny_bind (wpAny_rule (wpAny_bind (wpAny_pyIter_list (s := { s with heap := h1, toks := tk }) ⟨_, k1 _ _ e', rfl, c, rfl⟩ ?_)))
  have I3 := I2.kept (t' := tk) (h' := h1.push { cls := .type "list_iterator", data := .fields #[.ref l, .int 0 0] }) fun b o e => Heap.get?_push_of_some _ e
  obtain ⟨f0, fr⟩ := I2.fpOk (Nat.le_refl h1.objs.size) (I2.hok.fresh (Nat.le_refl _))
  have hne : h1.objs.size ≠ s.heap.objs.size := fun z => by rw [z, upd_same] at f0; cases f0
  refine wpAny_pure ⟨plainId_quiet PySem.F.plain_upd_loop _, upd_loop (A := X.A.in1) (X := X) (pins := pins) (σ := σ) (l := l) (H := H) hu (I.ok.hd hc) hn hne xs ps [] [] _ hp hl (by rw [List.length_nil]; omega) I3 ⟨_, Heap.get?_push_size _ rfl, rfl, rfl⟩ ⟨(upd_ne hne).symm.trans f0, fr⟩ (fun s' I' => ⟨rfl, .ref _, _, I', rfl, q _ hn⟩) 0⟩
end
end L2

namespace L2
open PySem PySem.Spec PyProof.Rows Ord
/-! ### any, of a list of truths -/
theorem range_any {bs : List Bool} : (List.range bs.length).any (fun i => bs.getD i false) = bs.any id := by
  rw [Bool.eq_iff_iff, List.any_eq_true, List.any_eq_true]
  constructor
  · rintro ⟨i, hi, h⟩
    have hi' := List.mem_range.mp hi
    rw [List.getD_eq_getElem?_getD, List.getElem?_eq_getElem hi'] at h
    exact ⟨_, List.getElem_mem hi', h⟩
  · rintro ⟨b, hb, h⟩
    obtain ⟨i, hi, e⟩ := List.mem_iff_getElem.mp hb
    refine ⟨i, List.mem_range.mpr hi, ?_⟩
    rw [List.getD_eq_getElem?_getD, List.getElem?_eq_getElem hi, e]
    exact h
def rAny (K : PySem.W.Frag) : List V → Hp → VK → Prop := fun vs H Q => ∃ (a : Addr) (bs : List Bool), vs = [.ref a] ∧ SqL K H a (bs.map V.bl) ∧ Q (.bl (bs.any id)) H
theorem call_anyL {X : Cx} (hc : X.calm = true) : CallR X (.builtin "any") (rAny X.K) := by
  intro pins s σ H vs us Q I r h
  obtain ⟨a, bs, rfl, hq, q⟩ := h
  obtain ⟨u, rfl, ru⟩ := vals1 r
  obtain rfl : u = Value.ref a := ru
  obtain ⟨its, rv, p, hz⟩ := I.list hq
  have hl := rv.length
  rw [List.length_map] at hl
  have hlt : a < s.heap.objs.size := by obtain ⟨_, e, _⟩ := p.isList; exact Heap.lt_size e
  refine call_any_walk (wpAny_pyIter_list p.isList ?_)
  refine ⟨s.heap.objs.size, [s.heap.objs.size, a], [s.heap.objs.size], its.toArray.size, (fun i v => its.toArray[i]? = some v), (fun i h => h.IsListIter s.heap.objs.size a i ∧ h.IsList a its.toArray), (fun i => bs.getD i false), rfl, Walks.list (A := X.A.in1) (I.ok.hd hc) s.heap.objs.size a (Nat.ne_of_lt hlt) its.toArray, ⟨⟨_, Heap.get?_push_size _ rfl, rfl, rfl⟩, p.isList.push _⟩, truth_bl rv, fun h' tk hk => ?_⟩
  refine ⟨.bl (bs.any id), H, I.kept fun b o e => hk b o (fun z => ?_) (Heap.get?_push_of_some _ e), ?_, q⟩
  · have z' : b = s.heap.objs.size := by simpa using z
    exact absurd (Heap.lt_size e) (by rw [z']; exact Nat.lt_irrefl _)
  · have e : its.toArray.size = bs.length := by rw [List.size_toArray, hl]
    show Value.bool _ = Value.bool _
    rw [e, range_any]
end L2

namespace L2
open PySem PySem.Spec PyProof.Rows Ord
/-! ### words with a blank between -/
theorem cut_uniq {c : Nat} : ∀ {a b r q : List Nat}, c ∉ a → c ∉ b → a ++ c :: r = b ++ c :: q → a = b ∧ r = q
  | [], [], _, _, _, _, e => ⟨rfl, by injection e⟩
  | [], y :: b, _, _, _, hb, e => by
    injection e with e1 _
    exact absurd (by rw [e1]; exact List.mem_cons_self) hb
  | x :: a, [], _, _, ha, _, e => by
    injection e with e1 _
    exact absurd (by rw [e1]; exact List.mem_cons_self) ha
  | x :: a, y :: b, r, q, ha, hb, e => by
    injection e with e1 e2
    obtain ⟨h1, h2⟩ := cut_uniq (fun h => ha (List.mem_cons_of_mem _ h)) (fun h => hb (List.mem_cons_of_mem _ h)) e2
    exact ⟨by rw [e1, h1], h2⟩
theorem join_c2 (c : Nat) (a b : Str) (r : List Str) : (Str.join ⟨#[c]⟩ (a :: b :: r)).cps.toList = a.cps.toList ++ c :: (Str.join ⟨#[c]⟩ (b :: r)).cps.toList := by
  rw [join_cons_cons, app_lst, app_lst]
  show a.cps.toList ++ [c] ++ _ = _
  rw [List.append_assoc]; rfl
theorem join_uniq {c : Nat} : ∀ {l m : List Str}, l ≠ [] → m ≠ [] → (∀ x ∈ l, c ∉ x.cps.toList) → (∀ x ∈ m, c ∉ x.cps.toList) → (Str.join ⟨#[c]⟩ l).cps.toList = (Str.join ⟨#[c]⟩ m).cps.toList → l = m
  | [], _, h, _, _, _, _ => absurd rfl h
  | _, [], _, h, _, _, _ => absurd rfl h
  | [a], [b], _, _, _, _, e => by rw [show a = b from ext_toList e]
  | [a], b :: d :: r, _, _, hl, hm, e => by
    rw [join_c2] at e
    have e' : a.cps.toList = b.cps.toList ++ c :: (Str.join ⟨#[c]⟩ (d :: r)).cps.toList := e
    exact absurd (by rw [e']; simp) (hl a (by simp))
  | a :: d :: r, [b], _, _, hl, hm, e => by
    rw [join_c2] at e
    have e' : a.cps.toList ++ c :: (Str.join ⟨#[c]⟩ (d :: r)).cps.toList = b.cps.toList := e
    exact absurd (by rw [← e']; simp) (hm b (by simp))
  | a :: d :: r, b :: f :: q, _, _, hl, hm, e => by
    rw [join_c2, join_c2] at e
    obtain ⟨h1, h2⟩ := cut_uniq (hl a (by simp)) (hm b (by simp)) e
    have ih := join_uniq (c := c) (l := d :: r) (m := f :: q) (by simp) (by simp) (fun x hx => hl x (List.mem_cons_of_mem _ hx)) (fun x hx => hm x (List.mem_cons_of_mem _ hx)) h2
    rw [ext_toList h1, ih]
theorem split_ne (x y : Str) : Txt.split x y ≠ [] := by
  unfold Txt.split
  split
  · simp
  · split
    · simp
    · rw [StrLaws.partsBetween_eq]
      obtain ⟨p, r, e⟩ := StrLaws.partsFrom_ne x y.length 0 (Builtin.Str.occurrences x y 0 x.length (x.length + 1))
      rw [e]; simp
theorem split_join {c : Nat} {ws : List Str} (h : ws ≠ []) (hf : ∀ x ∈ ws, c ∉ x.cps.toList) : Txt.split (Txt.join ⟨#[c]⟩ ws) ⟨#[c]⟩ = ws := by
  have e : Txt.join ⟨#[c]⟩ ws = Str.join ⟨#[c]⟩ ws := StrLaws.glued_eq_join _ _
  rw [e]
  exact join_uniq (split_ne _ _) h (StrLaws.split_free _ c) hf (by rw [StrLaws.join_split])
theorem join_len {c : Nat} : ∀ (ws : List Str), (∀ x ∈ ws, x.length ≤ 8) → (Str.join ⟨#[c]⟩ ws).length ≤ 9 * ws.length
  | [], _ => Nat.le_refl _
  | [a], h => by have := h a (by simp); show a.length ≤ 9 * 1; omega
  | a :: b :: r, h => by
    have h1 := h a (by simp)
    have h2 := join_len (c := c) (b :: r) fun x hx => h x (List.mem_cons_of_mem _ hx)
    have e := congrArg List.length (join_c2 c a b r)
    rw [List.length_append, List.length_cons] at e
    have z : ∀ s : Str, s.cps.toList.length = s.length := fun s => by simp [Str.length]
    rw [z, z, z] at e
    rw [List.length_cons]
    omega
theorem join_ok {ws : List Str} (h : ∀ x ∈ ws, x.length ≤ 8) (hn : ws.length ≤ 5000) : JoinOk (" " : Str) ws = true := by
  refine joinOk_of_weight ?_ (by decide +kernel)
  have : (ws.map (·.length)).sum ≤ 8 * ws.length := by
    clear hn
    induction ws with
    | nil => simp
    | cons a r ih =>
      have h1 := h a (by simp)
      have h2 := ih fun y hy => h y (by simp [hy])
      simp only [List.map_cons, List.sum_cons, List.length_cons]
      omega
  omega
theorem blank_is : (" " : Str) = ⟨#[32]⟩ := by decide +kernel
theorem split_blank {ws : List Str} (h : ws ≠ []) (hf : ∀ x ∈ ws, 32 ∉ x.cps.toList) : Txt.split (Txt.join (" " : Str) ws) (" " : Str) = ws := by
  rw [blank_is]; exact split_join h hf
theorem text_len {ws : List Str} (h : ∀ x ∈ ws, x.length ≤ 8) : (Txt.join (" " : Str) ws).length ≤ 9 * ws.length := by
  rw [blank_is]
  show (Builtin.Str.glued ⟨#[32]⟩ ws).length ≤ _
  rw [StrLaws.glued_eq_join]
  exact join_len ws h
/-! ### a list taken apart -/
def gLst (K : PySem.W.Frag) (n : Nat) (t : TGs) : TG := fun v σ H Q => ∃ a xs, v = .ref a ∧ SqL K H a xs ∧ xs.length = n ∧ t xs σ H Q
theorem pg_lst {X : Cx} {pos : Pos} {es : List Expr} {k : Nat} {t : TGs} {n : Nat} (hc : X.calm = true) (h : PGs X es t)
    (hn : (assignEach es X.env).length = n := by rfl) (hst : (assignEach es X.env).findIdx? (·.1) = none := by rfl) : PG X (.Tuple es k pos) (gLst X.K n t) := by
  intro pins s σ H v u Q I r hw
  obtain ⟨a, xs, e1, hq, hl, hw⟩ := hw
  subst e1
  cases r
  obtain ⟨its, rv, ht, hz⟩ := I.list hq
  have hsz : (assignEach es X.env).length = its.toArray.size := by simp [hn, ← hl, rv.length]
  rw [arm_assign_Tuple]
  refine wpAny_bind (wpAny_standAt ?_)
  unfold unpack
  rw [hsz, hst]
  refine wpAny_bind (wpAny_holding (PySem.W.kun_itemsOf (I.ok.hd hc) ht.isList fun h' hx => ?_))
  have I1 : Inv X pins σ H { s with heap := h' } := I.kept (t' := s.toks) fun b o e => hx b o (Nat.ne_of_lt (Heap.lt_size e)) e
  exact h pins _ σ H xs _ Q I1 (by simpa using rv) hw
/-! ### groups of words with a sign between -/
def btw (sg : Str) : List (List Str) → List Str
  | [] => []
  | [g] => g
  | g :: h :: r => g ++ sg :: btw sg (h :: r)
theorem btw_snoc {sg : Str} {g : List Str} : ∀ {gs : List (List Str)}, gs ≠ [] → btw sg (gs ++ [g]) = btw sg gs ++ [sg] ++ g
  | [], h => absurd rfl h
  | [a], _ => by show a ++ sg :: g = _; simp [btw]
  | a :: b :: r, _ => by
    have := btw_snoc (sg := sg) (g := g) (gs := b :: r) (by simp)
    show a ++ sg :: btw sg (b :: r ++ [g]) = _
    rw [this]
    simp [btw]
theorem btw_take {sg : Str} {ws : List (List Str)} {i : Nat} {g : List Str} (h : ws[i]? = some g) : btw sg (ws.take (i + 1)) = (if i = 0 then [] else btw sg (ws.take i) ++ [sg]) ++ g := by
  rw [List.take_succ, h]
  have hi : i < ws.length := (List.getElem?_eq_some_iff.mp h).1
  by_cases h0 : i = 0
  · subst h0
    rw [if_pos rfl, List.take_zero]; rfl
  · rw [if_neg h0]
    exact btw_snoc (g := g) (fun z => by have := congrArg List.length z; rw [List.length_take, List.length_nil] at this; omega)
theorem btw_mem {sg x : Str} : ∀ {gs : List (List Str)}, x ∈ btw sg gs → x = sg ∨ ∃ g ∈ gs, x ∈ g
  | [], h => absurd h (by simp [btw])
  | [a], h => .inr ⟨a, by simp, h⟩
  | a :: b :: r, h => by
    rcases List.mem_append.mp h with h | h
    · exact .inr ⟨a, by simp, h⟩
    · rcases List.mem_cons.mp h with h | h
      · exact .inl h
      · rcases btw_mem h with h | ⟨g, h1, h2⟩
        · exact .inl h
        · exact .inr ⟨g, List.mem_cons_of_mem _ h1, h2⟩
theorem btw_len {sg : Str} {m : Nat} : ∀ {gs : List (List Str)}, (∀ g ∈ gs, g.length ≤ m) → (btw sg gs).length ≤ gs.length * (m + 1)
  | [], _ => Nat.zero_le _
  | [a], h => by have := h a (by simp); show a.length ≤ 1 * (m + 1); omega
  | a :: b :: r, h => by
    have h1 := h a (by simp)
    have h2 := btw_len (sg := sg) (gs := b :: r) fun g hg => h g (List.mem_cons_of_mem _ hg)
    show (a ++ sg :: btw sg (b :: r)).length ≤ _
    rw [List.length_append, List.length_cons]
    rw [show (a :: b :: r).length = (b :: r).length + 1 from rfl, Nat.succ_mul]
    omega
theorem btw_nil {sg : Str} {gs : List (List Str)} (h : ∀ g ∈ gs, g ≠ []) (e : btw sg gs = []) : gs = [] := by
  cases gs with
  | nil => rfl
  | cons a r =>
    cases r with
    | nil => exact absurd e (h a (by simp))
    | cons b r => exact absurd e (by simp [btw])
theorem btw_ge {sg : Str} : ∀ {gs : List (List Str)}, (∀ g ∈ gs, g ≠ []) → gs.length ≤ (btw sg gs).length
  | [], _ => Nat.le_refl _
  | [a], h => by
    have := List.length_pos_iff.mpr (h a (by simp))
    show 1 ≤ a.length
    omega
  | a :: b :: r, h => by
    have := btw_ge (sg := sg) (gs := b :: r) fun g hg => h g (List.mem_cons_of_mem _ hg)
    have e : (a ++ sg :: btw sg (b :: r)).length = a.length + ((btw sg (b :: r)).length + 1) := by simp
    show (b :: r).length + 1 ≤ (a ++ sg :: btw sg (b :: r)).length
    omega
def prtS (sg : Str) (gs : List (List Str)) (w : Str) : List (List Str) := if w = sg then gs ++ [[]] else gs.dropLast ++ [gs.getLast?.getD [] ++ [w]]
def prt (sg : Str) (ws : List Str) : List (List Str) := ws.foldl (prtS sg) [[]]
theorem prtS_snoc {sg : Str} {acc : List (List Str)} {h : List Str} {w : Str} (hw : w ≠ sg) : prtS sg (acc ++ [h]) w = acc ++ [h ++ [w]] := by
  unfold prtS
  rw [if_neg hw]
  simp
theorem prt_in {sg : Str} : ∀ {g : List Str} {acc : List (List Str)} {h : List Str}, sg ∉ g → g.foldl (prtS sg) (acc ++ [h]) = acc ++ [h ++ g]
  | [], acc, h, _ => by simp
  | w :: g, acc, h, hn => by
    rw [List.foldl_cons, prtS_snoc (fun e => hn (by rw [← e]; exact List.mem_cons_self)), prt_in fun hh => hn (List.mem_cons_of_mem _ hh)]
    simp
theorem prt_more {sg : Str} : ∀ {gs acc : List (List Str)}, gs ≠ [] → (∀ g ∈ gs, sg ∉ g) → (btw sg gs).foldl (prtS sg) (acc ++ [[]]) = acc ++ gs
  | [], _, h, _ => absurd rfl h
  | [a], acc, _, h => by
    show a.foldl _ _ = _
    rw [prt_in (h a (by simp))]; simp
  | a :: b :: r, acc, _, h => by
    show (a ++ sg :: btw sg (b :: r)).foldl _ _ = _
    rw [List.foldl_append, prt_in (h a (by simp)), List.foldl_cons]
    have e : prtS sg (acc ++ [[] ++ a]) sg = (acc ++ [a]) ++ [[]] := by unfold prtS; rw [if_pos rfl]; simp
    rw [e, prt_more (by simp) fun g hg => h g (List.mem_cons_of_mem _ hg)]
    simp
theorem prt_btw {sg : Str} {gs : List (List Str)} (h : gs ≠ []) (hn : ∀ g ∈ gs, sg ∉ g) : prt sg (btw sg gs) = gs := prt_more (acc := []) h hn
theorem prt_len {sg : Str} : ∀ (ws : List Str) (gs : List (List Str)), gs ≠ [] → ws.foldl (prtS sg) gs ≠ [] ∧ (ws.foldl (prtS sg) gs).length ≤ gs.length + ws.length
  | [], gs, h => ⟨h, Nat.le_refl _⟩
  | w :: ws, gs, h => by
    have hl : gs.length ≠ 0 := fun e => h (List.length_eq_zero_iff.mp e)
    have e : prtS sg gs w ≠ [] ∧ (prtS sg gs w).length ≤ gs.length + 1 := by
      unfold prtS
      split
      · exact ⟨by simp, by simp⟩
      · refine ⟨by simp, ?_⟩
        rw [List.length_append, List.length_dropLast, List.length_singleton]; omega
    obtain ⟨a, b⟩ := prt_len ws (prtS sg gs w) e.1
    rw [List.foldl_cons]
    refine ⟨a, ?_⟩
    rw [List.length_cons]
    omega
/-- lists of texts in the heap -/
structure Wds (H : Hp) (us : List Addr) (ws : List (List Str)) : Prop where
  len : us.length = ws.length
  at_ : ∀ (n : Nat) (u : Addr) (g : List Str), us[n]? = some u → ws[n]? = some g → H u = some (.lst (g.map V.str))
theorem Wds.nil {H : Hp} : Wds H [] [] := ⟨rfl, fun n u g h => by simp at h⟩
theorem Wds.same {H H' : Hp} {us : List Addr} {ws : List (List Str)} (e : Same H H') (h : Wds H us ws) : Wds H' us ws := ⟨h.len, fun n u g a b => e _ _ (h.at_ n u g a b)⟩
theorem Wds.upd {H : Hp} {D : Addr} {o : HO} {us : List Addr} {ws : List (List Str)} (h : Wds H us ws) (hn : ∀ u ∈ us, u ≠ D) : Wds (upd H D o) us ws := ⟨h.len, fun n u g a b => by rw [upd_ne (hn u (List.mem_of_getElem? a))]; exact h.at_ n u g a b⟩
theorem Wds.snoc {H : Hp} {u : Addr} {us : List Addr} {ws : List (List Str)} {g : List Str} (h : Wds H us ws) (e : H u = some (.lst (g.map V.str))) : Wds H (us ++ [u]) (ws ++ [g]) := by
  refine ⟨by rw [List.length_append, List.length_append, h.len]; rfl, fun n v q h1 h2 => ?_⟩
  rcases Nat.lt_or_ge n us.length with hlt | hge
  · rw [List.getElem?_append_left hlt] at h1
    rw [List.getElem?_append_left (by rw [← h.len]; exact hlt)] at h2
    exact h.at_ n v q h1 h2
  · have hn1 : n < (us ++ [u]).length := (List.getElem?_eq_some_iff.mp h1).1
    rw [List.length_append, List.length_singleton] at hn1
    have e' : n = us.length := by omega
    subst e'
    rw [List.getElem?_append_right (Nat.le_refl _), Nat.sub_self] at h1
    rw [List.getElem?_append_right (by rw [h.len]; exact Nat.le_refl _), h.len, Nat.sub_self] at h2
    cases h1; cases h2
    exact e
/-! ### a table's words -/
abbrev nS (n : Int) : Str := toString n
def wGo (g : Str × Int) : List Str := [g.1, nS g.2]
def wPr (p : Str × Str) : List Str := [p.1, p.2]
def wSt (s : Stt) : List Str := btw "," (s.1.map wGo) ++ [(":" : Str)] ++ s.2
def tW (ss : List Stt) (n : Int) (ps : List (Str × Str)) : List Str := btw "/" (ss.map wSt) ++ [("|" : Str), nS n, "|"] ++ btw "," (ps.map wPr)
/-- a word that is no sign, without a blank -/
structure OkW (x : Str) : Prop where
  a : x ≠ "/"
  b : x ≠ "|"
  c : x ≠ ","
  d : x ≠ ":"
  bl : 32 ∉ x.cps.toList
  le : x.length ≤ 8
theorem fig {n : Int} (h0 : 0 ≤ n) (h9 : n < 10) : ∃ d : Nat, 48 ≤ d ∧ d ≤ 57 ∧ nS n = ⟨#[d]⟩ ∧ PySem.intText? (nS n) = some n := by
  obtain ⟨k, rfl⟩ := Int.eq_ofNat_of_zero_le h0
  have hk : k < 10 := by omega
  refine ⟨48 + k, by omega, by omega, ?_, ?_⟩
  · have : ∀ k : Nat, k < 10 → nS (k : Int) = ⟨#[48 + k]⟩ := by decide +kernel
    exact this k hk
  · have : ∀ k : Nat, k < 10 → PySem.intText? (nS (k : Int)) = some (k : Int) := by decide +kernel
    exact this k hk
theorem fig_ok {n : Int} (h0 : 0 ≤ n) (h9 : n < 10) : OkW (nS n) := by
  obtain ⟨d, h1, h2, e, _⟩ := fig h0 h9
  have ne : ∀ c : Nat, c < 48 ∨ 57 < c → nS n ≠ ⟨#[c]⟩ := fun c hc z => by
    rw [e] at z
    injection z with z
    injection z with z
    injection z with z
    omega
  refine ⟨?_, ?_, ?_, ?_, ?_, ?_⟩
  · rw [show ("/" : Str) = ⟨#[47]⟩ by decide +kernel]; exact ne 47 (by omega)
  · rw [show ("|" : Str) = ⟨#[124]⟩ by decide +kernel]; exact ne 124 (by omega)
  · rw [show ("," : Str) = ⟨#[44]⟩ by decide +kernel]; exact ne 44 (by omega)
  · rw [show (":" : Str) = ⟨#[58]⟩ by decide +kernel]; exact ne 58 (by omega)
  · rw [e]
    intro h
    have : 32 = d := by simpa using h
    omega
  · rw [e]; show 1 ≤ 8; decide
theorem num_small {n : Int} (h0 : 0 ≤ n) (h9 : n < 10) : n.natAbs.log2 < 1920 := by
  obtain ⟨k, rfl⟩ := Int.eq_ofNat_of_zero_le h0
  have : ∀ k : Nat, k < 10 → ((k : Int)).natAbs.log2 < 1920 := by decide +kernel
  exact this k (by omega)
/-- the labels of these states and pairs are words, the numbers are figures -/
structure TOkW (ss : List Stt) (n : Int) (ps : List (Str × Str)) : Prop where
  go : ∀ s ∈ ss, ∀ g ∈ s.1, OkW g.1 ∧ 0 ≤ g.2 ∧ g.2 < 10
  en : ∀ s ∈ ss, ∀ x ∈ s.2, OkW x
  pr : ∀ p ∈ ps, OkW p.1 ∧ OkW p.2
  n0 : 0 ≤ n
  n9 : n < 10
  ne : ss ≠ []
  fit : Fits ss
  pl : ps.length ≤ 40
theorem go_words {gs : List (Str × Int)} (h : ∀ g ∈ gs, OkW g.1 ∧ 0 ≤ g.2 ∧ g.2 < 10) {x : Str} (hx : ∃ g ∈ gs.map wGo, x ∈ g) : OkW x := by
  obtain ⟨g, hg, hx⟩ := hx
  obtain ⟨q, hq, rfl⟩ := List.mem_map.mp hg
  obtain ⟨h1, h2, h3⟩ := h q hq
  rcases List.mem_cons.mp hx with rfl | hx
  · exact h1
  · rw [List.mem_singleton.mp hx]; exact fig_ok h2 h3
theorem pr_words {ps : List (Str × Str)} (h : ∀ p ∈ ps, OkW p.1 ∧ OkW p.2) {x : Str} (hx : ∃ g ∈ ps.map wPr, x ∈ g) : OkW x := by
  obtain ⟨g, hg, hx⟩ := hx
  obtain ⟨q, hq, rfl⟩ := List.mem_map.mp hg
  obtain ⟨h1, h2⟩ := h q hq
  rcases List.mem_cons.mp hx with rfl | hx
  · exact h1
  · rw [List.mem_singleton.mp hx]; exact h2
theorem st_words {s : Stt} (hg : ∀ g ∈ s.1, OkW g.1 ∧ 0 ≤ g.2 ∧ g.2 < 10) (he : ∀ x ∈ s.2, OkW x) {x : Str} (hx : x ∈ wSt s) : OkW x ∨ x = "," ∨ x = ":" := by
  unfold wSt at hx
  rcases List.mem_append.mp hx with hx | hx
  · rcases List.mem_append.mp hx with hx | hx
    · rcases btw_mem hx with h | h
      · exact .inr (.inl h)
      · exact .inl (go_words hg h)
    · exact .inr (.inr (List.mem_singleton.mp hx))
  · exact .inl (he x hx)
theorem sg_ne : ("/" : Str) ≠ "|" ∧ ("/" : Str) ≠ "," ∧ ("/" : Str) ≠ ":" ∧ ("|" : Str) ≠ "," ∧ ("|" : Str) ≠ ":" ∧ ("," : Str) ≠ ":" := by decide +kernel
theorem sg_ok : ∀ x ∈ ([("/" : Str), "|", ",", ":"] : List Str), 32 ∉ x.cps.toList ∧ x.length ≤ 8 := by decide +kernel
theorem prt_st {s : Stt} (hg : ∀ g ∈ s.1, OkW g.1 ∧ 0 ≤ g.2 ∧ g.2 < 10) (he : ∀ x ∈ s.2, OkW x) : prt ":" (wSt s) = [btw "," (s.1.map wGo), s.2] := by
  have e : wSt s = btw ":" [btw "," (s.1.map wGo), s.2] := by unfold wSt; simp [btw]
  rw [e]
  refine prt_btw (by simp) fun g hm hx => ?_
  simp only [List.mem_cons, List.not_mem_nil, or_false] at hm
  rcases hm with rfl | rfl
  · rcases btw_mem hx with h | h
    · exact sg_ne.2.2.2.2.2 h.symm
    · exact (go_words hg h).d rfl
  · exact (he _ hx).d rfl
theorem prt_sts {ss : List Stt} {n : Int} {ps : List (Str × Str)} (T : TOkW ss n ps) : prt "/" (btw "/" (ss.map wSt)) = ss.map wSt :=
  prt_btw (by simpa using T.ne) fun g hg hx => by
    obtain ⟨s, hs, rfl⟩ := List.mem_map.mp hg
    rcases st_words (T.go s hs) (T.en s hs) hx with h | h | h
    · exact h.a rfl
    · exact sg_ne.2.1 h
    · exact sg_ne.2.2.1 h
theorem prt_all {ss : List Stt} {n : Int} {ps : List (Str × Str)} (T : TOkW ss n ps) : prt "|" (tW ss n ps) = [btw "/" (ss.map wSt), [nS n], btw "," (ps.map wPr)] := by
  have e : tW ss n ps = btw "|" [btw "/" (ss.map wSt), [nS n], btw "," (ps.map wPr)] := by unfold tW; simp [btw]
  rw [e]
  refine prt_btw (by simp) fun g hm hx => ?_
  simp only [List.mem_cons, List.not_mem_nil, or_false] at hm
  rcases hm with rfl | rfl | rfl
  · rcases btw_mem hx with h | ⟨g, hg, h⟩
    · exact sg_ne.1 h.symm
    · obtain ⟨s, hs, rfl⟩ := List.mem_map.mp hg
      rcases st_words (T.go s hs) (T.en s hs) h with h | h | h
      · exact h.b rfl
      · exact sg_ne.2.2.2.1 h
      · exact sg_ne.2.2.2.2.1 h
  · rw [List.mem_singleton] at hx
    exact (fig_ok T.n0 T.n9).b hx.symm
  · rcases btw_mem hx with h | h
    · exact sg_ne.2.2.2.1 h
    · exact (pr_words T.pr h).b rfl
theorem tW_words {ss : List Stt} {n : Int} {ps : List (Str × Str)} (T : TOkW ss n ps) : ∀ x ∈ tW ss n ps, 32 ∉ x.cps.toList ∧ x.length ≤ 8 := fun x hx => by
  have key : OkW x ∨ x ∈ ([("/" : Str), "|", ",", ":"] : List Str) := by
    unfold tW at hx
    rcases List.mem_append.mp hx with hx | hx
    · rcases List.mem_append.mp hx with hx | hx
      · rcases btw_mem hx with h | ⟨g, hg, h⟩
        · exact .inr (by rw [h]; simp)
        · obtain ⟨s, hs, rfl⟩ := List.mem_map.mp hg
          rcases st_words (T.go s hs) (T.en s hs) h with h | h | h
          · exact .inl h
          · exact .inr (by rw [h]; simp)
          · exact .inr (by rw [h]; simp)
      · simp only [List.mem_cons, List.not_mem_nil, or_false] at hx
        rcases hx with rfl | rfl | rfl
        · exact .inr (by simp)
        · exact .inl (fig_ok T.n0 T.n9)
        · exact .inr (by simp)
    · rcases btw_mem hx with h | h
      · exact .inr (by rw [h]; simp)
      · exact .inl (pr_words T.pr h)
  rcases key with h | h
  · exact ⟨h.bl, h.le⟩
  · exact sg_ok x h
theorem go_len {gs : List (Str × Int)} : (btw "," (gs.map wGo)).length ≤ gs.length * 3 := by
  have := btw_len (sg := ",") (m := 2) (gs := gs.map wGo) fun g hg => by
    obtain ⟨q, _, rfl⟩ := List.mem_map.mp hg
    exact Nat.le_refl _
  rwa [List.length_map] at this
theorem pr_len {gs : List (Str × Str)} : (btw "," (gs.map wPr)).length ≤ gs.length * 3 := by
  have := btw_len (sg := ",") (m := 2) (gs := gs.map wPr) fun g hg => by
    obtain ⟨q, _, rfl⟩ := List.mem_map.mp hg
    exact Nat.le_refl _
  rwa [List.length_map] at this
theorem st_len {s : Stt} (h1 : s.1.length ≤ 8) (h2 : s.2.length ≤ 8) : (wSt s).length ≤ 33 := by
  unfold wSt
  rw [List.length_append, List.length_append, List.length_singleton]
  have := go_len (gs := s.1)
  omega
theorem sts_len {ss : List Stt} (F : Fits ss) : (btw "/" (ss.map wSt)).length ≤ 272 := by
  have := btw_len (sg := "/") (m := 33) (gs := ss.map wSt) fun g hg => by
    obtain ⟨s, hs, rfl⟩ := List.mem_map.mp hg
    exact st_len (F.gs s hs) (F.es s hs)
  rw [List.length_map] at this
  have := F.n
  omega
theorem tW_len {ss : List Stt} {n : Int} {ps : List (Str × Str)} (F : Fits ss) (hp : ps.length ≤ 60) : (tW ss n ps).length ≤ 500 := by
  unfold tW
  rw [List.length_append, List.length_append]
  have h1 := sts_len F
  have h2 := pr_len (gs := ps)
  show _ + 3 + _ ≤ 500
  omega
theorem tW_ne {ss : List Stt} {n : Int} {ps : List (Str × Str)} : tW ss n ps ≠ [] := by unfold tW; simp
/-! ### sorted, within a comprehension -/
def rSortSK (K : PySem.W.Frag) : List V → Hp → VK → Prop := fun vs H Q => ∃ (l : Addr) (ss : List Str), vs = [.ref l] ∧ SqL K H l (ss.map V.str) ∧ ss.length < 64 ∧ ∀ (D : Addr) (ss' : List Str), ss'.Perm ss → ss'.Pairwise strO.kle → H D = none → Q (.ref D) (upd H D (.lst (ss'.map V.str)))
theorem call_sortSK {X : Cx} : CallR X (.builtin "sorted") (rSortSK X.K) := call_sortS
def rSortPK (K : PySem.W.Frag) (c d : Col) : List V → Hp → VK → Prop := fun vs H Q => ∃ (l : Addr) (zs : List (Row c d)), vs = [.ref l] ∧ SqL K H l (zs.map (·.1)) ∧ zs.length < 64 ∧
  (∀ z ∈ zs, ∃ t, z.1 = .ref t ∧ SqT K H t [c.val z.2.1, d.val z.2.2]) ∧ ∀ (D : Addr) (zs' : List (Row c d)), zs'.Perm zs → (zs'.map (·.2)).Pairwise (lexO c.O d.O).kle → H D = none → Q (.ref D) (upd H D (.lst (zs'.map (·.1))))
theorem call_sortPK {X : Cx} (c d : Col) : CallR X (.builtin "sorted") (rSortPK X.K c d) := call_sortP c d
/-! ### pairs with nothing between -/
noncomputable def bareB (ord : List (Str × Str)) (p : Str × Str) : Bool := !dec (∃ l, (p.1, l) ∈ ord ∧ (l, p.2) ∈ ord)
noncomputable def bareOf (ord : List (Str × Str)) : List (Str × Str) := ord.filter (bareB ord)
theorem bare_take {ord : List (Str × Str)} {i : Nat} {p : Str × Str} (h : ord[i]? = some p) : (ord.take (i + 1)).filter (bareB ord) = (ord.take i).filter (bareB ord) ++ if bareB ord p = true then [p] else [] := by
  rw [List.take_succ, h, List.filter_append]
  show _ ++ [p].filter (bareB ord) = _
  congr 1
  cases e : bareB ord p <;> simp [e]
theorem bare_len {ord : List (Str × Str)} (i : Nat) : ((ord.take i).filter (bareB ord)).length ≤ ord.length :=
  Nat.le_trans (List.length_filter_le _ _) (by rw [List.length_take]; omega)
theorem zip_prsW {K : PySem.W.Frag} {H : Hp} : ∀ {ts : List Addr} {gs : List (Str × Str)}, ts.length = gs.length → (∀ (n : Nat) (a : Addr) (p : Str × Str), ts[n]? = some a → gs[n]? = some p → H a = some (.tup [.str p.1, .str p.2])) →
    ∃ zs : List (Row strC strC), zs.map (·.1) = ts.map V.ref ∧ zs.map (·.2) = gs ∧ ∀ z ∈ zs, ∃ t, z.1 = .ref t ∧ SqT K H t [V.str z.2.1, V.str z.2.2]
  | [], [], _, _ => ⟨[], rfl, rfl, fun z hz => by cases hz⟩
  | [], _ :: _, h, _ => by simp at h
  | _ :: _, [], h, _ => by simp at h
  | a :: ts, p :: gs, h, k => by
    obtain ⟨zs, h1, h2, h3⟩ := zip_prsW (K := K) (H := H) (ts := ts) (gs := gs) (by simpa using h) fun n a p h1 h2 => k (n + 1) a p (by simpa using h1) (by simpa using h2)
    refine ⟨(V.ref a, p) :: zs, by rw [List.map_cons, h1]; rfl, by rw [List.map_cons, h2], fun z hz => ?_⟩
    rcases List.mem_cons.mp hz with e | hz
    · rw [e]; exact ⟨a, rfl, SqT.of (k 0 a p rfl rfl)⟩
    · exact h3 z hz
theorem rows_prsW {K : PySem.W.Frag} {H : Hp} : ∀ (zs : List (Row strC strC)), (∀ z ∈ zs, ∃ t, z.1 = .ref t ∧ SqT K H t [V.str z.2.1, V.str z.2.2]) → IsDts K H (zs.map (·.1)) ((zs.map (·.2)).map prD)
  | [], _ => .nil
  | z :: zs, h => by
    obtain ⟨t, e, sq⟩ := h z List.mem_cons_self
    refine .cons ?_ (rows_prsW zs fun y hy => h y (List.mem_cons_of_mem _ hy))
    show IsDt K H z.1 (prD z.2)
    rw [e]
    exact .tup sq (.cons (.str _) (.cons (.str _) .nil))
/-! ### the order as a dict -/
theorem hu2_of {A : Around} {k : Nat} (hr : Room k A) : A.units + 2 < cLine := Nat.lt_of_le_of_lt (Nat.add_le_add_left (by decide : 2 ≤ 64) _) hr.units
abbrev keyP (p : Str × Str) : List Key := [.inr p.1, .inr p.2]
theorem PrsAt.tups {H H' : Hp} (e : ∀ b xs, H b = some (.tup xs) → H' b = some (.tup xs)) : ∀ {xs : List V} {ps : List (List Key × V)}, PrsAt H xs ps → PrsAt H' xs ps := fun h =>
  Paired.mapP h fun _ _ ⟨t, b, h1, h2, h3⟩ => ⟨t, b, h1, e _ _ h2, e _ _ h3⟩
theorem merge_some {k : List Key} : ∀ {ps acc : List (List Key × V)}, (valV (mergeT acc ps) k).isSome = true ↔ (valV acc k).isSome = true ∨ k ∈ ps.map (·.1)
  | [], acc => by simp [mergeT]
  | p :: ps, acc => by
    show (valV (mergeT (putK acc p.1 p.2) ps) k).isSome = true ↔ _
    rw [merge_some, valV_put, List.map_cons, List.mem_cons]
    by_cases h : k = p.1
    · rw [if_pos h]; simp [h]
    · rw [if_neg h]; simp [h]
theorem bet_dict {ord : List (Str × Str)} (a b : Str) : (valV (mergeT [] (ord.map fun p => (keyP p, V.bl true))) (keyP (a, b))).isSome = dec ((a, b) ∈ ord) := by
  have : (valV (mergeT [] (ord.map fun p => (keyP p, V.bl true))) (keyP (a, b))).isSome = true ↔ (a, b) ∈ ord := by
    rw [merge_some]
    constructor
    · rintro (h | h)
      · simp [valV] at h
      · rw [List.map_map] at h
        obtain ⟨q, hq, e⟩ := List.mem_map.mp h
        obtain ⟨q1, q2⟩ := q
        simp at e
        rw [← e.1, ← e.2]; exact hq
    · intro h
      refine .inr ?_
      rw [List.map_map]
      exact List.mem_map.mpr ⟨_, h, rfl⟩
  by_cases h : (a, b) ∈ ord
  · rw [dec_true h]; exact this.mpr h
  · rw [dec_false h]
    cases e : (valV (mergeT [] (ord.map fun p => (keyP p, V.bl true))) (keyP (a, b))).isSome with
    | false => rfl
    | true => exact absurd (this.mp e) h
def clsA (K : PySem.W.Frag) (x : Str) : Addr := match PySem.W.nsIn K mainGlobals x with
  | some (some (.ref a)) => a
  | _ => 0
theorem clsA_of {K : PySem.W.Frag} {x : Str} {C : Addr} (h : PySem.W.nsIn K mainGlobals x = some (some (.ref C))) : clsA K x = C := by unfold clsA; rw [h]
end L2

namespace K75
open PySem PySem.Spec PyProof.Rows L2 Ord
def top (i : Nat) : Stmt := PySem.Challenge.pw_namepaths_k75_tables_written.main.body.getD i (.Pass ⟨0, 0, 0, 0⟩)
abbrev s__law_cell_at : Stmt := top 50
theorem sc__law_cell_at : FnScope ["_law_script", "_law_k"] ["_law_script", "_law_k"] (defScope s__law_cell_at) := ⟨rfl, rfl, rfl, by decide +kernel, rfl, by decide +kernel, by decide +kernel⟩
abbrev s__law_names : Stmt := top 51
theorem sc__law_names : FnScope ["_law_cell", "_law_many", "_law_letters", "_law_size", "_law_base", "_law_names_here", "_law_k", "_law_here"] ["_law_cell", "_law_many"] (defScope s__law_names) := ⟨rfl, rfl, rfl, by decide +kernel, rfl, by decide +kernel, by decide +kernel⟩
theorem _law_names_cs1 : CompScope (defScope s__law_names) ["_law_cell", "_law_many", "_law_letters", "_law_size", "_law_base", "_law_names_here", "_law_k", "_law_here"] { kind := PySem.ScopeKind.function, names := [ (PySem.Str.ofString ".0", PySem.NameKind.local), (PySem.Str.ofString "_law_k", PySem.NameKind.local), (PySem.Str.ofString "_law_cell", PySem.NameKind.free), (PySem.Str.ofString "_law_letters", PySem.NameKind.free)], isGenerator := false, isCoroutine := false, more := [] : PySem.Scope } ["_law_k", "_law_letters", "_law_cell"] 1 [2, 0] := ⟨rfl, by decide +kernel, by decide +kernel, by decide +kernel, rfl, by decide +kernel, by decide +kernel⟩
theorem _law_names_cs2 : CompScope (defScope s__law_names) ["_law_cell", "_law_many", "_law_letters", "_law_size", "_law_base", "_law_names_here", "_law_k", "_law_here"] { kind := PySem.ScopeKind.function, names := [ (PySem.Str.ofString ".0", PySem.NameKind.local), (PySem.Str.ofString "_law_k", PySem.NameKind.local), (PySem.Str.ofString "_law_base", PySem.NameKind.free)], isGenerator := false, isCoroutine := false, more := [] : PySem.Scope } ["_law_k", "_law_base"] 1 [4] := ⟨rfl, by decide +kernel, by decide +kernel, by decide +kernel, rfl, by decide +kernel, by decide +kernel⟩
abbrev s__law_state : Stmt := top 54
theorem sc__law_state : FnScope ["_law_script", "_law_start", "_law_labels", "_law_many", "_law_full", "_law_goes", "_law_ends", "_law_k", "_law_cell"] ["_law_script", "_law_start", "_law_labels", "_law_many", "_law_full"] (defScope s__law_state) := ⟨rfl, rfl, rfl, by decide +kernel, rfl, by decide +kernel, by decide +kernel⟩
abbrev s__law_pairs : Stmt := top 55
theorem sc__law_pairs : FnScope ["_law_cells", "_law_labels", "_law_many", "_law_pairs_here", "_law_cell", "_law_one", "_law_other"] ["_law_cells", "_law_labels"] (defScope s__law_pairs) := ⟨rfl, rfl, rfl, by decide +kernel, rfl, by decide +kernel, by decide +kernel⟩
abbrev s__law_joined : Stmt := top 53
theorem sc__law_joined : FnScope ["_law_pairs_here", "_law_labels", "_law_many", "_law_rows", "_law_k", "_law_i", "_law_j", "_law_found"] ["_law_pairs_here", "_law_labels"] (defScope s__law_joined) := ⟨rfl, rfl, rfl, by decide +kernel, rfl, by decide +kernel, by decide +kernel⟩
theorem _law_joined_cs1 : CompScope (defScope s__law_joined) ["_law_pairs_here", "_law_labels", "_law_many", "_law_rows", "_law_k", "_law_i", "_law_j", "_law_found"] { kind := PySem.ScopeKind.function, names := [ (PySem.Str.ofString ".0", PySem.NameKind.local), (PySem.Str.ofString "_law_one", PySem.NameKind.cell), (PySem.Str.ofString "_law_labels", PySem.NameKind.free), (PySem.Str.ofString "_law_pairs_here", PySem.NameKind.free)], isGenerator := false, isCoroutine := false, more := [] : PySem.Scope } ["_law_one", "_law_pairs_here", "_law_labels"] 1 [0, 1] := ⟨rfl, by decide +kernel, by decide +kernel, by decide +kernel, rfl, by decide +kernel, by decide +kernel⟩
theorem _law_joined_cs2 : CompScope ({ kind := PySem.ScopeKind.function, names := [ (PySem.Str.ofString ".0", PySem.NameKind.local), (PySem.Str.ofString "_law_one", PySem.NameKind.cell), (PySem.Str.ofString "_law_labels", PySem.NameKind.free), (PySem.Str.ofString "_law_pairs_here", PySem.NameKind.free)], isGenerator := false, isCoroutine := false, more := [] : PySem.Scope }) ["_law_one", "_law_pairs_here", "_law_labels"] { kind := PySem.ScopeKind.function, names := [ (PySem.Str.ofString ".0", PySem.NameKind.local), (PySem.Str.ofString "_law_other", PySem.NameKind.local), (PySem.Str.ofString "_law_one", PySem.NameKind.free), (PySem.Str.ofString "_law_pairs_here", PySem.NameKind.free)], isGenerator := false, isCoroutine := false, more := [] : PySem.Scope } ["_law_other", "_law_pairs_here", "_law_one"] 1 [1, 0] := ⟨rfl, by decide +kernel, by decide +kernel, by decide +kernel, rfl, by decide +kernel, by decide +kernel⟩
abbrev s__law_comma : Stmt := top 57
theorem sc__law_comma : FnScope ["_law_rows", "_law_words_here", "_law_row"] ["_law_rows"] (defScope s__law_comma) := ⟨rfl, rfl, rfl, by decide +kernel, rfl, by decide +kernel, by decide +kernel⟩
abbrev s__law_words : Stmt := top 58
theorem sc__law_words : FnScope ["_law_states", "_law_inner", "_law_pairs_here", "_law_words_here", "_law_goes", "_law_ends"] ["_law_states", "_law_inner", "_law_pairs_here"] (defScope s__law_words) := ⟨rfl, rfl, rfl, by decide +kernel, rfl, by decide +kernel, by decide +kernel⟩
theorem _law_words_cs1 : CompScope (defScope s__law_words) ["_law_states", "_law_inner", "_law_pairs_here", "_law_words_here", "_law_goes", "_law_ends"] { kind := PySem.ScopeKind.function, names := [ (PySem.Str.ofString ".0", PySem.NameKind.local), (PySem.Str.ofString "_law_label", PySem.NameKind.local), (PySem.Str.ofString "_law_number", PySem.NameKind.local), (PySem.Str.ofString "str", PySem.NameKind.globalImplicit)], isGenerator := false, isCoroutine := false, more := [] : PySem.Scope } ["_law_label", "_law_number"] 2 [] := ⟨rfl, by decide +kernel, by decide +kernel, by decide +kernel, rfl, by decide +kernel, by decide +kernel⟩
abbrev s__law_bare : Stmt := top 56
theorem sc__law_bare : FnScope ["_law_order", "_law_found", "_law_one", "_law_other"] ["_law_order"] (defScope s__law_bare) := ⟨rfl, rfl, rfl, by decide +kernel, rfl, by decide +kernel, by decide +kernel⟩
theorem _law_bare_cs1 : CompScope (defScope s__law_bare) ["_law_order", "_law_found", "_law_one", "_law_other"] { kind := PySem.ScopeKind.function, names := [ (PySem.Str.ofString ".0", PySem.NameKind.local), (PySem.Str.ofString "_law_better", PySem.NameKind.local), (PySem.Str.ofString "_law_label", PySem.NameKind.local), (PySem.Str.ofString "_law_one", PySem.NameKind.free), (PySem.Str.ofString "_law_order", PySem.NameKind.free), (PySem.Str.ofString "_law_other", PySem.NameKind.free)], isGenerator := false, isCoroutine := false, more := [] : PySem.Scope } ["_law_better", "_law_label", "_law_one", "_law_order", "_law_other"] 2 [2, 0, 3] := ⟨rfl, by decide +kernel, by decide +kernel, by decide +kernel, rfl, by decide +kernel, by decide +kernel⟩
abbrev s_with_between : Stmt := top 38
theorem sc_with_between : FnScope ["groups", "sign", "words", "number", "group"] ["groups", "sign"] (defScope s_with_between) := ⟨rfl, rfl, rfl, by decide +kernel, rfl, by decide +kernel, by decide +kernel⟩
abbrev s_words_of_state : Stmt := top 44
theorem sc_words_of_state : FnScope ["goes", "ends"] ["goes", "ends"] (defScope s_words_of_state) := ⟨rfl, rfl, rfl, by decide +kernel, rfl, by decide +kernel, by decide +kernel⟩
theorem words_of_state_cs1 : CompScope (defScope s_words_of_state) ["goes", "ends"] { kind := PySem.ScopeKind.function, names := [ (PySem.Str.ofString ".0", PySem.NameKind.local), (PySem.Str.ofString "label", PySem.NameKind.local), (PySem.Str.ofString "number", PySem.NameKind.local), (PySem.Str.ofString "str", PySem.NameKind.globalImplicit)], isGenerator := false, isCoroutine := false, more := [] : PySem.Scope } ["label", "number"] 2 [] := ⟨rfl, by decide +kernel, by decide +kernel, by decide +kernel, rfl, by decide +kernel, by decide +kernel⟩
abbrev s_next_pairs : Stmt := top 45
theorem sc_next_pairs : FnScope ["order", "known", "labels", "pairs", "better", "worse"] ["order"] (defScope s_next_pairs) := ⟨rfl, rfl, rfl, by decide +kernel, rfl, by decide +kernel, by decide +kernel⟩
theorem next_pairs_cs1 : CompScope (defScope s_next_pairs) ["order", "known", "labels", "pairs", "better", "worse"] { kind := PySem.ScopeKind.function, names := [(PySem.Str.ofString ".0", PySem.NameKind.local), (PySem.Str.ofString "pair", PySem.NameKind.local)], isGenerator := false, isCoroutine := false, more := [] : PySem.Scope } ["pair"] 1 [] := ⟨rfl, by decide +kernel, by decide +kernel, by decide +kernel, rfl, by decide +kernel, by decide +kernel⟩
theorem next_pairs_cs2 : CompScope (defScope s_next_pairs) ["order", "known", "labels", "pairs", "better", "worse"] { kind := PySem.ScopeKind.function, names := [ (PySem.Str.ofString ".0", PySem.NameKind.local), (PySem.Str.ofString "better", PySem.NameKind.local), (PySem.Str.ofString "worse", PySem.NameKind.local)], isGenerator := false, isCoroutine := false, more := [] : PySem.Scope } ["better", "worse"] 2 [] := ⟨rfl, by decide +kernel, by decide +kernel, by decide +kernel, rfl, by decide +kernel, by decide +kernel⟩
theorem next_pairs_cs3 : CompScope (defScope s_next_pairs) ["order", "known", "labels", "pairs", "better", "worse"] { kind := PySem.ScopeKind.function, names := [ (PySem.Str.ofString ".0", PySem.NameKind.local), (PySem.Str.ofString "label", PySem.NameKind.local), (PySem.Str.ofString "better", PySem.NameKind.free), (PySem.Str.ofString "known", PySem.NameKind.free), (PySem.Str.ofString "worse", PySem.NameKind.free)], isGenerator := false, isCoroutine := false, more := [] : PySem.Scope } ["label", "known", "better", "worse"] 1 [1, 4, 5] := ⟨rfl, by decide +kernel, by decide +kernel, by decide +kernel, rfl, by decide +kernel, by decide +kernel⟩
abbrev s_show_table : Stmt := top 42
theorem sc_show_table : FnScope ["table", "states", "inner", "order", "words", "pairs"] ["table"] (defScope s_show_table) := ⟨rfl, rfl, rfl, by decide +kernel, rfl, by decide +kernel, by decide +kernel⟩
theorem show_table_cs1 : CompScope (defScope s_show_table) ["table", "states", "inner", "order", "words", "pairs"] { kind := PySem.ScopeKind.function, names := [ (PySem.Str.ofString ".0", PySem.NameKind.local), (PySem.Str.ofString "goes", PySem.NameKind.local), (PySem.Str.ofString "ends", PySem.NameKind.local), (PySem.Str.ofString "words_of_state", PySem.NameKind.globalImplicit)], isGenerator := false, isCoroutine := false, more := [] : PySem.Scope } ["goes", "ends"] 2 [] := ⟨rfl, by decide +kernel, by decide +kernel, by decide +kernel, rfl, by decide +kernel, by decide +kernel⟩
theorem show_table_cs2 : CompScope (defScope s_show_table) ["table", "states", "inner", "order", "words", "pairs"] { kind := PySem.ScopeKind.function, names := [ (PySem.Str.ofString ".0", PySem.NameKind.local), (PySem.Str.ofString "better", PySem.NameKind.local), (PySem.Str.ofString "worse", PySem.NameKind.local)], isGenerator := false, isCoroutine := false, more := [] : PySem.Scope } ["better", "worse"] 2 [] := ⟨rfl, by decide +kernel, by decide +kernel, by decide +kernel, rfl, by decide +kernel, by decide +kernel⟩
abbrev s_refuse_too_great : Stmt := top 27
theorem sc_refuse_too_great : FnScope ["states", "pairs", "goes", "ends"] ["states", "pairs"] (defScope s_refuse_too_great) := ⟨rfl, rfl, rfl, by decide +kernel, rfl, by decide +kernel, by decide +kernel⟩
abbrev s_labels_of : Stmt := top 30
theorem sc_labels_of : FnScope ["goes"] ["goes"] (defScope s_labels_of) := ⟨rfl, rfl, rfl, by decide +kernel, rfl, by decide +kernel, by decide +kernel⟩
theorem labels_of_cs1 : CompScope (defScope s_labels_of) ["goes"] { kind := PySem.ScopeKind.function, names := [ (PySem.Str.ofString ".0", PySem.NameKind.local), (PySem.Str.ofString "label", PySem.NameKind.local), (PySem.Str.ofString "number", PySem.NameKind.local)], isGenerator := false, isCoroutine := false, more := [] : PySem.Scope } ["label", "number"] 2 [] := ⟨rfl, by decide +kernel, by decide +kernel, by decide +kernel, rfl, by decide +kernel, by decide +kernel⟩
abbrev s_labels_told : Stmt := top 29
theorem sc_labels_told : FnScope ["states", "pairs", "labels", "goes", "ends", "better", "worse"] ["states", "pairs"] (defScope s_labels_told) := ⟨rfl, rfl, rfl, by decide +kernel, rfl, by decide +kernel, by decide +kernel⟩
abbrev s_is_name : Stmt := top 13
theorem sc_is_name : FnScope ["thing"] ["thing"] (defScope s_is_name) := ⟨rfl, rfl, rfl, by decide +kernel, rfl, by decide +kernel, by decide +kernel⟩
theorem is_name_cs1 : CompScope (defScope s_is_name) ["thing"] { kind := PySem.ScopeKind.function, names := [(PySem.Str.ofString ".0", PySem.NameKind.local), (PySem.Str.ofString "sign", PySem.NameKind.local)], isGenerator := false, isCoroutine := false, more := [] : PySem.Scope } ["sign"] 1 [] := ⟨rfl, by decide +kernel, by decide +kernel, by decide +kernel, rfl, by decide +kernel, by decide +kernel⟩
abbrev s_refuse_no_names : Stmt := top 28
theorem sc_refuse_no_names : FnScope ["states", "pairs", "label"] ["states", "pairs"] (defScope s_refuse_no_names) := ⟨rfl, rfl, rfl, by decide +kernel, rfl, by decide +kernel, by decide +kernel⟩
abbrev s_is_whole : Stmt := top 12
theorem sc_is_whole : FnScope ["thing"] ["thing"] (defScope s_is_whole) := ⟨rfl, rfl, rfl, by decide +kernel, rfl, by decide +kernel, by decide +kernel⟩
abbrev s_is_place : Stmt := top 14
theorem sc_is_place : FnScope ["number", "many"] ["number", "many"] (defScope s_is_place) := ⟨rfl, rfl, rfl, by decide +kernel, rfl, by decide +kernel, by decide +kernel⟩
abbrev s_refuse_no_places : Stmt := top 31
theorem sc_refuse_no_places : FnScope ["states", "inner", "goes", "ends", "label", "number"] ["states", "inner"] (defScope s_refuse_no_places) := ⟨rfl, rfl, rfl, by decide +kernel, rfl, by decide +kernel, by decide +kernel⟩
abbrev s_is_one_twice : Stmt := top 33
theorem sc_is_one_twice : FnScope ["labels"] ["labels"] (defScope s_is_one_twice) := ⟨rfl, rfl, rfl, by decide +kernel, rfl, by decide +kernel, by decide +kernel⟩
abbrev s_refuse_twice : Stmt := top 32
theorem sc_refuse_twice : FnScope ["states", "goes", "ends"] ["states"] (defScope s_refuse_twice) := ⟨rfl, rfl, rfl, by decide +kernel, rfl, by decide +kernel, by decide +kernel⟩
abbrev s_worse_by_better : Stmt := top 19
theorem sc_worse_by_better : FnScope ["pairs", "worse_labels", "better", "worse"] ["pairs"] (defScope s_worse_by_better) := ⟨rfl, rfl, rfl, by decide +kernel, rfl, by decide +kernel, by decide +kernel⟩
abbrev s_reached : Stmt := top 20
theorem sc_reached : FnScope ["worse_labels", "start", "came_from", "layer", "further", "better", "worse"] ["worse_labels", "start"] (defScope s_reached) := ⟨rfl, rfl, rfl, by decide +kernel, rfl, by decide +kernel, by decide +kernel⟩
abbrev s_all_that_follows : Stmt := top 18
theorem sc_all_that_follows : FnScope ["pairs", "worse_labels", "order", "better", "worse"] ["pairs"] (defScope s_all_that_follows) := ⟨rfl, rfl, rfl, by decide +kernel, rfl, by decide +kernel, by decide +kernel⟩
abbrev s_order_of : Stmt := top 16
theorem sc_order_of : FnScope ["pairs", "order", "better", "worse"] ["pairs"] (defScope s_order_of) := ⟨rfl, rfl, rfl, by decide +kernel, rfl, by decide +kernel, by decide +kernel⟩
abbrev s_sorted_state : Stmt := top 34
theorem sc_sorted_state : FnScope ["goes", "ends"] ["goes", "ends"] (defScope s_sorted_state) := ⟨rfl, rfl, rfl, by decide +kernel, rfl, by decide +kernel, by decide +kernel⟩
theorem sorted_state_cs1 : CompScope (defScope s_sorted_state) ["goes", "ends"] { kind := PySem.ScopeKind.function, names := [ (PySem.Str.ofString ".0", PySem.NameKind.local), (PySem.Str.ofString "label", PySem.NameKind.local), (PySem.Str.ofString "number", PySem.NameKind.local)], isGenerator := false, isCoroutine := false, more := [] : PySem.Scope } ["label", "number"] 2 [] := ⟨rfl, by decide +kernel, by decide +kernel, by decide +kernel, rfl, by decide +kernel, by decide +kernel⟩
abbrev s_table_of : Stmt := top 26
theorem sc_table_of : FnScope ["states", "inner", "pairs", "order"] ["states", "inner", "pairs"] (defScope s_table_of) := ⟨rfl, rfl, rfl, by decide +kernel, rfl, by decide +kernel, by decide +kernel⟩
theorem table_of_cs1 : CompScope (defScope s_table_of) ["states", "inner", "pairs", "order"] { kind := PySem.ScopeKind.function, names := [ (PySem.Str.ofString ".0", PySem.NameKind.local), (PySem.Str.ofString "goes", PySem.NameKind.local), (PySem.Str.ofString "ends", PySem.NameKind.local), (PySem.Str.ofString "sorted_state", PySem.NameKind.globalImplicit)], isGenerator := false, isCoroutine := false, more := [] : PySem.Scope } ["goes", "ends"] 2 [] := ⟨rfl, by decide +kernel, by decide +kernel, by decide +kernel, rfl, by decide +kernel, by decide +kernel⟩
abbrev s__law_turned : Stmt := top 52
theorem sc__law_turned : FnScope ["_law_some", "_law_cell", "_law_turn"] ["_law_some", "_law_cell"] (defScope s__law_turned) := ⟨rfl, rfl, rfl, by decide +kernel, rfl, by decide +kernel, by decide +kernel⟩
abbrev s_parted : Stmt := top 39
theorem sc_parted : FnScope ["words", "sign", "groups", "word"] ["words", "sign"] (defScope s_parted) := ⟨rfl, rfl, rfl, by decide +kernel, rfl, by decide +kernel, by decide +kernel⟩
abbrev s_read_twos : Stmt := top 47
theorem sc_read_twos : FnScope ["words", "groups"] ["words"] (defScope s_read_twos) := ⟨rfl, rfl, rfl, by decide +kernel, rfl, by decide +kernel, by decide +kernel⟩
theorem read_twos_cs1 : CompScope (defScope s_read_twos) ["words", "groups"] { kind := PySem.ScopeKind.function, names := [ (PySem.Str.ofString ".0", PySem.NameKind.local), (PySem.Str.ofString "group", PySem.NameKind.local), (PySem.Str.ofString "len", PySem.NameKind.globalImplicit)], isGenerator := false, isCoroutine := false, more := [] : PySem.Scope } ["group"] 1 [] := ⟨rfl, by decide +kernel, by decide +kernel, by decide +kernel, rfl, by decide +kernel, by decide +kernel⟩
abbrev s_read_label : Stmt := top 48
theorem sc_read_label : FnScope ["word"] ["word"] (defScope s_read_label) := ⟨rfl, rfl, rfl, by decide +kernel, rfl, by decide +kernel, by decide +kernel⟩
abbrev s_read_number : Stmt := top 37
theorem sc_read_number : FnScope ["word"] ["word"] (defScope s_read_number) := ⟨rfl, rfl, rfl, by decide +kernel, rfl, by decide +kernel, by decide +kernel⟩
theorem read_number_cs1 : CompScope (defScope s_read_number) ["word"] { kind := PySem.ScopeKind.function, names := [(PySem.Str.ofString ".0", PySem.NameKind.local), (PySem.Str.ofString "sign", PySem.NameKind.local)], isGenerator := false, isCoroutine := false, more := [] : PySem.Scope } ["sign"] 1 [] := ⟨rfl, by decide +kernel, by decide +kernel, by decide +kernel, rfl, by decide +kernel, by decide +kernel⟩
abbrev s_read_state : Stmt := top 46
theorem sc_read_state : FnScope ["words", "parts", "goes"] ["words"] (defScope s_read_state) := ⟨rfl, rfl, rfl, by decide +kernel, rfl, by decide +kernel, by decide +kernel⟩
theorem read_state_cs1 : CompScope (defScope s_read_state) ["words", "parts", "goes"] { kind := PySem.ScopeKind.function, names := [ (PySem.Str.ofString ".0", PySem.NameKind.local), (PySem.Str.ofString "label", PySem.NameKind.local), (PySem.Str.ofString "number", PySem.NameKind.local), (PySem.Str.ofString "read_label", PySem.NameKind.globalImplicit), (PySem.Str.ofString "read_number", PySem.NameKind.globalImplicit)], isGenerator := false, isCoroutine := false, more := [] : PySem.Scope } ["label", "number"] 2 [] := ⟨rfl, by decide +kernel, by decide +kernel, by decide +kernel, rfl, by decide +kernel, by decide +kernel⟩
theorem read_state_cs2 : CompScope (defScope s_read_state) ["words", "parts", "goes"] { kind := PySem.ScopeKind.function, names := [ (PySem.Str.ofString ".0", PySem.NameKind.local), (PySem.Str.ofString "label", PySem.NameKind.local), (PySem.Str.ofString "read_label", PySem.NameKind.globalImplicit)], isGenerator := false, isCoroutine := false, more := [] : PySem.Scope } ["label"] 1 [] := ⟨rfl, by decide +kernel, by decide +kernel, by decide +kernel, rfl, by decide +kernel, by decide +kernel⟩
abbrev s_read_table : Stmt := top 43
theorem sc_read_table : FnScope ["text", "parts", "states", "inner", "pairs"] ["text"] (defScope s_read_table) := ⟨rfl, rfl, rfl, by decide +kernel, rfl, by decide +kernel, by decide +kernel⟩
theorem read_table_cs1 : CompScope (defScope s_read_table) ["text", "parts", "states", "inner", "pairs"] { kind := PySem.ScopeKind.function, names := [ (PySem.Str.ofString ".0", PySem.NameKind.local), (PySem.Str.ofString "words", PySem.NameKind.local), (PySem.Str.ofString "read_state", PySem.NameKind.globalImplicit)], isGenerator := false, isCoroutine := false, more := [] : PySem.Scope } ["words"] 1 [] := ⟨rfl, by decide +kernel, by decide +kernel, by decide +kernel, rfl, by decide +kernel, by decide +kernel⟩
theorem read_table_cs2 : CompScope (defScope s_read_table) ["text", "parts", "states", "inner", "pairs"] { kind := PySem.ScopeKind.function, names := [ (PySem.Str.ofString ".0", PySem.NameKind.local), (PySem.Str.ofString "better", PySem.NameKind.local), (PySem.Str.ofString "worse", PySem.NameKind.local), (PySem.Str.ofString "read_label", PySem.NameKind.globalImplicit)], isGenerator := false, isCoroutine := false, more := [] : PySem.Scope } ["better", "worse"] 2 [] := ⟨rfl, by decide +kernel, by decide +kernel, by decide +kernel, rfl, by decide +kernel, by decide +kernel⟩
abbrev s__law_kinds : Stmt := top 59
theorem sc__law_kinds : FnScope ["_law_table", "_law_state_here", "_law_row"] ["_law_table"] (defScope s__law_kinds) := ⟨rfl, rfl, rfl, by decide +kernel, rfl, by decide +kernel, by decide +kernel⟩
abbrev s_law : Stmt := top 60
theorem sc_law : FnScope ["_law_script", "_law_full", "_law_many", "_law_size", "_law_labels", "_law_states", "_law_pairs_here", "_law_inner", "_law_order", "_law_sides", "_law_text", "_law_shown", "_law_turn", "_law_odd", "_law_words_here", "_law_table"] ["_law_script"] (defScope s_law) := ⟨rfl, rfl, rfl, by decide +kernel, rfl, by decide +kernel, by decide +kernel⟩
theorem law_cs1 : CompScope (defScope s_law) ["_law_script", "_law_full", "_law_many", "_law_size", "_law_labels", "_law_states", "_law_pairs_here", "_law_inner", "_law_order", "_law_sides", "_law_text", "_law_shown", "_law_turn", "_law_odd", "_law_words_here", "_law_table"] { kind := PySem.ScopeKind.function, names := [ (PySem.Str.ofString ".0", PySem.NameKind.local), (PySem.Str.ofString "_law_k", PySem.NameKind.local), (PySem.Str.ofString "_law_state", PySem.NameKind.globalImplicit), (PySem.Str.ofString "_law_full", PySem.NameKind.free), (PySem.Str.ofString "_law_labels", PySem.NameKind.free), (PySem.Str.ofString "_law_many", PySem.NameKind.free), (PySem.Str.ofString "_law_script", PySem.NameKind.free), (PySem.Str.ofString "_law_size", PySem.NameKind.free)], isGenerator := false, isCoroutine := false, more := [] : PySem.Scope } ["_law_k", "_law_script", "_law_labels", "_law_many", "_law_full", "_law_size"] 1 [0, 4, 2, 1, 3] := ⟨rfl, by decide +kernel, by decide +kernel, by decide +kernel, rfl, by decide +kernel, by decide +kernel⟩
theorem law_cs2 : CompScope (defScope s_law) ["_law_script", "_law_full", "_law_many", "_law_size", "_law_labels", "_law_states", "_law_pairs_here", "_law_inner", "_law_order", "_law_sides", "_law_text", "_law_shown", "_law_turn", "_law_odd", "_law_words_here", "_law_table"] { kind := PySem.ScopeKind.function, names := [ (PySem.Str.ofString ".0", PySem.NameKind.local), (PySem.Str.ofString "_law_goes", PySem.NameKind.local), (PySem.Str.ofString "_law_ends", PySem.NameKind.local), (PySem.Str.ofString "sorted", PySem.NameKind.globalImplicit)], isGenerator := false, isCoroutine := false, more := [] : PySem.Scope } ["_law_goes", "_law_ends"] 2 [] := ⟨rfl, by decide +kernel, by decide +kernel, by decide +kernel, rfl, by decide +kernel, by decide +kernel⟩
theorem law_cs3 : CompScope (defScope s_law) ["_law_script", "_law_full", "_law_many", "_law_size", "_law_labels", "_law_states", "_law_pairs_here", "_law_inner", "_law_order", "_law_sides", "_law_text", "_law_shown", "_law_turn", "_law_odd", "_law_words_here", "_law_table"] { kind := PySem.ScopeKind.function, names := [ (PySem.Str.ofString ".0", PySem.NameKind.local), (PySem.Str.ofString "_law_goes", PySem.NameKind.local), (PySem.Str.ofString "_law_ends", PySem.NameKind.local), (PySem.Str.ofString "_law_turned", PySem.NameKind.globalImplicit), (PySem.Str.ofString "_law_turn", PySem.NameKind.free)], isGenerator := false, isCoroutine := false, more := [] : PySem.Scope } ["_law_goes", "_law_ends", "_law_turn"] 2 [12] := ⟨rfl, by decide +kernel, by decide +kernel, by decide +kernel, rfl, by decide +kernel, by decide +kernel⟩
structure Blt (mg : Str → Option Value) : Prop where
  b_all : mg "all" = none
  b_any : mg "any" = none
  b_bool : mg "bool" = none
  b_dict : mg "dict" = none
  b_enumerate : mg "enumerate" = none
  b_int : mg "int" = none
  b_isinstance : mg "isinstance" = none
  b_len : mg "len" = none
  b_list : mg "list" = none
  b_range : mg "range" = none
  b_set : mg "set" = none
  b_sorted : mg "sorted" = none
  b_str : mg "str" = none
  b_tuple : mg "tuple" = none
  c_LONGEST_NAME : ∃ t, mg "LONGEST_NAME" = some (.int 8 t)
  c_MOST_ENDS : ∃ t, mg "MOST_ENDS" = some (.int 8 t)
  c_MOST_FIGURES : ∃ t, mg "MOST_FIGURES" = some (.int 4 t)
  c_MOST_GOES : ∃ t, mg "MOST_GOES" = some (.int 8 t)
  c_MOST_PAIRS : ∃ t, mg "MOST_PAIRS" = some (.int 40 t)
  c_MOST_STATES : ∃ t, mg "MOST_STATES" = some (.int 8 t)
structure Ers (K : PySem.W.Frag) (mg : Str → Option Value) : Prop where
  t_SIGNS : mg "SIGNS" = some (.ref (clsA K "SIGNS"))
  tv_SIGNS : ∀ H, SqT K H (clsA K "SIGNS") [.str "/", .str "|", .str ",", .str ":"]
theorem len_1 {us : List Value} (h : us.length = 1) : ∃ x0, us = [x0] := by
  cases us with
  | nil => cases h
  | cons x0 t => exact ⟨x0, by rw [List.length_eq_zero_iff.mp (Nat.succ.inj h)]⟩
theorem len_2 {us : List Value} (h : us.length = 2) : ∃ x0 x1, us = [x0, x1] := by
  cases us with
  | nil => cases h
  | cons x0 t =>
    obtain ⟨x1, rfl⟩ := len_1 (Nat.succ.inj h)
    exact ⟨x0, x1, rfl⟩
theorem len_3 {us : List Value} (h : us.length = 3) : ∃ x0 x1 x2, us = [x0, x1, x2] := by
  cases us with
  | nil => cases h
  | cons x0 t =>
    obtain ⟨x1, x2, rfl⟩ := len_2 (Nat.succ.inj h)
    exact ⟨x0, x1, x2, rfl⟩
theorem len_4 {us : List Value} (h : us.length = 4) : ∃ x0 x1 x2 x3, us = [x0, x1, x2, x3] := by
  cases us with
  | nil => cases h
  | cons x0 t =>
    obtain ⟨x1, x2, x3, rfl⟩ := len_3 (Nat.succ.inj h)
    exact ⟨x0, x1, x2, x3, rfl⟩
theorem len_5 {us : List Value} (h : us.length = 5) : ∃ x0 x1 x2 x3 x4, us = [x0, x1, x2, x3, x4] := by
  cases us with
  | nil => cases h
  | cons x0 t =>
    obtain ⟨x1, x2, x3, x4, rfl⟩ := len_4 (Nat.succ.inj h)
    exact ⟨x0, x1, x2, x3, x4, rfl⟩
theorem len_6 {us : List Value} (h : us.length = 6) : ∃ x0 x1 x2 x3 x4 x5, us = [x0, x1, x2, x3, x4, x5] := by
  cases us with
  | nil => cases h
  | cons x0 t =>
    obtain ⟨x1, x2, x3, x4, x5, rfl⟩ := len_5 (Nat.succ.inj h)
    exact ⟨x0, x1, x2, x3, x4, x5, rfl⟩
theorem len_7 {us : List Value} (h : us.length = 7) : ∃ x0 x1 x2 x3 x4 x5 x6, us = [x0, x1, x2, x3, x4, x5, x6] := by
  cases us with
  | nil => cases h
  | cons x0 t =>
    obtain ⟨x1, x2, x3, x4, x5, x6, rfl⟩ := len_6 (Nat.succ.inj h)
    exact ⟨x0, x1, x2, x3, x4, x5, x6, rfl⟩
theorem len_8 {us : List Value} (h : us.length = 8) : ∃ x0 x1 x2 x3 x4 x5 x6 x7, us = [x0, x1, x2, x3, x4, x5, x6, x7] := by
  cases us with
  | nil => cases h
  | cons x0 t =>
    obtain ⟨x1, x2, x3, x4, x5, x6, x7, rfl⟩ := len_7 (Nat.succ.inj h)
    exact ⟨x0, x1, x2, x3, x4, x5, x6, x7, rfl⟩
section
variable {P : Program} {w : World} {K : PySem.W.Frag} {mg : Str → Option Value} {base : Heap}
theorem cell_some {ns : List Int} {k : Int} (hk : 0 ≤ k) (hlt : k < ns.length) : atI (ns.map V.int) k = some (V.int (cellAt ns k)) := by
  obtain ⟨n, rfl⟩ := Int.eq_ofNat_of_zero_le hk
  have hn : n < ns.length := by omega
  refine atI_nat ?_
  rw [List.getElem?_map, List.getElem?_eq_getElem hn]
  show some (V.int ns[n]) = some (V.int ((ns[((n : Int)).toNat]?).getD 0))
  rw [Int.toNat_natCast, List.getElem?_eq_getElem hn]
  rfl
theorem cell_none {ns : List Int} {k : Int} (hk : 0 ≤ k) (hlt : ¬ k < ns.length) : cellAt ns k = 0 := by
  unfold cellAt
  rw [List.getElem?_eq_none (by omega)]
  rfl

def sp__law_cell_at (K : PySem.W.Frag) : Sp := fun vs H Q _ => ∃ a ns k, vs = [.ref a, .int k] ∧ 0 ≤ k ∧ SqL K H a (ns.map V.int) ∧ Q (.int (cellAt ns k)) H
set_option maxHeartbeats 4000000 in
seal L2.PE L2.PA L2.PS L2.PSs L2.PT L2.PW L2.PC L2.PG L2.PGs L2.PI L2.PF L2.PSet L2.OpR L2.UnR L2.CallR L2.MtR L2.IxR L2.SlR L2.PO in
theorem ok__law_cell_at {f : Addr} {fd : FuncData} (B : Blt mg) (ER : Ers K mg)  (F : Fun K "_law_cell_at" "_law_cell_at" s__law_cell_at f fd) : FnOk P w K mg base CX0 1 f fd ["_law_script", "_law_k"] (sp__law_cell_at K) := by
  refine F.ok sc__law_cell_at (fun vs H Q E h => ?_) (fun cdv A outer s H vs Q E hr h => ?_)
  · obtain ⟨a, ns, k, rfl, _⟩ := h
    rfl
  · obtain ⟨a, ns, k, rfl, hk, hS, q⟩ := h
    refine ⟨_, (pss_cons (ps_if (pt_cmpR op_lt (pv 1) (pe_callB call_len B.b_len (pa_cons (pv 0) pa_nil)) (nomark _)) (pss_one (ps_ret (pe_ix ix_seq (pv 0) (pv 1)))) pss_nil)
      (pss_one (ps_ret pe_int))), ?_⟩
    refine ⟨_, rfl, _, rfl, _, _, rfl, Or.inl ⟨_, hS, rfl⟩, _, _, rfl, rfl, _, rfl, ?_⟩
    rw [List.length_map]
    refine ite2 (fun hlt => ?_) (fun hge => ?_)
    · have hlt := of_decide_eq_true hlt
      exact ⟨_, rfl, _, rfl, Or.inl ⟨_, _, _, _, rfl, rfl, hS, cell_some hk hlt, q⟩⟩
    · have hge : ¬ k < (ns.length : Int) := fun z => hge (decide_eq_true z)
      show Q (.int 0) H
      rw [cell_none hk hge] at q
      exact q
theorem call__law_cell_at {f : Addr} {fd : FuncData} (B : Blt mg) (ER : Ers K mg)  (F : Fun K "_law_cell_at" "_law_cell_at" s__law_cell_at f fd) (hm : mg "_law_cell_at" = some (.ref f)) : Callee P w K mg base "_law_cell_at" 1 ["_law_script", "_law_k"] (sp__law_cell_at K) :=
  ⟨f, fd, ok__law_cell_at B ER  F, hm, F.kp, F.binds fun _ _ _ _ _ _ us hl => (by obtain ⟨x0, x1, rfl⟩ := len_2 hl; rfl)⟩
theorem letter_at (c : Int) : atI ("abcdefghijklmnopqrstuvwxyz" : Str).cps.toList (c % 26) = some (97 + (c % 26).toNat) := by
  have h0 := Int.emod_nonneg c (by decide : (26 : Int) ≠ 0)
  have h1 := Int.emod_lt_of_pos c (by decide : (0 : Int) < 26)
  generalize c % 26 = i at h0 h1 ⊢
  obtain ⟨n, rfl⟩ := Int.eq_ofNat_of_zero_le h0
  have hn : n < 26 := by omega
  refine atI_nat ?_
  have : ∀ n, n < 26 → ("abcdefghijklmnopqrstuvwxyz" : Str).cps.toList[n]? = some (97 + n) := by decide +kernel
  rw [Int.toNat_natCast]
  exact this n hn
theorem sq_bound : ∀ n : Nat, n < 8 → 0 < (0 + (n : Int)) * (0 + (n : Int)) + 3 ∧ (0 + (n : Int)) * (0 + (n : Int)) + 3 < 1073741824 := by
  intro n hn
  have : ∀ n, n < 8 → 0 < (0 + ((n : Nat) : Int)) * (0 + ((n : Nat) : Int)) + 3 ∧ (0 + ((n : Nat) : Int)) * (0 + ((n : Nat) : Int)) + 3 < 1073741824 := by decide
  exact this n hn
theorem nodup_map {α β : Type} {f : α → β} {l : List α} (hl : l.Nodup) (h : ∀ a ∈ l, ∀ b ∈ l, f a = f b → a = b) : (l.map f).Nodup := by
  unfold List.Nodup at *
  rw [List.pairwise_map]
  exact hl.imp_of_mem fun {a b} ha hb hne e => hne (h a ha b hb e)
theorem nodup_pre {bs : List Nat} {m : Nat} (hm : m ≤ bs.length) : ((List.range m).map fun k => tx (bs.take (k + 1))).Nodup := by
  refine nodup_map List.nodup_range fun a ha b hb e => ?_
  rw [List.mem_range] at ha hb
  have := congrArg List.length (tx_inj e)
  rw [List.length_take, List.length_take] at this
  omega
theorem nodup_one {bs : List Nat} {p m : Nat} {c : Int} (hp : p < bs.length) (hm : m ≤ 26) : ((List.range m).map fun k : Nat => tx (bs.set p (97 + ((c + (0 + (k : Int))) % 26).toNat))).Nodup := by
  refine nodup_map List.nodup_range fun a ha b hb e => ?_
  rw [List.mem_range] at ha hb
  have e2 := congrArg (fun l => l[p]?) (tx_inj e)
  simp only [List.getElem?_set_self hp] at e2
  have e3 := Option.some.inj e2
  omega
theorem map_sing (cs : List Nat) : (cs.map fun c => V.str ⟨#[c]⟩) = (cs.map fun c => (⟨#[c]⟩ : Str)).map V.str := by rw [List.map_map]; rfl
theorem joinOk_sing {cs : List Nat} (h : cs.length ≤ 8) : JoinOk (Str.ofString "") (cs.map fun c => (⟨#[c]⟩ : Str)) = true := by
  refine joinOk_small (fun y hy => ?_) (by rw [List.length_map]; omega)
  obtain ⟨c, _, rfl⟩ := List.mem_map.mp hy
  show 1 ≤ 8
  decide
def LowS (x : Str) : Prop := 1 ≤ x.length ∧ x.length ≤ 8 ∧ ∀ c ∈ x.cps.toList, 97 ≤ c ∧ c ≤ 122
theorem low_take {bs : List Nat} {k : Nat} (hb : ∀ c ∈ bs, 97 ≤ c ∧ c ≤ 122) (h1 : 1 ≤ bs.length) (hk : k + 1 ≤ 8) : LowS (tx (bs.take (k + 1))) := by
  refine ⟨by rw [tx_len, List.length_take]; omega, by rw [tx_len, List.length_take]; omega, fun c hc => ?_⟩
  rw [tx_list] at hc
  exact hb c (List.mem_of_mem_take hc)
theorem low_set {bs : List Nat} {p c : Nat} (hb : ∀ c ∈ bs, 97 ≤ c ∧ c ≤ 122) (h1 : 1 ≤ bs.length) (h8 : bs.length ≤ 8) (hc : 97 ≤ c ∧ c ≤ 122) : LowS (tx (bs.set p c)) := by
  refine ⟨by rw [tx_len, List.length_set]; omega, by rw [tx_len, List.length_set]; omega, fun d hd => ?_⟩
  rw [tx_list] at hd
  rcases List.mem_or_eq_of_mem_set hd with hd | hd
  · exact hb d hd
  · rw [hd]; exact hc
theorem low_let (c : Int) : 97 ≤ 97 + (c % 26).toNat ∧ 97 + (c % 26).toNat ≤ 122 := by
  have h0 := Int.emod_nonneg c (by decide : (26 : Int) ≠ 0)
  have h1 := Int.emod_lt_of_pos c (by decide : (0 : Int) < 26)
  omega

def sp__law_names (_ : PySem.W.Frag) : Sp := fun vs H Q _ => ∃ c m, vs = [.int c, .int m] ∧ 0 ≤ m ∧ m ≤ 8 ∧ ∀ (ls : List Str) (p : Addr) (H' : Hp), ls.length = m.toNat → ls.Nodup → (∀ x ∈ ls, LowS x) → H p = none → Same H H' → H' p = some (.lst (ls.map V.str)) → Q (.ref p) H'
set_option maxHeartbeats 4000000 in
seal L2.PE L2.PA L2.PS L2.PSs L2.PT L2.PW L2.PC L2.PG L2.PGs L2.PI L2.PF L2.PSet L2.OpR L2.UnR L2.CallR L2.MtR L2.IxR L2.SlR L2.PO in
theorem ok__law_names {f : Addr} {fd : FuncData} (B : Blt mg) (ER : Ers K mg)  (F : Fun K "_law_names" "_law_names" s__law_names f fd) : FnOk P w K mg base CX0 1 f fd ["_law_cell", "_law_many"] (sp__law_names K) := by
  refine F.ok sc__law_names (fun vs H Q E h => ?_) (fun cdv A outer s H vs Q E hr h => ?_)
  · obtain ⟨c, m, rfl, _⟩ := h
    rfl
  · obtain ⟨c, m, rfl, hm0, hm8, q⟩ := h
    have z0 : 0 ≤ c % 10 ^ Int.toNat 9 := Int.emod_nonneg _ (by decide)
    refine ⟨_, (pss_cons (ps_set (i := 2) sc__law_names.nd pe_str)
      (pss_cons (ps_set (i := 0) sc__law_names.nd (pe_op op_mod (pv 0) (pe_op op_pow pe_int pe_int)))
      (pss_cons (ps_set (i := 3) sc__law_names.nd (pe_op op_add pe_int (pe_op op_mod (pv 0) pe_int)))
      (pss_cons (ps_set (i := 4) sc__law_names.nd (pe_comp (te := tOp (rIx K) (tVar 1) (tOp xMod (tOp xDiv (tVar 2) (tOp xAdd (tOp xMul (tVar 0) (tVar 0)) (tC (.int 3)))) (tC (.int 26)))) rfl _law_names_cs1 (pi_range1 rfl B.b_range (pa_cons pe_int pa_nil)) (fun _ _ _ _ _ => (pg_name (i := 0) _law_names_cs1.nd)) (fun _ _ _ _ _ => pf_nil) (fun _ _ _ _ _ => (pe_ix ix_seq (pv 1) (pe_op op_mod (pe_op op_fdiv (pv 2) (pe_op op_add (pe_op op_mul (pv 0) (pv 0)) pe_int)) pe_int)))))
      (pss_cons (ps_if (pt_cmpR op_eq (pe_op op_mod (pe_op op_fdiv (pv 0) pe_int) pe_int) pe_int (nomark _)) (pss_one (ps_ret (pe_comp (te := tBM K "str" (rJoin K) (tC (.str "")) (tCons (tSl (rSlL K) (tVar 1) tNoPart (tPart (tOp (rI0 fun i j => .int (i + j)) (tVar 0) (tC (.int 1))))) tNil)) rfl _law_names_cs2 (pi_range1 rfl B.b_range (pa_cons (pv 1) pa_nil)) (fun _ _ _ _ _ => (pg_name (i := 0) _law_names_cs2.nd)) (fun _ _ _ _ _ => pf_nil) (fun _ _ _ _ _ => (pe_bm PySem.F.plainAttrs_str PySem.F.slot_str_join PySem.F.type_str_join mt_join pe_str (pa_cons (pe_slice sl_list (pv 1) po_none (po_some (pe_op op_add (pv 0) pe_int))) pa_nil)))))) pss_nil)
      (pss_cons (ps_set (i := 5) sc__law_names.nd (pe_lst pa_nil))
      (pss_cons (ps_for PassesOwn.never rfl (pi_range1 rfl B.b_range (pa_cons (pv 1) pa_nil)) (pg_name (i := 6) sc__law_names.nd) (pss_cons (ps_set (i := 7) sc__law_names.nd (pe_slice sl_list (pv 4) po_none (po_some (pv 3))))
        (pss_cons (ps_asg (pe_ix ix_seq (pv 2) (pe_op op_mod (pe_op op_add (pe_op op_fdiv (pv 0) pe_int) (pv 6)) pe_int)) (pg_sub (pv 7) (pe_op op_mod (pe_op op_fdiv (pv 0) pe_int) (pv 3)) set_list))
        (pss_one (ps_expr (pe_bm PySem.F.plainAttrs_list PySem.F.slot_list_append PySem.F.type_list_append mr_append (pv 5) (pa_cons (pe_bm PySem.F.plainAttrs_str PySem.F.slot_str_join PySem.F.type_str_join mt_join pe_str (pa_cons (pv 7) pa_nil)) pa_nil)))))))
      (pss_one (ps_ret (pv 5)))))))))), ?_⟩
    refine seq_setC ?_
    try dsimp only
    refine ⟨_, rfl, _, _, rfl, rfl, ⟨by decide, by decide, by decide⟩, _, _, rfl, rfl, (by show (0 : Int) < 10 ^ Int.toNat 9; decide), ?_⟩
    try dsimp only
    generalize c % 10 ^ Int.toNat 9 = cc at z0 ⊢
    refine ⟨_, rfl, _, _, rfl, rfl, (by show (0 : Int) < 8; decide), _, _, rfl, rfl, ?_⟩
    have s0 := Int.emod_nonneg cc (by decide : (8 : Int) ≠ 0)
    have s1 := Int.emod_lt_of_pos cc (by decide : (0 : Int) < 8)
    try dsimp only
    generalize cc % 8 = r8 at s0 s1 ⊢
    -- the base
    refine ⟨_, rfl, by decide, by decide, comp_range (fun i => V.str ⟨#[97 + (cc / ((0 + (i : Int)) * (0 + (i : Int)) + 3) % 26).toNat]⟩) (by decide) (fun i H2 D R hi s2 hD k => ?_) (fun H1 Db t1 hDb e1 => ?_)⟩
    · have hi8 : i < 8 := hi
      obtain ⟨b0, b1⟩ := sq_bound i hi8
      exact ⟨_, rfl, _, rfl, _, rfl, _, rfl, _, _, rfl, rfl, Or.inl ⟨by omega, by omega⟩, _, _, rfl, rfl, _, _, rfl, rfl, ⟨b0, b1⟩, _, _, rfl, rfl, (by show (0 : Int) < 26; decide), Or.inr (Or.inr ⟨_, _, _, rfl, rfl, by decide +kernel, letter_at _, k H2 (Same.refl _)⟩)⟩
    obtain ⟨bs, ebs⟩ : ∃ bs : List Nat, bs = (List.range 8).map fun i : Nat => 97 + (cc / ((0 + (i : Int)) * (0 + (i : Int)) + 3) % 26).toNat := ⟨_, rfl⟩
    have e1 : H1 Db = some (.lst (bs.map fun c => V.str ⟨#[c]⟩)) := by rw [ebs, List.map_map]; exact e1
    have lbs : bs.length = 8 := by rw [ebs, List.length_map, List.length_range]
    have hbs : ∀ c ∈ bs, 97 ≤ c ∧ c ≤ 122 := fun c hc => by
      rw [ebs] at hc
      obtain ⟨i, _, rfl⟩ := List.mem_map.mp hc
      exact low_let _
    clear ebs
    refine ⟨_, rfl, _, _, rfl, rfl, ⟨by decide, by decide⟩, _, _, rfl, rfl, (by show (0 : Int) < 3; decide), rfl, _, rfl, ?_⟩
    refine ite2 (fun _ => ?t1) (fun _ => ?ff)
    case t1 =>
      refine ⟨_, rfl, _, rfl, by omega, by omega, comp_range (fun k => V.str (tx (bs.take (k + 1)))) (Nat.le_trans (show m.toNat ≤ 8 by omega) (by decide)) (fun i H2 D R hi s2 hD k => ?_) (fun H2 L t2 hL e2 => ?_)⟩
      · refine ⟨rfl, _, rfl, _, rfl, _, _, rfl, rfl, _, rfl, Db, _, rfl, SqL.of (s2 _ _ e1), fun p hp => ?_⟩
        have ec : cutV (bs.map fun c => V.str ⟨#[c]⟩) none (some (0 + (i : Int) + 1)) = ((bs.take (i + 1)).map fun c => (⟨#[c]⟩ : Str)).map V.str := by
          rw [show 0 + (i : Int) + 1 = ((i + 1 : Nat) : Int) by omega, cutV_take, ← List.map_take, map_sing]
        rw [ec]
        refine ⟨Str.ofString "", p, _, rfl, rfl, SqL.of upd_same, joinOk_sing (by rw [List.length_take]; omega), ?_⟩
        rw [join_sing]
        exact k _ (same_new hp)
      · refine q ((List.range m.toNat).map fun k => tx (bs.take (k + 1))) L H2 (by simp) (nodup_pre (by omega)) (fun x hx => ?_) (t1.free hL) (t1.trans t2) (by rw [e2, List.map_map]; rfl)
        obtain ⟨k, hk, rfl⟩ := List.mem_map.mp hx
        rw [List.mem_range] at hk
        exact low_take hbs (by omega) (by omega)
    case ff =>
      refine ⟨by decide, fun L hL => ?_⟩
      have hLH : H L = none := t1.free hL
      have p0 := Int.emod_nonneg (cc / 8) (show 1 + r8 ≠ 0 by omega)
      have p1 := Int.emod_lt_of_pos (cc / 8) (show 0 < 1 + r8 by omega)
      have lt8 : (bs.take (1 + r8).toNat).length = (1 + r8).toNat := by rw [List.length_take, lbs]; omega
      refine ⟨_, rfl, _, rfl, by omega, by omega, for_range (lo := 0) (n := m.toNat) (fun i σ H' => ∃ u6 u7, σ = [some (.int cc), some (.int m), some (.str "abcdefghijklmnopqrstuvwxyz"), some (.int (1 + r8)), some (.ref Db), some (.ref L), u6, u7] ∧ Same H1 H' ∧
          H' L = some (.lst (((List.range i).map fun k : Nat => tx ((bs.take (1 + r8).toNat).set (cc / 8 % (1 + r8)).toNat (97 + ((cc / 5 + (0 + (k : Int))) % 26).toNat))).map V.str))) ⟨none, none, rfl, same_new hL, upd_same⟩ ?_ ?_⟩
      · rintro i σ H2 hi ⟨u6, u7, rfl, t2, e2⟩
        refine ⟨_, rfl, _, rfl, _, rfl, Db, _, rfl, SqL.of (t2 _ _ e1), fun p hp => ?_⟩
        have ec : cutV (bs.map fun c => V.str ⟨#[c]⟩) none (some (1 + r8)) = (bs.take (1 + r8).toNat).map fun c => V.str ⟨#[c]⟩ := by
          obtain ⟨n8, e8⟩ : ∃ n8 : Nat, 1 + r8 = (n8 : Int) := ⟨(1 + r8).toNat, by omega⟩
          rw [e8, cutV_take, ← List.map_take, Int.toNat_natCast]
        rw [ec]
        have npL : L ≠ p := ne_of_none e2 hp
        refine ⟨_, rfl, _, rfl, _, _, rfl, rfl, ⟨by decide, by decide⟩, _, rfl, _, _, rfl, rfl, _, _, rfl, rfl, (by show (0 : Int) < 26; decide), Or.inr (Or.inr ⟨_, _, _, rfl, rfl, by decide +kernel, letter_at _, ?_⟩)⟩
        refine ⟨_, rfl, _, rfl, _, _, rfl, rfl, ⟨by decide, by decide⟩, _, rfl, _, _, rfl, rfl, (by omega), p, _, _, (cc / 8 % (1 + r8)).toNat, rfl, rfl, upd_same, ixN_in p0 (by rw [List.length_map, lt8]; omega), ?_⟩
        rw [upd_upd, ← List.map_set]
        generalize hG : upd H2 p _ = G
        have g1 : G p = some (.lst (((bs.take (1 + r8).toNat).set (cc / 8 % (1 + r8)).toNat (97 + ((cc / 5 + (0 + (i : Int))) % 26).toNat)).map fun c => V.str ⟨#[c]⟩)) := by rw [← hG, upd_same]
        have g2 : G L = some (.lst (((List.range i).map fun k : Nat => tx ((bs.take (1 + r8).toNat).set (cc / 8 % (1 + r8)).toNat (97 + ((cc / 5 + (0 + (k : Int))) % 26).toNat))).map V.str)) := by rw [← hG, upd_ne npL]; exact e2
        have g3 : Same H1 G := by rw [← hG]; exact t2.trans (same_new hp)
        refine ⟨_, rfl, Or.inl ⟨rfl, _, SqL.of g2⟩, rfl, _, rfl, Str.ofString "", p, _, rfl, rfl, SqL.of (by rw [g1, map_sing]), joinOk_sing (by rw [List.length_set, lt8]; omega), ?_⟩
        rw [join_sing]
        refine ⟨L, _, _, rfl, rfl, g2, ?_, ?_⟩
        · rw [List.length_map, List.length_map, List.length_range]
          exact small1000 (by omega)
        · refine ⟨_, _, rfl, fun b o e => ?_, ?_⟩
          · rw [upd_ne (ne_of_none e hL)]; exact g3 b o e
          · rw [upd_same, List.range_succ, List.map_append, List.map_append]; rfl
      · rintro σ H2 ⟨u6, u7, rfl, t2, e2⟩
        refine ⟨_, rfl, ?_⟩
        refine q _ L H2 (by simp) (nodup_one (by rw [lt8]; omega) (by omega)) (fun x hx => ?_) hLH (t1.trans t2) e2
        obtain ⟨k, _, rfl⟩ := List.mem_map.mp hx
        exact low_set (fun c hc => hbs c (List.mem_of_mem_take hc)) (by rw [lt8]; omega) (by rw [lt8]; omega) (low_let _)
theorem call__law_names {f : Addr} {fd : FuncData} (B : Blt mg) (ER : Ers K mg)  (F : Fun K "_law_names" "_law_names" s__law_names f fd) (hm : mg "_law_names" = some (.ref f)) : Callee P w K mg base "_law_names" 1 ["_law_cell", "_law_many"] (sp__law_names K) :=
  ⟨f, fd, ok__law_names B ER  F, hm, F.kp, F.binds fun _ _ _ _ _ _ us hl => (by obtain ⟨x0, x1, rfl⟩ := len_2 hl; rfl)⟩
theorem both {A G : Prop} (k : A → G) (a : A) : G := k a
/-- a state as the law draws it -/
structure Drawn (ls : List Str) (m : Int) (s : Stt) : Prop where
  gl : s.1.length ≤ 8
  el : s.2.length ≤ 8
  gn : (s.1.map (·.1)).Nodup
  en : s.2.Nodup
  gm : ∀ g ∈ s.1, g.1 ∈ ls ∧ 0 ≤ g.2 ∧ g.2 < m
  em : ∀ x ∈ s.2, x ∈ ls

def sp__law_state (K : PySem.W.Frag) : Sp := fun vs H Q _ => ∃ (a l : Addr) (ns : List Int) (st : Int) (ls : List Str) (m : Int) (b : Bool), vs = [.ref a, .int st, .ref l, .int m, .bl b] ∧ SqL K H a (ns.map V.int) ∧ ns.length ≤ 63 ∧ 0 ≤ st ∧ SqL K H l (ls.map V.str) ∧ ls.length ≤ 8 ∧ ls.Nodup ∧ 0 < m ∧ m ≤ 8 ∧
  ∀ (t g e : Addr) (s : Stt) (gt : List Addr) (H' : Hp), Drawn ls m s → H t = none → H g = none → H e = none → g ≠ e → Same H H' → H' t = some (.tup [.ref g, .ref e]) → H' g = some (.lst (gt.map V.ref)) → Goes K H' g s.1 → H' e = some (.lst (s.2.map V.str)) → Q (.ref t) H'
set_option maxHeartbeats 4000000 in
seal L2.PE L2.PA L2.PS L2.PSs L2.PT L2.PW L2.PC L2.PG L2.PGs L2.PI L2.PF L2.PSet L2.OpR L2.UnR L2.CallR L2.MtR L2.IxR L2.SlR L2.PO in
theorem ok__law_state {f : Addr} {fd : FuncData} (B : Blt mg) (ER : Ers K mg) (c__law_cell_at : Callee P w K mg base "_law_cell_at" 1 ["_law_script", "_law_k"] (sp__law_cell_at K)) (F : Fun K "_law_state" "_law_state" s__law_state f fd) : FnOk P w K mg base CX0 2 f fd ["_law_script", "_law_start", "_law_labels", "_law_many", "_law_full"] (sp__law_state K) := by
  refine F.ok sc__law_state (fun vs H Q E h => ?_) (fun cdv A outer s H vs Q E hr h => ?_)
  · obtain ⟨a, l, ns, st, ls, m, b, rfl, _⟩ := h
    rfl
  · obtain ⟨a, l, ns, st, ls, m, b, rfl, hA, hns, hst, hL, hl8, hnd, hm0, hm8, q⟩ := h
    refine ⟨_, (pss_cons (ps_set (i := 5) sc__law_state.nd (pe_lst pa_nil))
      (pss_cons (ps_set (i := 6) sc__law_state.nd (pe_lst pa_nil))
      (pss_cons (ps_for PassesOwn.never rfl (pi_range1 rfl B.b_range (pa_cons (pe_callB call_len B.b_len (pa_cons (pv 2) pa_nil)) pa_nil)) (pg_name (i := 7) sc__law_state.nd) (pss_cons (ps_set (i := 8) sc__law_state.nd (pe_fn c__law_cell_at (pa_cons (pv 0) (pa_cons (pe_op op_add (pv 1) (pv 7)) pa_nil))))
        (pss_cons (ps_if (PW.pt (pw_or (pt_val (pv 4)) (pw_or1 (pt_cmpR op_ne (pe_op op_mod (pv 8) pe_int) pe_int (nomark _))))) (pss_one (ps_expr (pe_bm PySem.F.plainAttrs_list PySem.F.slot_list_append PySem.F.type_list_append mr_append (pv 5) (pa_cons (pe_tup (pa_cons (pe_ix ix_seq (pv 2) (pv 7)) (pa_cons (pe_op op_mod (pe_op op_fdiv (pv 8) pe_int) (pv 3)) pa_nil))) pa_nil)))) pss_nil)
        (pss_one (ps_if (PW.pt (pw_or (pt_val (pv 4)) (pw_or1 (pt_cmpR op_eq (pe_op op_mod (pe_op op_fdiv (pv 8) pe_int) pe_int) pe_int (nomark _))))) (pss_one (ps_expr (pe_bm PySem.F.plainAttrs_list PySem.F.slot_list_append PySem.F.type_list_append mr_append (pv 6) (pa_cons (pe_ix ix_seq (pv 2) (pv 7)) pa_nil)))) pss_nil)))))
      (pss_one (ps_ret (pe_tup (pa_cons (pv 5) (pa_cons (pv 6) pa_nil)))))))), ?_⟩
    refine ⟨by decide, fun G hG => ?_⟩
    have s1 := same_new (o := .lst []) hG
    have eG : (upd H G (.lst [])) G = some (.lst []) := upd_same
    generalize upd H G (.lst []) = H1 at s1 eG ⊢
    refine ⟨by decide, fun Ee hE => ?_⟩
    have nEG : Ee ≠ G := fun z => by rw [z, eG] at hE; cases hE
    have hEH : H Ee = none := s1.free hE
    have s2 := s1.trans (same_new (o := .lst []) hE)
    have eG2 := same_new (o := .lst []) hE _ _ eG
    have eE : (upd H1 Ee (.lst [])) Ee = some (.lst []) := upd_same
    generalize upd H1 Ee (.lst []) = H2 at s2 eG2 eE ⊢
    refine ⟨_, rfl, _, _, rfl, Or.inl ⟨_, s2.seq hL, rfl⟩, _, rfl, by rw [List.length_map]; omega, by rw [List.length_map]; omega, for_range (lo := 0) (n := (((ls.map V.str).length : Nat) : Int).toNat)
      (fun i σ H' => ∃ u7 u8 ts gs es, σ = [some (.ref a), some (.int st), some (.ref l), some (.int m), some (.bl b), some (.ref G), some (.ref Ee), u7, u8] ∧ Same H H' ∧ H' G = some (.lst (ts.map V.ref)) ∧ H' Ee = some (.lst (es.map V.str)) ∧ GT H' ts gs ∧ (gs.map (·.1)).Sublist (ls.take i) ∧ es.Sublist (ls.take i) ∧ ∀ g ∈ gs, 0 ≤ g.2 ∧ g.2 < m)
      ⟨none, none, [], [], [], rfl, s2, eG2, eE, GT.nil, List.nil_sublist _, List.nil_sublist _, fun g hg => by simp at hg⟩ ?_ ?_⟩
    · rintro i σ H3 hi ⟨u7, u8, ts, gs, es, rfl, s3, eG3, eE3, T3, sg, se, gm⟩
      rw [List.length_map] at hi
      have hil : i < ls.length := by omega
      have hx := List.getElem?_eq_getElem hil
      have etk : ls.take (i + 1) = ls.take i ++ [ls[i]] := by rw [List.take_succ, hx]; rfl
      have lg : gs.length ≤ 8 := by have := sg.length_le; rw [List.length_map, List.length_take] at this; omega
      have le : es.length ≤ 8 := by have := se.length_le; rw [List.length_take] at this; omega
      refine ⟨_, rfl, _, rfl, _, rfl, _, _, rfl, rfl, a, ns, _, rfl, by omega, s3.seq hA, ?_⟩
      generalize cellAt ns (st + (0 + (i : Int))) = c
      refine g_in ?_
      try dsimp only
      have st1 : (ls.take i).Sublist (ls.take (i + 1)) := by rw [etk]; exact List.sublist_append_left _ _
      have k0 := Int.emod_nonneg (c / 3) (show m ≠ 0 by omega)
      have k1 := Int.emod_lt_of_pos (c / 3) hm0
      have gat : (ls.map V.str)[i]? = some (V.str ls[i]) := by rw [List.getElem?_map, hx]; rfl
      refine seq_cut (fun σ' H' => ∃ ts gs, σ' = [some (.ref a), some (.int st), some (.ref l), some (.int m), some (.bl b), some (.ref G), some (.ref Ee), some (.int (0 + (i : Int))), some (.int c)] ∧ Same H H' ∧ H' G = some (.lst (ts.map V.ref)) ∧ H' Ee = some (.lst (es.map V.str)) ∧ GT H' ts gs ∧ (gs.map (·.1)).Sublist (ls.take (i + 1)) ∧ ∀ g ∈ gs, 0 ≤ g.2 ∧ g.2 < m) ?_ (fun N hN => ?_)
      case refine_2 =>
        refine both (fun yes => ⟨_, rfl, _, rfl, ite2 (fun hb => iteT yes) (fun hb => ⟨_, rfl, _, _, rfl, rfl, (by show (0 : Int) < 3; decide), rfl, _, rfl, ite2 (fun h => yes) (fun h => ?no)⟩)⟩) ?yes
        case no => exact hN _ _ ⟨ts, gs, rfl, s3, eG3, eE3, T3, sg.trans st1, gm⟩
        case yes =>
          refine ⟨_, rfl, Or.inl ⟨rfl, _, SqL.of eG3⟩, _, rfl, _, rfl, Or.inl ⟨l, _, _, _, rfl, rfl, s3.seq hL, at0 gat, _, rfl, _, _, rfl, rfl, ⟨by decide, by decide⟩, _, rfl, _, _, rfl, rfl, hm0, two_le, fun t ht => ?_⟩⟩
          have s4 := same_new (o := .tup [.str ls[i], .int (c / 3 % m)]) ht
          have T4 := (T3.same s4).snoc (p := (ls[i], c / 3 % m)) (t := t) upd_same
          have eG4 := s4 _ _ eG3
          refine ⟨G, _, _, rfl, rfl, eG4, by rw [List.length_map, T3.len]; exact small1000 (by omega), ?_⟩
          refine hN _ _ ⟨ts ++ [t], gs ++ [(ls[i], c / 3 % m)], rfl, fun x o e => ?_, by rw [upd_same, List.map_append]; rfl, by rw [upd_ne nEG]; exact s4 _ _ eE3, T4.updL eG4, ?_, fun g hg => ?_⟩
          · rw [upd_ne (ne_of_none e hG)]; exact s4 _ _ (s3 x o e)
          · rw [etk, List.map_append]; exact sg.append (List.Sublist.refl _)
          · rcases List.mem_append.mp hg with hg | hg
            · exact gm g hg
            · rw [List.mem_singleton.mp hg]; exact ⟨k0, k1⟩
      rintro σ' H4 ⟨ts', gs', rfl, s4, eG4, eE4, T4, sg', gm'⟩
      refine both (fun yes => ⟨_, rfl, _, rfl, ite2 (fun hb => iteT yes) (fun hb => ⟨_, rfl, _, _, rfl, rfl, ⟨by decide, by decide⟩, _, _, rfl, rfl, (by show (0 : Int) < 2; decide), rfl, _, rfl, ite2 (fun h => yes) (fun h => ?no)⟩)⟩) ?yes
      case no => exact ⟨_, _, ts', gs', es, rfl, s4, eG4, eE4, T4, sg', se.trans st1, gm'⟩
      case yes =>
        refine ⟨_, rfl, Or.inl ⟨rfl, _, SqL.of eE4⟩, _, rfl, _, rfl, Or.inl ⟨l, _, _, _, rfl, rfl, s4.seq hL, at0 gat, Ee, _, _, rfl, rfl, eE4, by rw [List.length_map]; exact small1000 (by omega), ?_⟩⟩
        refine ⟨_, _, ts', gs', es ++ [ls[i]], rfl, fun x o e => ?_, by rw [upd_ne nEG.symm]; exact eG4, by rw [upd_same, List.map_append]; rfl, T4.updL eE4, sg', by rw [etk]; exact se.append (List.Sublist.refl _), gm'⟩
        rw [upd_ne (ne_of_none e hEH)]; exact s4 _ _ e
    · rintro σ H3 ⟨u7, u8, ts, gs, es, rfl, s3, eG3, eE3, T3, sg, se, gm⟩
      rw [List.length_map, Int.toNat_natCast, List.take_length] at sg se
      have lg : gs.length ≤ 8 := by have := sg.length_le; rw [List.length_map] at this; omega
      have le : es.length ≤ 8 := by have := se.length_le; omega
      refine ⟨_, rfl, _, rfl, two_le, fun t ht => ?_⟩
      have s6 := same_new (o := .tup [.ref G, .ref Ee]) ht
      have e46 := s6 _ _ eG3
      refine q t G Ee (gs, es) ts _ ⟨lg, le, hnd.sublist sg, hnd.sublist se, fun x hx => ⟨sg.subset (List.mem_map_of_mem hx), gm x hx⟩, fun x hx => se.subset hx⟩ (s3.free ht) hG hEH nEG.symm (s3.trans s6) upd_same e46 ⟨_, SqL.of e46, (T3.dts (K := K)).same s6⟩ (s6 _ _ eE3)
theorem call__law_state {f : Addr} {fd : FuncData} (B : Blt mg) (ER : Ers K mg) (c__law_cell_at : Callee P w K mg base "_law_cell_at" 1 ["_law_script", "_law_k"] (sp__law_cell_at K)) (F : Fun K "_law_state" "_law_state" s__law_state f fd) (hm : mg "_law_state" = some (.ref f)) : Callee P w K mg base "_law_state" 2 ["_law_script", "_law_start", "_law_labels", "_law_many", "_law_full"] (sp__law_state K) :=
  ⟨f, fd, ok__law_state B ER c__law_cell_at F, hm, F.kp, F.binds fun _ _ _ _ _ _ us hl => (by obtain ⟨x0, x1, x2, x3, x4, rfl⟩ := len_5 hl; rfl)⟩

/-- a pair of labels, the better one ahead -/
def UpPair (ls : List Str) (p : Str × Str) : Prop := ∃ (i j : Nat), i < j ∧ ls[i]? = some p.1 ∧ ls[j]? = some p.2
def sp__law_pairs (K : PySem.W.Frag) : Sp := fun vs H Q _ => ∃ (a l : Addr) (cs : List Int) (ls : List Str), vs = [.ref a, .ref l] ∧ SqL K H a (cs.map V.int) ∧ SqL K H l (ls.map V.str) ∧ ls.length ≤ 8 ∧ cs.length ≤ 40 ∧
  ∀ (ts : List Addr) (ps : List (Str × Str)) (p : Addr) (H' : Hp), (∀ x ∈ ps, UpPair ls x) → ps.length ≤ cs.length → H p = none → Same H H' → H' p = some (.lst (ts.map V.ref)) → Tups H' ts ps → Q (.ref p) H'
set_option maxHeartbeats 4000000 in
seal L2.PE L2.PA L2.PS L2.PSs L2.PT L2.PW L2.PC L2.PG L2.PGs L2.PI L2.PF L2.PSet L2.OpR L2.UnR L2.CallR L2.MtR L2.IxR L2.SlR L2.PO in
theorem ok__law_pairs {f : Addr} {fd : FuncData} (B : Blt mg) (ER : Ers K mg)  (F : Fun K "_law_pairs" "_law_pairs" s__law_pairs f fd) : FnOk P w K mg base CX0 1 f fd ["_law_cells", "_law_labels"] (sp__law_pairs K) := by
  refine F.ok sc__law_pairs (fun vs H Q E h => ?_) (fun cdv A outer s H vs Q E hr h => ?_)
  · obtain ⟨a, l, cs, ls, rfl, _⟩ := h
    rfl
  · obtain ⟨a, l, cs, ls, rfl, hA, hL, hl8, hc40, q⟩ := h
    refine ⟨_, (pss_cons (ps_set (i := 2) sc__law_pairs.nd (pe_callB call_len B.b_len (pa_cons (pv 1) pa_nil)))
      (pss_cons (ps_set (i := 3) sc__law_pairs.nd (pe_lst pa_nil))
      (pss_cons (ps_if (pt_cmpR op_gt (pv 2) pe_int (nomark _)) (pss_one (ps_for PassesOwn.never rfl (pi_list (pv 0)) (pg_name (i := 4) sc__law_pairs.nd) (pss_cons (ps_set (i := 5) sc__law_pairs.nd (pe_op op_mod (pv 4) (pe_op op_sub (pv 2) pe_int)))
          (pss_cons (ps_set (i := 6) sc__law_pairs.nd (pe_op op_add (pe_op op_add (pv 5) pe_int) (pe_op op_mod (pe_op op_fdiv (pv 4) pe_int) (pe_op op_sub (pe_op op_sub (pv 2) pe_int) (pv 5)))))
          (pss_one (ps_expr (pe_bm PySem.F.plainAttrs_list PySem.F.slot_list_append PySem.F.type_list_append mr_append (pv 3) (pa_cons (pe_tup (pa_cons (pe_ix ix_seq (pv 1) (pv 5)) (pa_cons (pe_ix ix_seq (pv 1) (pv 6)) pa_nil))) pa_nil)))))))) pss_nil)
      (pss_one (ps_ret (pv 3)))))), ?_⟩
    refine ⟨_, rfl, _, _, rfl, Or.inl ⟨_, hL, rfl⟩, ?_⟩
    rw [List.length_map]
    refine ⟨by decide, fun P hP => ?_⟩
    have hPH : H P = none := hP
    refine ⟨_, rfl, _, _, rfl, rfl, _, rfl, ?_⟩
    refine ite2 (fun h1 => ?_) (fun h1 => ?_)
    · have hl2 : 2 ≤ ls.length := by have : ((ls.length : Nat) : Int) > 1 := of_decide_eq_true h1; omega
      refine ⟨_, rfl, a, rfl, ⟨_, (same_new hP).seq hA⟩, for_list (xs := cs.map V.int) (fun i σ H' => ∃ u4 u5 u6 ts ps, σ = [some (.ref a), some (.ref l), some (.int ls.length), some (.ref P), u4, u5, u6] ∧ Same H H' ∧ H' P = some (.lst (ts.map V.ref)) ∧ Tups H' ts ps ∧ (∀ x ∈ ps, UpPair ls x) ∧ ps.length = i) ⟨none, none, none, [], [], rfl, same_new hP, upd_same, Tups.nil, fun x hx => by simp at hx, rfl⟩ (fun i σ H' _ ⟨_, _, _, _, _, _, s2, _⟩ => s2.seq hA) ?_ ?_⟩
      · rintro i x σ H2 hx ⟨u4, u5, u6, ts, ps, rfl, s2, eP, T, hup, hpl⟩
        obtain ⟨c, hc, rfl⟩ : ∃ c, cs[i]? = some c ∧ x = V.int c := by
          rw [List.getElem?_map] at hx
          obtain ⟨b, h1, h2⟩ := Option.map_eq_some_iff.mp hx
          exact ⟨b, h1, h2.symm⟩
        have hil : i < cs.length := (List.getElem?_eq_some_iff.mp hc).1
        have m0 : (0 : Int) < (ls.length : Int) - 1 := by omega
        have a0 := Int.emod_nonneg c (show (ls.length : Int) - 1 ≠ 0 by omega)
        have a1 := Int.emod_lt_of_pos c m0
        refine ⟨_, rfl, _, rfl, _, _, rfl, rfl, _, _, rfl, rfl, m0, ?_⟩
        try dsimp only
        generalize c % ((ls.length : Int) - 1) = o at a0 a1 ⊢
        have m1 : (0 : Int) < (ls.length : Int) - 1 - o := by omega
        have b0 := Int.emod_nonneg (c / 7) (show (ls.length : Int) - 1 - o ≠ 0 by omega)
        have b1 := Int.emod_lt_of_pos (c / 7) m1
        refine ⟨_, rfl, _, _, rfl, rfl, _, rfl, _, _, rfl, rfl, ⟨by decide, by decide⟩, _, rfl, _, _, rfl, rfl, _, rfl, _, _, rfl, rfl, _, _, rfl, rfl, m1, _, _, rfl, rfl, ?_⟩
        try dsimp only
        generalize c / 7 % ((ls.length : Int) - 1 - o) = r at b0 b1 ⊢
        obtain ⟨i1, rfl⟩ := Int.eq_ofNat_of_zero_le a0
        obtain ⟨i2, e2⟩ : ∃ i2 : Nat, (i1 : Int) + 1 + r = (i2 : Int) := ⟨((i1 : Int) + 1 + r).toNat, by omega⟩
        rw [e2]
        have L2' := s2.seq hL
        refine ⟨_, rfl, Or.inl ⟨rfl, _, SqL.of eP⟩, _, rfl, _, rfl, Or.inl ⟨l, _, _, _, rfl, rfl, L2', atI_nat (getD_at (i := i1) (by omega)), _, rfl, _, rfl, Or.inl ⟨l, _, _, _, rfl, rfl, L2', atI_nat (getD_at (i := i2) (by omega)), two_le, fun t ht => ?_⟩⟩⟩
        have s3 := same_new (o := .tup [.str (ls.getD i1 default), .str (ls.getD i2 default)]) ht
        have T3 := (T.same s3).snoc (p := (ls.getD i1 default, ls.getD i2 default)) (t := t) upd_same
        have eP3 := s3 _ _ eP
        have nP := T3.ne eP3
        refine ⟨P, _, _, rfl, rfl, eP3, by rw [List.length_map, T.len, hpl]; exact small1000 (by omega), ?_⟩
        refine ⟨_, _, _, ts ++ [t], ps ++ [(ls.getD i1 default, ls.getD i2 default)], rfl, fun b ob e => ?_, by rw [upd_same, List.map_append]; rfl, T3.upd nP, fun z hz => ?_, by rw [List.length_append, hpl]; rfl⟩
        · rw [upd_ne (ne_of_none e hPH)]; exact s3 _ _ (s2 b ob e)
        · rcases List.mem_append.mp hz with hz | hz
          · exact hup z hz
          · rw [List.mem_singleton] at hz; subst hz
            have g : ∀ k, k < ls.length → ls[k]? = some (ls.getD k default) := fun k hk => by rw [List.getD_eq_getElem?_getD, List.getElem?_eq_getElem hk]; rfl
            exact ⟨i1, i2, by omega, g i1 (by omega), g i2 (by omega)⟩
      · rintro σ H2 ⟨u4, u5, u6, ts, ps, rfl, s2, eP, T, hup, hpl⟩
        rw [List.length_map] at hpl
        exact ⟨_, rfl, q ts ps P H2 hup (Nat.le_of_eq hpl) hPH s2 eP T⟩
    · exact ⟨_, rfl, q [] [] P _ (fun x hx => by simp at hx) (Nat.zero_le _) hPH (same_new hP) upd_same Tups.nil⟩
theorem call__law_pairs {f : Addr} {fd : FuncData} (B : Blt mg) (ER : Ers K mg)  (F : Fun K "_law_pairs" "_law_pairs" s__law_pairs f fd) (hm : mg "_law_pairs" = some (.ref f)) : Callee P w K mg base "_law_pairs" 1 ["_law_cells", "_law_labels"] (sp__law_pairs K) :=
  ⟨f, fd, ok__law_pairs B ER  F, hm, F.kp, F.binds fun _ _ _ _ _ _ us hl => (by obtain ⟨x0, x1, rfl⟩ := len_2 hl; rfl)⟩
/-- rows of truths, by a function of two places -/
structure Rows (H : Hp) (R : Addr) (rs : List Addr) (m : Nat) (f : Nat → Nat → Bool) : Prop where
  top : H R = some (.lst (rs.map V.ref))
  len : rs.length = m
  row : ∀ (i : Nat) (a : Addr), rs[i]? = some a → H a = some (.lst ((List.range m).map fun j => V.bl (f i j)))
  nd : rs.Nodup
theorem Rows.same {H H' : Hp} {R : Addr} {rs : List Addr} {m : Nat} {f : Nat → Nat → Bool} (e : Same H H') (h : Rows H R rs m f) : Rows H' R rs m f :=
  ⟨e _ _ h.top, h.len, fun i a hi => e _ _ (h.row i a hi), h.nd⟩
theorem Rows.cell {H : Hp} {R : Addr} {rs : List Addr} {m : Nat} {f : Nat → Nat → Bool} (h : Rows H R rs m f) {i j : Nat} (hi : i < m) (hj : j < m) :
    ∃ a, (rs.map V.ref)[i]? = some (.ref a) ∧ rs[i]? = some a ∧ H a = some (.lst ((List.range m).map fun j => V.bl (f i j))) ∧ ((List.range m).map fun j => V.bl (f i j))[j]? = some (.bl (f i j)) := by
  have hi' : i < rs.length := by rw [h.len]; exact hi
  refine ⟨rs[i], by rw [List.getElem?_map, List.getElem?_eq_getElem hi']; rfl, List.getElem?_eq_getElem hi', h.row i _ (List.getElem?_eq_getElem hi'), ?_⟩
  rw [List.getElem?_map, List.getElem?_range hj]; rfl
theorem row_set {m i j : Nat} {f : Nat → Nat → Bool} (hj : j < m) : ((List.range m).map fun b => V.bl (f i b)).set j (.bl true) = (List.range m).map fun b => V.bl (War.setR f i j i b) := by
  refine List.ext_getElem? fun n => ?_
  by_cases hn : n < m
  · rw [List.getElem?_map, List.getElem?_range hn]
    by_cases e : j = n
    · subst e
      rw [List.getElem?_set_self (by simpa using hj)]
      show some (V.bl true) = some (V.bl (War.setR f i j i j))
      rw [War.setR_at]
    · rw [List.getElem?_set_ne e, List.getElem?_map, List.getElem?_range hn]
      show some (V.bl (f i n)) = some (V.bl (War.setR f i j i n))
      unfold War.setR
      rw [if_neg fun z => e z.2.symm]
  · rw [List.getElem?_eq_none (by simp; omega), List.getElem?_eq_none (by simp; omega)]
theorem Rows.put {H : Hp} {R : Addr} {rs : List Addr} {m : Nat} {f : Nat → Nat → Bool} (h : Rows H R rs m f) {i j : Nat} {a : Addr} (hi : rs[i]? = some a) (hj : j < m) :
    Rows (upd H a (.lst (((List.range m).map fun b => V.bl (f i b)).set j (.bl true)))) R rs m (War.setR f i j) := by
  have nR : R ≠ a := fun z => by
    subst z
    have h1 := h.top
    rw [h.row i R hi] at h1
    cases m with
    | zero => omega
    | succ m =>
      cases rs with
      | nil => simp at hi
      | cons x r =>
        have h2 := HO.lst.inj (Option.some.inj h1)
        rw [List.range_succ_eq_map] at h2
        simp at h2
  refine ⟨by rw [upd_ne nR]; exact h.top, h.len, fun n b hn => ?_, h.nd⟩
  by_cases e : b = a
  · subst e
    have e2 : n = i := by
      obtain ⟨h1, e1⟩ := List.getElem?_eq_some_iff.mp hn
      obtain ⟨h2, e2⟩ := List.getElem?_eq_some_iff.mp hi
      exact (List.getElem_inj h.nd).mp (e1.trans e2.symm)
    subst e2
    rw [upd_same, row_set hj]
  · rw [upd_ne e, h.row n b hn]
    have e2 : n ≠ i := fun z => by subst z; rw [hn] at hi; exact e (Option.some.inj hi)
    simp only [War.setR_ne e2]
theorem zip_prs {K : PySem.W.Frag} {H : Hp} : ∀ {ts : List Addr} {gs : List (Str × Str)}, ts.length = gs.length → (∀ (n : Nat) (a : Addr) (p : Str × Str), ts[n]? = some a → gs[n]? = some p → H a = some (.tup [.str p.1, .str p.2])) →
    ∃ zs : List (Row strC strC), zs.map (·.1) = ts.map V.ref ∧ zs.map (·.2) = gs ∧ ∀ z ∈ zs, ∃ t, z.1 = .ref t ∧ SqT K H t [V.str z.2.1, V.str z.2.2]
  | [], [], _, _ => ⟨[], rfl, rfl, fun z hz => by cases hz⟩
  | [], _ :: _, h, _ => by simp at h
  | _ :: _, [], h, _ => by simp at h
  | a :: ts, p :: gs, h, k => by
    obtain ⟨zs, h1, h2, h3⟩ := zip_prs (K := K) (H := H) (ts := ts) (gs := gs) (by simpa using h) fun n a p h1 h2 => k (n + 1) a p (by simpa using h1) (by simpa using h2)
    refine ⟨(V.ref a, p) :: zs, by rw [List.map_cons, h1]; rfl, by rw [List.map_cons, h2], fun z hz => ?_⟩
    rcases List.mem_cons.mp hz with e | hz
    · rw [e]; exact ⟨a, rfl, SqT.of (k 0 a p rfl rfl)⟩
    · exact h3 z hz
theorem rows_prs {K : PySem.W.Frag} {H : Hp} : ∀ (zs : List (Row strC strC)), (∀ z ∈ zs, ∃ t, z.1 = .ref t ∧ SqT K H t [V.str z.2.1, V.str z.2.2]) → IsDts K H (zs.map (·.1)) ((zs.map (·.2)).map prD)
  | [], _ => .nil
  | z :: zs, h => by
    obtain ⟨t, e, sq⟩ := h z List.mem_cons_self
    refine .cons ?_ (rows_prs zs fun y hy => h y (List.mem_cons_of_mem _ hy))
    show IsDt K H z.1 (prD z.2)
    rw [e]
    exact .tup sq (.cons (.str _) (.cons (.str _) .nil))
/-- the pairs of labels whose cell is true, up to a place -/
structure Col8 (ls : List Str) (f : Nat → Nat → Bool) (i j : Nat) (ord : List (Str × Str)) : Prop where
  mem : ∀ a b, (a, b) ∈ ord ↔ ∃ i' j', ls[i']? = some a ∧ ls[j']? = some b ∧ f i' j' = true ∧ (i' < i ∨ (i' = i ∧ j' < j))
  nd : ord.Nodup
  len : ord.length ≤ 7 * i + (if j ≤ i then j else j - 1)
theorem Col8.nexti {ls : List Str} {f : Nat → Nat → Bool} {i : Nat} {ord : List (Str × Str)} (h : Col8 ls f i ls.length ord) (hi : i < ls.length) (h8 : ls.length ≤ 8) : Col8 ls f (i + 1) 0 ord := by
  refine ⟨fun a b => (h.mem a b).trans ⟨?_, ?_⟩, h.nd, ?_⟩
  · rintro ⟨i', j', h1, h2, h3, h4⟩
    exact ⟨i', j', h1, h2, h3, by omega⟩
  · rintro ⟨i', j', h1, h2, h3, h4⟩
    have := (List.getElem?_eq_some_iff.mp h2).1
    exact ⟨i', j', h1, h2, h3, by omega⟩
  · have := h.len
    rw [if_neg (by omega)] at this
    rw [if_pos (by omega)]
    omega
theorem Col8.skip {ls : List Str} {f : Nat → Nat → Bool} {i j : Nat} {ord : List (Str × Str)} (h : Col8 ls f i j ord) (hf : ¬ f i j = true) : Col8 ls f i (j + 1) ord := by
  refine ⟨fun a b => (h.mem a b).trans ⟨?_, ?_⟩, h.nd, ?_⟩
  · rintro ⟨i', j', h1, h2, h3, h4⟩
    exact ⟨i', j', h1, h2, h3, by omega⟩
  · rintro ⟨i', j', h1, h2, h3, h4⟩
    refine ⟨i', j', h1, h2, h3, ?_⟩
    rcases h4 with h4 | ⟨rfl, h4⟩
    · exact .inl h4
    · refine .inr ⟨rfl, ?_⟩
      rcases Nat.lt_or_ge j' j with h5 | h5
      · exact h5
      · exact absurd (by rwa [show j' = j by omega] at h3) hf
  · have := h.len
    split at this <;> split <;> omega
theorem Col8.more {ls : List Str} {f : Nat → Nat → Bool} {i j : Nat} {ord : List (Str × Str)} {x y : Str} (h : Col8 ls f i j ord) (nd : ls.Nodup) (hx : ls[i]? = some x) (hy : ls[j]? = some y) (hij : i ≠ j) (hf : f i j = true) : Col8 ls f i (j + 1) (ord ++ [(x, y)]) := by
  have inj : ∀ (a b : Nat) (z : Str), ls[a]? = some z → ls[b]? = some z → a = b := fun a b z h1 h2 => by
    obtain ⟨g1, e1⟩ := List.getElem?_eq_some_iff.mp h1
    obtain ⟨g2, e2⟩ := List.getElem?_eq_some_iff.mp h2
    exact (List.getElem_inj nd).mp (e1.trans e2.symm)
  have hnew : (x, y) ∉ ord := fun z => by
    obtain ⟨i', j', h1, h2, _, h4⟩ := (h.mem x y).mp z
    have a1 := inj _ _ _ h1 hx
    have a2 := inj _ _ _ h2 hy
    omega
  refine ⟨fun a b => ?_, ?_, ?_⟩
  · rw [List.mem_append, h.mem]
    constructor
    · rintro (⟨i', j', h1, h2, h3, h4⟩ | hz)
      · exact ⟨i', j', h1, h2, h3, by omega⟩
      · cases List.mem_singleton.mp hz
        exact ⟨i, j, hx, hy, hf, .inr ⟨rfl, by omega⟩⟩
    · rintro ⟨i', j', h1, h2, h3, h4⟩
      by_cases e : i' = i ∧ j' = j
      · obtain ⟨rfl, rfl⟩ := e
        rw [hx] at h1; rw [hy] at h2
        cases h1; cases h2
        exact .inr (List.mem_singleton.mpr rfl)
      · exact .inl ⟨i', j', h1, h2, h3, by omega⟩
  · exact nodup_snoc h.nd hnew
  · rw [List.length_append, List.length_singleton]
    have := h.len
    split at this <;> split <;> omega
theorem seq_hide0 {t u : TS} {D : Ends} {σ : L2.St} {H : Hp} (h : ∀ u', u' = u → tSeq t u' D σ H) : tSeq t u D σ H := h u rfl

def sp__law_joined (K : PySem.W.Frag) : Sp := fun vs H Q _ => ∃ (p l : Addr) (ps : List (Str × Str)) (ls : List Str), vs = [.ref p, .ref l] ∧ Prs K H p ps ∧ SqL K H l (ls.map V.str) ∧ ls.length ≤ 8 ∧ ls.Nodup ∧ (∀ q ∈ ps, q.1 ∈ ls ∧ q.2 ∈ ls) ∧ (∀ x, ¬ Path ps x x) ∧
  ∀ (D : Addr) (us : List V) (ord : List (Str × Str)) (H' : Hp), H D = none → Same H H' → H' D = some (.lst us) → IsDts K H' us (ord.map prD) → (∀ a b, (a, b) ∈ ord ↔ Path ps a b) → ord.Nodup → ord.Pairwise (lexO strO strO).kle → Q (.ref D) H'
set_option maxHeartbeats 4000000 in
seal L2.PE L2.PA L2.PS L2.PSs L2.PT L2.PW L2.PC L2.PG L2.PGs L2.PI L2.PF L2.PSet L2.OpR L2.UnR L2.CallR L2.MtR L2.IxR L2.SlR L2.PO in
theorem ok__law_joined {f : Addr} {fd : FuncData} (B : Blt mg) (ER : Ers K mg)  (F : Fun K "_law_joined" "_law_joined" s__law_joined f fd) : FnOk P w K mg base CX0 1 f fd ["_law_pairs_here", "_law_labels"] (sp__law_joined K) := by
  refine F.ok sc__law_joined (fun vs H Q E h => ?_) (fun cdv A outer s H vs Q E hr h => ?_)
  · obtain ⟨p, l, ps, ls, rfl, _⟩ := h
    rfl
  · obtain ⟨p, l, ps, ls, rfl, hP, hL, hll, lnd, hin, hac, q⟩ := h
    obtain ⟨vs, hV, hVD⟩ := hP
    refine ⟨_, (pss_cons (ps_set (i := 2) sc__law_joined.nd (pe_callB call_len B.b_len (pa_cons (pv 1) pa_nil)))
      (pss_cons (ps_setC (i := 3) sc__law_joined.nd rfl (Or.inl rfl) (te := tComp 1 [1, 0] (iList K (tVar 2)) (gName 0) tYes (tOp (rInD K) (tTup (tCons (tVar 2) (tCons (tVar 0) tNil))) (tVar 1))) rfl _law_joined_cs1 (pi_list (pv 1)) (fun _ _ _ _ _ => (pg_name (i := 0) _law_joined_cs1.nd)) (fun _ _ _ _ _ => pf_nil) (fun _ _ _ _ _ => (pe_comp (te := tOp (rInD K) (tTup (tCons (tVar 2) (tCons (tVar 0) tNil))) (tVar 1)) rfl (_law_joined_cs2.re _) (pi_list (pv 2)) (fun _ _ _ _ _ => (pg_name (i := 0) _law_joined_cs2.nd)) (fun _ _ _ _ _ => pf_nil) (fun _ _ _ _ _ => (pe_cmpR (op_inD hr.units) (pe_tup (pa_cons (pv 2) (pa_cons (pv 0) pa_nil))) (pv 1) (by with_unfolding_all rfl))))))
      (pss_cons (ps_for PassesOwn.never rfl (pi_range1 rfl B.b_range (pa_cons (pv 2) pa_nil)) (pg_name (i := 4) sc__law_joined.nd) (pss_one (ps_for PassesOwn.never rfl (pi_range1 rfl B.b_range (pa_cons (pv 2) pa_nil)) (pg_name (i := 5) sc__law_joined.nd) (pss_one (ps_for PassesOwn.never rfl (pi_range1 rfl B.b_range (pa_cons (pv 2) pa_nil)) (pg_name (i := 6) sc__law_joined.nd) (pss_one (ps_if (PW.pt (pw_and (pt_val (pe_ix ix_seq (pe_ix ix_seq (pv 3) (pv 5)) (pv 4))) (pw_and1 (pt_val (pe_ix ix_seq (pe_ix ix_seq (pv 3) (pv 4)) (pv 6)))))) (pss_one (ps_asg pe_bl (pg_sub (pe_ix ix_seq (pv 3) (pv 5)) (pv 6) set_list))) pss_nil)))))))
      (pss_cons (ps_set (i := 7) sc__law_joined.nd (pe_lst pa_nil))
      (pss_cons (ps_for PassesOwn.never rfl (pi_range1 rfl B.b_range (pa_cons (pv 2) pa_nil)) (pg_name (i := 5) sc__law_joined.nd) (pss_one (ps_for PassesOwn.never rfl (pi_range1 rfl B.b_range (pa_cons (pv 2) pa_nil)) (pg_name (i := 6) sc__law_joined.nd) (pss_one (ps_if (pt_val (pe_ix ix_seq (pe_ix ix_seq (pv 3) (pv 5)) (pv 6))) (pss_one (ps_expr (pe_bm PySem.F.plainAttrs_list PySem.F.slot_list_append PySem.F.type_list_append mr_append (pv 7) (pa_cons (pe_tup (pa_cons (pe_ix ix_seq (pv 1) (pv 5)) (pa_cons (pe_ix ix_seq (pv 1) (pv 6)) pa_nil))) pa_nil)))) pss_nil)))))
      (pss_one (ps_ret (pe_callB (call_sortP strC strC) B.b_sorted (pa_cons (pv 7) pa_nil))))))))), ?_⟩
    refine ⟨_, rfl, _, _, rfl, Or.inl ⟨_, hL, rfl⟩, ?_⟩
    rw [List.length_map]
    refine g_in ?_
    try dsimp only
    refine seq_hide0 fun v1 hv1 => ?_
    -- the rows
    refine ⟨_, rfl, l, rfl, ⟨_, hL⟩, comp_listI (xs := ls.map V.str) (fun D i ys H' => ∃ rs, ys = rs.map V.ref ∧ rs.length = i ∧ Same H H' ∧ H' D = some (.lst ys) ∧ rs.Nodup ∧ (∀ a ∈ rs, H a = none ∧ a ≠ D) ∧ ∀ (n : Nat) (a : Addr) (x : Str), rs[n]? = some a → ls[n]? = some x → H' a = some (.lst (ls.map fun y => V.bl (dec ((x, y) ∈ ps)))))
      (fun D hD => ⟨[], rfl, rfl, same_new hD, upd_same, List.nodup_nil, fun a ha => by simp at ha, fun n a x hn => by simp at hn⟩) (fun D i ys H' ⟨_, _, _, s1, _⟩ => s1.seq hL) (fun D i x ys H2 R hD hx hv k => ?_) (fun R ys H2 hR hv => ?_)⟩
    · obtain ⟨rs, rfl, hrl, s2, eD, hnd, hfr, hrow⟩ := hv
      obtain ⟨x, hx', rfl⟩ : ∃ z, ls[i]? = some z ∧ x = V.str z := by
        rw [List.getElem?_map] at hx
        obtain ⟨b, h1, h2⟩ := Option.map_eq_some_iff.mp hx
        exact ⟨b, h1, h2.symm⟩
      have hil : i < ls.length := (List.getElem?_eq_some_iff.mp hx').1
      refine ⟨_, rfl, l, rfl, ⟨_, s2.seq hL⟩, comp_list (xs := ls.map V.str) (fun v => match v with | .str y => V.bl (dec ((x, y) ∈ ps)) | _ => .non) (by rw [List.length_map]; exact Nat.le_trans hll (by decide)) (s2.seq hL) (fun j y H3 D3 R3 hy s3 hD3 k3 => ?_) (fun H3 D3 s3 hD3 e3 => ?_)⟩
      · obtain ⟨y, hy', rfl⟩ : ∃ z, ls[j]? = some z ∧ y = V.str z := by
          rw [List.getElem?_map] at hy
          obtain ⟨b, h1, h2⟩ := Option.map_eq_some_iff.mp hy
          exact ⟨b, h1, h2.symm⟩
        refine ⟨_, rfl, _, rfl, two_le, fun t ht => ?_⟩
        have s4 := (s2.trans s3).trans (same_new (o := .tup [.str x, .str y]) ht)
        refine ⟨_, rfl, 2, prD (x, y), ps.map prD, p, vs, cmp_pairs ps _, by decide, .tup (SqT.of upd_same) (.cons (.str _) (.cons (.str _) .nil)), rfl, s4.seq hV, hVD.same s4, ?_⟩
        rw [dec_congr prD_mem]
        exact k3 _ (same_new ht)
      · have eD3 : H3 D = some (.lst (rs.map V.ref)) := s3 _ _ eD
        refine k _ H3 eD3 (by rw [List.length_map]; exact small1000 (by omega)) ⟨rs ++ [D3], by rw [List.map_append]; rfl, by rw [List.length_append, hrl]; rfl, fun b o e => ?_, upd_same, ?_, fun a ha => ?_, fun n a z hn hz => ?_⟩
        · rw [upd_ne (ne_of_none e hD)]; exact s3 _ _ (s2 b o e)
        · refine nodup_snoc hnd fun z => ?_
          obtain ⟨n, hn, e⟩ := List.mem_iff_getElem.mp z
          have hn' : rs[n]? = some D3 := by rw [List.getElem?_eq_getElem hn, e]
          exact ne_of_none (hrow n D3 _ hn' (List.getElem?_eq_getElem (by omega))) hD3 rfl
        · rcases List.mem_append.mp ha with ha | ha
          · exact hfr a ha
          · rw [List.mem_singleton] at ha; subst ha
            exact ⟨s2.free hD3, (ne_of_none eD hD3).symm⟩
        · by_cases hnr : n < rs.length
          · rw [List.getElem?_append_left hnr] at hn
            have h5 := hrow n a z hn hz
            rw [upd_ne (hfr a (List.mem_of_getElem? hn)).2]
            exact s3 _ _ h5
          · have hnn : n = rs.length := by
              have := (List.getElem?_eq_some_iff.mp hn).1
              rw [List.length_append, List.length_singleton] at this; omega
            subst hnn
            rw [List.getElem?_append_right (Nat.le_refl _)] at hn
            simp at hn; subst hn
            rw [hrl, hx'] at hz; cases hz
            rw [upd_ne (ne_of_none eD hD3).symm, e3, List.map_map]
            rfl
    obtain ⟨rs, rfl, hrl, s2, eR, hnd, hfr, hrow⟩ := hv
    rw [List.length_map] at hrl
    have R0 : Rows H2 R rs ls.length (fun i j => dec ((ls.getD i default, ls.getD j default) ∈ ps)) := by
      refine ⟨eR, hrl, fun i a hi => ?_, hnd⟩
      have hil : i < ls.length := by rw [← hrl]; exact (List.getElem?_eq_some_iff.mp hi).1
      rw [hrow i a _ hi (List.getElem?_eq_getElem hil)]
      congr 2
      refine List.ext_getElem? fun n => ?_
      by_cases hn : n < ls.length
      · rw [List.getElem?_map, List.getElem?_map, List.getElem?_range hn, List.getElem?_eq_getElem hn]
        simp [List.getD_eq_getElem?_getD, List.getElem?_eq_getElem hn, List.getElem?_eq_getElem hil]
      · rw [List.getElem?_eq_none (by simp; omega), List.getElem?_eq_none (by simp; omega)]
    generalize hE : (fun (i j : Nat) => ∃ x y, ls[i]? = some x ∧ ls[j]? = some y ∧ (x, y) ∈ ps) = E
    have W0 : War.WI E ls.length 0 0 0 (fun i j => dec ((ls.getD i default, ls.getD j default) ∈ ps)) := by
      refine War.WI.start fun a b ha hb => ?_
      rw [dec_iff, ← hE]
      have ga : ls[a]? = some (ls.getD a default) := by rw [List.getD_eq_getElem?_getD, List.getElem?_eq_getElem ha]; rfl
      have gb : ls[b]? = some (ls.getD b default) := by rw [List.getD_eq_getElem?_getD, List.getElem?_eq_getElem hb]; rfl
      constructor
      · intro h; exact ⟨_, _, ga, gb, h⟩
      · rintro ⟨x, y, e1, e2, e3⟩
        rw [ga] at e1
        rw [gb] at e2
        rw [Option.some.inj e1, Option.some.inj e2]
        exact e3
    have en : ((ls.length : Nat) : Int).toNat = ls.length := Int.toNat_natCast _
    refine g_in ?_
    try dsimp only
    subst hv1
    refine seq_hide0 fun v2 hv2 => ?_
    -- the three loops
    refine ⟨_, rfl, _, rfl, by omega, by omega, for_range (lo := 0) (n := ((ls.length : Nat) : Int).toNat) (fun k σ H' => ∃ u4 u5 u6 f, σ = [some (.ref p), some (.ref l), some (.int ls.length), some (.ref R), u4, u5, u6, none] ∧ Same H H' ∧ Rows H' R rs ls.length f ∧ War.WI E ls.length k 0 0 f) ⟨none, none, none, _, rfl, s2, R0, W0⟩ ?_ ?_⟩
    · rintro k σ H3 hk ⟨u4, u5, u6, f, rfl, s3, R3, W3⟩
      rw [en] at hk
      refine ⟨_, rfl, _, rfl, by omega, by omega, for_range (lo := 0) (n := ((ls.length : Nat) : Int).toNat) (fun i σ H' => ∃ u5 u6 f, σ = [some (.ref p), some (.ref l), some (.int ls.length), some (.ref R), some (.int (0 + (k : Int))), u5, u6, none] ∧ Same H H' ∧ Rows H' R rs ls.length f ∧ War.WI E ls.length k i 0 f) ⟨_, _, f, rfl, s3, R3, W3⟩ ?_ ?_⟩
      · rintro i σ H4 hi ⟨u5, u6, f, rfl, s4, R4, W4⟩
        rw [en] at hi
        refine ⟨_, rfl, _, rfl, by omega, by omega, for_range (lo := 0) (n := ((ls.length : Nat) : Int).toNat) (fun j σ H' => ∃ u6 f, σ = [some (.ref p), some (.ref l), some (.int ls.length), some (.ref R), some (.int (0 + (k : Int))), some (.int (0 + (i : Int))), u6, none] ∧ Same H H' ∧ Rows H' R rs ls.length f ∧ War.WI E ls.length k i j f) ⟨_, f, rfl, s4, R4, W4⟩ ?_ ?_⟩
        · rintro j σ H5 hj ⟨u6, f, rfl, s5, R5, W5⟩
          rw [en] at hj
          obtain ⟨a, ha, ha', ea, ek⟩ := R5.cell hi hk
          obtain ⟨b, hb, hb', eb, ej⟩ := R5.cell hk hj
          refine ⟨_, rfl, _, rfl, Or.inl ⟨R, _, _, .ref a, rfl, rfl, SqL.of R5.top, at0 ha, _, rfl, Or.inl ⟨a, _, _, .bl (f i k), rfl, rfl, SqL.of ea, at0 ek, _, rfl, ?_⟩⟩⟩
          refine ite2 (fun h1 => ?_) (fun h1 => ?_)
          · refine ⟨_, rfl, _, rfl, Or.inl ⟨R, _, _, .ref b, rfl, rfl, SqL.of R5.top, at0 hb, _, rfl, Or.inl ⟨b, _, _, .bl (f k j), rfl, rfl, SqL.of eb, at0 ej, _, rfl, ?_⟩⟩⟩
            refine ite2 (fun h2 => ?_) (fun h2 => ?_)
            · refine ⟨_, rfl, _, rfl, Or.inl ⟨R, _, _, .ref a, rfl, rfl, SqL.of R5.top, at0 ha, _, rfl, a, _, _, j, rfl, rfl, ea, ixN0 (by simpa using hj), ?_⟩⟩
              refine ⟨_, _, rfl, fun z o e => ?_, R5.put ha' hj, W5.step hk hi hj h1 h2⟩
              rw [upd_ne (ne_of_none e (hfr a (List.mem_of_getElem? ha')).1)]
              exact s5 z o e
            · exact ⟨_, f, rfl, s5, R5, W5.skip hk hi hj fun z => h2 z.2⟩
          · exact iteF ⟨_, f, rfl, s5, R5, W5.skip hk hi hj fun z => h1 z.1⟩
        · rintro σ H5 ⟨u6, f, rfl, s5, R5, W5⟩
          rw [en] at W5
          exact ⟨_, _, f, rfl, s5, R5, W5.nexti⟩
      · rintro σ H4 ⟨u5, u6, f, rfl, s4, R4, W4⟩
        rw [en] at W4
        exact ⟨_, _, _, f, rfl, s4, R4, W4.nextk⟩
    · rintro σ H3 ⟨u4, u5, u6, f, rfl, s3, R3, W3⟩
      rw [en] at W3
      have hpath : ∀ (i j : Nat) x y, ls[i]? = some x → ls[j]? = some y → (f i j = true ↔ Path ps x y) := fun i j x y hx hy => by
        have hi : i < ls.length := (List.getElem?_eq_some_iff.mp hx).1
        have hj : j < ls.length := (List.getElem?_eq_some_iff.mp hy).1
        rw [W3.fin hi hj, ← hE]
        exact War.path_iff hin hx hy
      have hdiag : ∀ i, i < ls.length → ¬ f i i = true := fun i hi z => hac _ ((hpath i i _ _ (List.getElem?_eq_getElem hi) (List.getElem?_eq_getElem hi)).mp z)
      try dsimp only
      subst hv2
      refine seq_hide0 fun v3 hv3 => ?_
      refine ⟨by decide, fun D hD => ?_⟩
      have hDH : H D = none := s3.free hD
      have s4 := s3.trans (same_new (o := .lst []) hD)
      have R4 := R3.same (same_new (o := .lst []) hD)
      have eD4 : (upd H3 D (.lst [])) D = some (.lst []) := upd_same
      generalize upd H3 D (.lst []) = H4 at s4 R4 eD4 ⊢
      refine g_in ?_
      try dsimp only
      subst hv3
      refine seq_hide0 fun v4 hv4 => ?_
      refine ⟨_, rfl, _, rfl, by omega, by omega, for_range (lo := 0) (n := ((ls.length : Nat) : Int).toNat) (fun i σ H' => ∃ u5 u6 ts ord, σ = [some (.ref p), some (.ref l), some (.int ls.length), some (.ref R), u4, u5, u6, some (.ref D)] ∧ Same H H' ∧ Rows H' R rs ls.length f ∧ H' D = some (.lst (ts.map V.ref)) ∧ Tups H' ts ord ∧ Col8 ls f i 0 ord)
        ⟨_, _, [], [], rfl, s4, R4, eD4, Tups.nil, ⟨fun a b => ⟨fun h => by simp at h, fun ⟨i', j', _, _, _, h⟩ => by omega⟩, List.nodup_nil, Nat.zero_le _⟩⟩ ?_ ?_⟩
      · rintro i σ H5 hi ⟨u5, u6, ts, ord, rfl, s5, R5, eD5, T5, C5⟩
        rw [en] at hi
        refine ⟨_, rfl, _, rfl, by omega, by omega, for_range (lo := 0) (n := ((ls.length : Nat) : Int).toNat) (fun j σ H' => ∃ u6 ts ord, σ = [some (.ref p), some (.ref l), some (.int ls.length), some (.ref R), u4, some (.int (0 + (i : Int))), u6, some (.ref D)] ∧ Same H H' ∧ Rows H' R rs ls.length f ∧ H' D = some (.lst (ts.map V.ref)) ∧ Tups H' ts ord ∧ Col8 ls f i j ord)
          ⟨_, ts, ord, rfl, s5, R5, eD5, T5, C5⟩ ?_ ?_⟩
        · rintro j σ H6 hj ⟨u6, ts, ord, rfl, s6, R6, eD6, T6, C6⟩
          rw [en] at hj
          obtain ⟨a, ha, ha', ea, ek⟩ := R6.cell hi hj
          refine ⟨_, rfl, _, rfl, Or.inl ⟨R, _, _, .ref a, rfl, rfl, SqL.of R6.top, at0 ha, _, rfl, Or.inl ⟨a, _, _, .bl (f i j), rfl, rfl, SqL.of ea, at0 ek, _, rfl, ?_⟩⟩⟩
          refine ite2 (fun h1 => ?_) (fun h1 => ?_)
          · have gi : (ls.map V.str)[i]? = some (V.str ls[i]) := by rw [List.getElem?_map, List.getElem?_eq_getElem hi]; rfl
            have gj : (ls.map V.str)[j]? = some (V.str ls[j]) := by rw [List.getElem?_map, List.getElem?_eq_getElem hj]; rfl
            have hij : i ≠ j := fun z => by subst z; exact hdiag i hi h1
            refine ⟨_, rfl, Or.inl ⟨rfl, _, SqL.of eD6⟩, _, rfl, _, rfl, Or.inl ⟨l, _, _, _, rfl, rfl, s6.seq hL, at0 gi, _, rfl, _, rfl, Or.inl ⟨l, _, _, _, rfl, rfl, s6.seq hL, at0 gj, two_le, fun t ht => ?_⟩⟩⟩
            have s7 := same_new (o := .tup [.str ls[i], .str ls[j]]) ht
            have T7 := (T6.same s7).snoc (p := (ls[i], ls[j])) (t := t) upd_same
            have eD7 := s7 _ _ eD6
            have nD := T7.ne eD7
            have l6 := C6.len
            refine ⟨D, _, _, rfl, rfl, eD7, by rw [List.length_map, T6.len]; exact small1000 (by split at l6 <;> omega), ?_⟩
            have hfD : ∀ x ∈ R :: rs, x ≠ D := fun x hx z => by
              subst z
              rcases List.mem_cons.mp hx with e | hx
              · have := R3.top
                rw [← e, hD] at this; cases this
              · obtain ⟨n, hn⟩ := List.getElem?_of_mem hx
                have := R3.row n x hn
                rw [hD] at this; cases this
            refine ⟨_, ts ++ [t], ord ++ [(ls[i], ls[j])], rfl, fun x o e => ?_, ?_, by rw [upd_same, List.map_append]; rfl, T7.upd nD, C6.more lnd (List.getElem?_eq_getElem hi) (List.getElem?_eq_getElem hj) hij h1⟩
            · rw [upd_ne (ne_of_none e hDH)]; exact s7 _ _ (s6 x o e)
            · have R7 := R6.same s7
              exact ⟨by rw [upd_ne (hfD R List.mem_cons_self)]; exact R7.top, R7.len, fun n b hn => by rw [upd_ne (hfD b (List.mem_cons_of_mem _ (List.mem_of_getElem? hn)))]; exact R7.row n b hn, R7.nd⟩
          · exact ⟨_, ts, ord, rfl, s6, R6, eD6, T6, C6.skip h1⟩
        · rintro σ H6 ⟨u6, ts, ord, rfl, s6, R6, eD6, T6, C6⟩
          rw [en] at C6
          exact ⟨_, _, ts, ord, rfl, s6, R6, eD6, T6, C6.nexti hi hll⟩
      · rintro σ H5 ⟨u5, u6, ts, ord, rfl, s5, R5, eD5, T5, C5⟩
        rw [en] at C5
        try dsimp only
        subst hv4
        obtain ⟨zs, z1, z2, z3⟩ := zip_prs (K := K) T5.len T5.at_
        have lzs : zs.length = ord.length := by rw [← z2, List.length_map]
        have l5 := C5.len
        rw [if_pos (Nat.zero_le _)] at l5
        refine ⟨_, rfl, D, zs, rfl, SqL.of (by rw [z1]; exact eD5), by omega, z3, fun D2 zs' hp hw hD2 => ?_⟩
        have s6 := same_new (o := .lst (zs'.map (·.1))) hD2
        have pz : (zs'.map (·.2)).Perm ord := by rw [← z2]; exact hp.map _
        refine q D2 _ (zs'.map (·.2)) _ (s5.free hD2) (s5.trans s6) upd_same ((rows_prs zs' fun z hz => z3 z (hp.mem_iff.mp hz)).same s6) (fun a b => ?_) (pz.nodup_iff.mpr C5.nd) hw
        rw [pz.mem_iff, C5.mem]
        constructor
        · rintro ⟨i', j', h1, h2, h3, _⟩
          exact (hpath i' j' a b h1 h2).mp h3
        · intro hab
          have ma : a ∈ ls := by
            obtain ⟨pr, hpr, e⟩ := List.mem_map.mp hab.fst
            rw [← e]; exact (hin pr hpr).1
          have mb : b ∈ ls := by
            cases hab with
            | one e => exact (hin _ e).2
            | snoc _ e => exact (hin _ e).2
          obtain ⟨i', hi'⟩ := List.getElem?_of_mem ma
          obtain ⟨j', hj'⟩ := List.getElem?_of_mem mb
          exact ⟨i', j', hi', hj', (hpath i' j' a b hi' hj').mpr hab, .inl (List.getElem?_eq_some_iff.mp hi').1⟩
theorem call__law_joined {f : Addr} {fd : FuncData} (B : Blt mg) (ER : Ers K mg)  (F : Fun K "_law_joined" "_law_joined" s__law_joined f fd) (hm : mg "_law_joined" = some (.ref f)) : Callee P w K mg base "_law_joined" 1 ["_law_pairs_here", "_law_labels"] (sp__law_joined K) :=
  ⟨f, fd, ok__law_joined B ER  F, hm, F.kp, F.binds fun _ _ _ _ _ _ us hl => (by obtain ⟨x0, x1, rfl⟩ := len_2 hl; rfl)⟩

def sp__law_comma (K : PySem.W.Frag) : Sp := fun vs H Q _ => ∃ (l : Addr) (ts : List Addr) (ps : List (Str × Str)), vs = [.ref l] ∧ SqL K H l (ts.map V.ref) ∧ Tups H ts ps ∧ ps.length ≤ 60 ∧ ∀ (D : Addr) (H' : Hp), H D = none → Same H H' → H' D = some (.lst ((btw "," (ps.map wPr)).map V.str)) → Q (.ref D) H'
set_option maxHeartbeats 4000000 in
seal L2.PE L2.PA L2.PS L2.PSs L2.PT L2.PW L2.PC L2.PG L2.PGs L2.PI L2.PF L2.PSet L2.OpR L2.UnR L2.CallR L2.MtR L2.IxR L2.SlR L2.PO in
theorem ok__law_comma {f : Addr} {fd : FuncData} (B : Blt mg) (ER : Ers K mg)  (F : Fun K "_law_comma" "_law_comma" s__law_comma f fd) : FnOk P w K mg base CX0 1 f fd ["_law_rows"] (sp__law_comma K) := by
  refine F.ok sc__law_comma (fun vs H Q E h => ?_) (fun cdv A outer s H vs Q E hr h => ?_)
  · obtain ⟨l, ts, ps, rfl, _⟩ := h
    rfl
  · obtain ⟨l, ts, ps, rfl, hL, T, hp, q⟩ := h
    have lts := T.len
    have tkl : ∀ i, (btw "," ((ps.map wPr).take i)).length ≤ 180 := fun i => by
      have := pr_len (gs := ps.take i)
      rw [List.map_take, List.length_take] at this
      omega
    have cmp0 : ∀ xs : List Str, Cmp 2 (Dt.lst (xs.map Dt.str)) (Dt.lst []) := fun xs => .lst (Cmps.of fun d hd e he => by cases he)
    refine ⟨_, (pss_cons (ps_set (i := 1) sc__law_comma.nd (pe_lst pa_nil))
      (pss_cons (ps_for PassesOwn.never rfl (pi_list (pv 0)) (pg_name (i := 2) sc__law_comma.nd) (pss_cons (ps_if (pt_cmpR (op_neD hr.units) (pv 1) (pe_lst pa_nil) (nomark _)) (pss_one (ps_expr (pe_bm PySem.F.plainAttrs_list PySem.F.slot_list_append PySem.F.type_list_append mr_append (pv 1) (pa_cons pe_str pa_nil)))) pss_nil)
        (pss_one (ps_set (i := 1) sc__law_comma.nd (pe_op op_cat (pv 1) (pe_callTy call_list_of B.b_list (pa_cons (pv 2) pa_nil)))))))
      (pss_one (ps_ret (pv 1))))), ?_⟩
    refine ⟨by decide, fun D0 hD0 => ?_⟩
    refine ⟨_, rfl, l, rfl, ⟨_, (same_new hD0).seq hL⟩, for_list (xs := ts.map V.ref) (fun i σ H' => ∃ u2 D, σ = [some (.ref l), some (.ref D), u2] ∧ Same H H' ∧ H D = none ∧ H' D = some (.lst ((btw "," ((ps.map wPr).take i)).map V.str))) ⟨none, D0, rfl, same_new hD0, hD0, upd_same⟩ (fun i σ H' _ ⟨_, _, _, e, _⟩ => e.seq hL) ?_ ?_⟩
    · rintro i x σ H2 hx ⟨u2, D, rfl, s2, hD, eD⟩
      rw [List.getElem?_map] at hx
      obtain ⟨t, ht, rfl⟩ := Option.map_eq_some_iff.mp hx
      have hil : i < ps.length := by rw [← lts]; exact (List.getElem?_eq_some_iff.mp ht).1
      have hpi := List.getElem?_eq_getElem hil
      have et := T.at_ i t _ ht hpi
      have hw : (ps.map wPr)[i]? = some (wPr ps[i]) := by rw [List.getElem?_map, hpi]; rfl
      have hb := btw_take (sg := ",") hw
      have tki := tkl i
      refine seq_cut (fun σ' H' => σ' = [some (.ref l), some (.ref D), some (.ref t)] ∧ Same H H' ∧ H' D = some (.lst ((if i = 0 then [] else btw "," ((ps.map wPr).take i) ++ [("," : Str)]).map V.str))) ?_ (fun N hN => ?_)
      case refine_2 =>
        refine ⟨_, rfl, by decide, fun E0 hE0 => ?_⟩
        have s3 := same_new (o := .lst []) hE0
        have eE0 : (upd H2 E0 (.lst [])) E0 = some (.lst []) := upd_same
        generalize upd H2 E0 (.lst []) = H3 at s3 eE0 ⊢
        have eD3 := s3 _ _ eD
        refine ⟨2, _, _, cmp0 _, by decide, .lst (SqL.of eD3) (IsDts.strs _), .lst (SqL.of eE0) .nil, _, rfl, ?_⟩
        have s23 := s2.trans s3
        by_cases h0 : i = 0
        · have e : (btw "," ((ps.map wPr).take i)) = [] := by rw [h0]; rfl
          rw [dec_true (by rw [e]; rfl)]
          exact iteF (hN _ _ ⟨rfl, s23, by rw [if_pos h0, eD3, e]⟩)
        · have e : (btw "," ((ps.map wPr).take i)) ≠ [] := fun z => by
            have := btw_nil (sg := ",") (gs := (ps.map wPr).take i) (fun g hg z => by
              obtain ⟨p, _, rfl⟩ := List.mem_map.mp (List.mem_of_mem_take hg)
              cases z) z
            have := congrArg List.length this
            rw [List.length_take, List.length_map, List.length_nil] at this
            omega
          rw [dec_false (by intro z; injection z with z; exact e (by simpa using z))]
          refine iteT ⟨_, rfl, Or.inl ⟨rfl, _, SqL.of eD3⟩, D, _, _, rfl, rfl, eD3, by rw [List.length_map]; exact small1000 (by omega), ?_⟩
          refine hN _ _ ⟨rfl, fun b o e => ?_, ?_⟩
          · rw [upd_ne (ne_of_none e hD)]; exact s23 b o e
          · rw [upd_same, if_neg h0, List.map_append]; rfl
      rintro σ' H4 ⟨rfl, s4, eD4⟩
      refine ⟨_, rfl, _, rfl, t, _, rfl, Or.inr (SqT.of (s4 _ _ et)), fun E1 hE1 => ?_⟩
      have s5 := same_new (o := .lst [.str ps[i].1, .str ps[i].2]) hE1
      have eE1 : (upd H4 E1 (.lst [.str ps[i].1, .str ps[i].2])) E1 = some (.lst ((wPr ps[i]).map V.str)) := upd_same
      generalize upd H4 E1 (.lst [.str ps[i].1, .str ps[i].2]) = H5 at s5 eE1 ⊢
      refine ⟨D, E1, _, _, rfl, rfl, s5 _ _ eD4, eE1, ?_, fun E2 hE2 => ?_⟩
      · rw [List.length_map, List.length_map]
        have : (if i = 0 then [] else btw "," ((ps.map wPr).take i) ++ [("," : Str)]).length ≤ 181 := by
          split
          · exact Nat.zero_le _
          · rw [List.length_append, List.length_singleton]; omega
        exact Nat.le_of_lt (small1000 (show _ + 2 ≤ 1000 by omega))
      have s45 := s4.trans s5
      refine ⟨_, E2, rfl, s45.trans (same_new hE2), s45.free hE2, ?_⟩
      rw [upd_same, hb, List.map_append]
    · rintro σ H2 ⟨u2, D, rfl, s2, hD, eD⟩
      rw [List.length_map, lts, List.take_of_length_le (by rw [List.length_map]; exact Nat.le_refl _)] at eD
      exact ⟨_, rfl, q D H2 hD s2 eD⟩
theorem call__law_comma {f : Addr} {fd : FuncData} (B : Blt mg) (ER : Ers K mg)  (F : Fun K "_law_comma" "_law_comma" s__law_comma f fd) (hm : mg "_law_comma" = some (.ref f)) : Callee P w K mg base "_law_comma" 1 ["_law_rows"] (sp__law_comma K) :=
  ⟨f, fd, ok__law_comma B ER  F, hm, F.kp, F.binds fun _ _ _ _ _ _ us hl => (by obtain ⟨x0, rfl⟩ := len_1 hl; rfl)⟩

def sp__law_words (K : PySem.W.Frag) : Sp := fun vs H Q _ => ∃ (a p : Addr) (us ts : List Addr) (ss : List Stt) (n : Int) (ps : List (Str × Str)) (Fr : Addr → Prop) (Dz : Addr), vs = [.ref a, .int n, .ref p] ∧ SqL K H a (us.map V.ref) ∧ StRows K Fr H Dz us ss ∧ TOkW ss n ps ∧ SqL K H p (ts.map V.ref) ∧ Tups H ts ps ∧ ∀ (D : Addr) (H' : Hp), H D = none → Same H H' → H' D = some (.lst ((tW ss n ps).map V.str)) → Q (.ref D) H'
set_option maxHeartbeats 4000000 in
seal L2.PE L2.PA L2.PS L2.PSs L2.PT L2.PW L2.PC L2.PG L2.PGs L2.PI L2.PF L2.PSet L2.OpR L2.UnR L2.CallR L2.MtR L2.IxR L2.SlR L2.PO in
theorem ok__law_words {f : Addr} {fd : FuncData} (B : Blt mg) (ER : Ers K mg) (c__law_comma : Callee P w K mg base "_law_comma" 1 ["_law_rows"] (sp__law_comma K)) (F : Fun K "_law_words" "_law_words" s__law_words f fd) : FnOk P w K mg base CX0 2 f fd ["_law_states", "_law_inner", "_law_pairs_here"] (sp__law_words K) := by
  refine F.ok sc__law_words (fun vs H Q E h => ?_) (fun cdv A outer s H vs Q E hr h => ?_)
  · obtain ⟨a, p, us, ts, ss, n, ps, Fr, Dz, rfl, _⟩ := h
    rfl
  · obtain ⟨a, p, us, ts, ss, n, ps, Fr, Dz, rfl, hA, SR, TW, hP, T, q⟩ := h
    have lus := SR.len
    have hn8 := TW.fit.n
    have hpl := TW.pl
    have tkl : ∀ i, (btw "/" ((ss.map wSt).take i)).length ≤ 272 := fun i => by
      have := sts_len (ss := ss.take i) ⟨by rw [List.length_take]; omega, fun s hs => TW.fit.gs s (List.mem_of_mem_take hs), fun s hs => TW.fit.es s (List.mem_of_mem_take hs)⟩
      rwa [List.map_take] at this
    have cmp0 : ∀ xs : List Str, Cmp 2 (Dt.lst (xs.map Dt.str)) (Dt.lst []) := fun xs => .lst (Cmps.of fun d hd e he => by cases he)
    have wgp : ∀ gs : List (Str × Int), gs.map wGo = (gs.map fun g => (g.1, nS g.2)).map wPr := fun gs => by rw [List.map_map]; rfl
    refine ⟨_, (pss_cons (ps_set (i := 3) sc__law_words.nd (pe_lst pa_nil))
      (pss_cons (ps_for PassesOwn.never rfl (pi_list (pv 0)) (pg_tup (n := 2) rfl (pgs_cons (pg_name (i := 4) sc__law_words.nd) (pgs_cons (pg_name (i := 5) sc__law_words.nd) pgs_nil))) (pss_cons (ps_if (pt_cmpR (op_neD hr.units) (pv 3) (pe_lst pa_nil) (nomark _)) (pss_one (ps_expr (pe_bm PySem.F.plainAttrs_list PySem.F.slot_list_append PySem.F.type_list_append mr_append (pv 3) (pa_cons pe_str pa_nil)))) pss_nil)
        (pss_one (ps_set (i := 3) sc__law_words.nd (pe_op op_cat (pe_op op_cat (pe_op op_cat (pv 3) (pe_fn c__law_comma (pa_cons (pe_comp (g := gTup K 2 (gCons (gName 0) (gCons (gName 1) gNil))) (te := tTup (tCons (tVar 0) (tCons (tCB (fun vs H Q => ∃ n : Int, vs = [V.int n] ∧ n.natAbs.log2 < 1920 ∧ Q (V.str (toString n)) H) (tCons (tVar 1) tNil)) tNil))) rfl _law_words_cs1 (pi_list (pv 4)) (fun _ _ _ _ _ => (pg_tup (n := 2) rfl (pgs_cons (pg_name (i := 0) _law_words_cs1.nd) (pgs_cons (pg_name (i := 1) _law_words_cs1.nd) pgs_nil)))) (fun _ _ _ _ _ => pf_nil) (fun _ _ _ _ _ => (pe_tup (pa_cons (pv 0) (pa_cons (pe_callTy call_strI B.b_str (pa_cons (pv 1) pa_nil)) pa_nil))))) pa_nil))) (pe_lst (pa_cons pe_str pa_nil))) (pv 5))))))
      (pss_one (ps_ret (pe_op op_cat (pe_op op_cat (pv 3) (pe_lst (pa_cons pe_str (pa_cons (pe_callTy call_strI B.b_str (pa_cons (pv 1) pa_nil)) (pa_cons pe_str pa_nil))))) (pe_fn c__law_comma (pa_cons (pv 2) pa_nil))))))), ?_⟩
    refine ⟨by decide, fun D0 hD0 => ?_⟩
    refine ⟨_, rfl, a, rfl, ⟨_, (same_new hD0).seq hA⟩, for_list (xs := us.map V.ref) (fun i σ H' => ∃ u4 u5 D, σ = [some (.ref a), some (.int n), some (.ref p), some (.ref D), u4, u5] ∧ Same H H' ∧ H D = none ∧ H' D = some (.lst ((btw "/" ((ss.map wSt).take i)).map V.str))) ⟨none, none, D0, rfl, same_new hD0, hD0, upd_same⟩ (fun i σ H' _ ⟨_, _, _, _, e, _⟩ => e.seq hA) ?_ ?_⟩
    · rintro i x σ H2 hx ⟨u4, u5, D, rfl, s2, hD, eD⟩
      rw [List.getElem?_map] at hx
      obtain ⟨u, hu, rfl⟩ := Option.map_eq_some_iff.mp hx
      have hil : i < ss.length := by rw [← lus]; exact (List.getElem?_eq_some_iff.mp hu).1
      have hsi := List.getElem?_eq_getElem hil
      have hms := List.mem_of_getElem? hsi
      obtain ⟨G, E1, xs, b1, b2, b3, b4, _⟩ := SR.at_ i u _ hu hsi
      have hw : (ss.map wSt)[i]? = some (wSt ss[i]) := by rw [List.getElem?_map, hsi]; rfl
      have hb := btw_take (sg := "/") hw
      have tki := tkl i
      refine ⟨u, _, rfl, SqT.of (s2 _ _ b1), rfl, _, _, rfl, _, _, rfl, rfl, ?_⟩
      refine seq_cut (fun σ' H' => σ' = [some (.ref a), some (.int n), some (.ref p), some (.ref D), some (.ref G), some (.ref E1)] ∧ Same H H' ∧ H' D = some (.lst ((if i = 0 then [] else btw "/" ((ss.map wSt).take i) ++ [("/" : Str)]).map V.str))) ?_ (fun N hN => ?_)
      case refine_2 =>
        refine ⟨_, rfl, by decide, fun E0 hE0 => ?_⟩
        have s3 := same_new (o := .lst []) hE0
        have eE0 : (upd H2 E0 (.lst [])) E0 = some (.lst []) := upd_same
        generalize upd H2 E0 (.lst []) = H3 at s3 eE0 ⊢
        have eD3 := s3 _ _ eD
        refine ⟨2, _, _, cmp0 _, by decide, .lst (SqL.of eD3) (IsDts.strs _), .lst (SqL.of eE0) .nil, _, rfl, ?_⟩
        have s23 := s2.trans s3
        by_cases h0 : i = 0
        · have e : (btw "/" ((ss.map wSt).take i)) = [] := by rw [h0]; rfl
          rw [dec_true (by rw [e]; rfl)]
          exact iteF (hN _ _ ⟨rfl, s23, by rw [if_pos h0, eD3, e]⟩)
        · have e : (btw "/" ((ss.map wSt).take i)) ≠ [] := fun z => by
            have := btw_nil (sg := "/") (gs := (ss.map wSt).take i) (fun g hg z => by
              obtain ⟨p, _, rfl⟩ := List.mem_map.mp (List.mem_of_mem_take hg)
              unfold wSt at z
              simp at z) z
            have := congrArg List.length this
            rw [List.length_take, List.length_map, List.length_nil] at this
            omega
          rw [dec_false (by intro z; injection z with z; exact e (by simpa using z))]
          refine iteT ⟨_, rfl, Or.inl ⟨rfl, _, SqL.of eD3⟩, D, _, _, rfl, rfl, eD3, by rw [List.length_map]; exact small1000 (by omega), ?_⟩
          refine hN _ _ ⟨rfl, fun b o e => ?_, ?_⟩
          · rw [upd_ne (ne_of_none e hD)]; exact s23 b o e
          · rw [upd_same, if_neg h0, List.map_append]; rfl
      rintro σ' H4 ⟨rfl, s4, eD4⟩
      have lpre : (if i = 0 then [] else btw "/" ((ss.map wSt).take i) ++ [("/" : Str)]).length ≤ 273 := by
        split
        · exact Nat.zero_le _
        · rw [List.length_append, List.length_singleton]; omega
      generalize (if i = 0 then [] else btw "/" ((ss.map wSt).take i) ++ [("/" : Str)]) = pre at hb eD4 lpre
      obtain ⟨gv, hg, hgd⟩ := b2
      have lgv := hgd.len_map
      have g8 := TW.fit.gs _ hms
      have e8 := TW.fit.es _ hms
      have hgo := TW.go _ hms
      generalize ss[i] = st at *
      have gl := go_len (gs := st.1)
      refine ⟨_, rfl, _, rfl, G, rfl, ⟨_, s4.seq hg⟩, comp_listI (xs := gv) (fun Dr j ys H' => ∃ rs : List Addr, Same H4 H' ∧ H' Dr = some (.lst ys) ∧ ys = rs.map V.ref ∧ Tups H' rs ((st.1.map fun g => (g.1, nS g.2)).take j))
        (fun Dr hDr => ⟨[], same_new hDr, upd_same, rfl, by rw [List.take_zero]; exact Tups.nil⟩) (fun Dr j ys H' ⟨_, s5, _⟩ => (s4.trans s5).seq hg) (fun Dr j x ys H5 R hDr0 hx hv k => ?_) (fun Dr ys H5 hDr0 hv => ?_)⟩
      · obtain ⟨rs, s5, eDr, rfl, T5⟩ := hv
        obtain ⟨pg, tg, hpg, rfl, htg⟩ := hgd.goes_get hx
        have hjl : j < st.1.length := (List.getElem?_eq_some_iff.mp hpg).1
        obtain ⟨_, n0, n9⟩ := hgo pg (List.mem_of_getElem? hpg)
        have hw2 : (st.1.map fun g => (g.1, nS g.2))[j]? = some (pg.1, nS pg.2) := by rw [List.getElem?_map, hpg]; rfl
        have lrs : rs.length ≤ 8 := by rw [T5.len, List.length_take, List.length_map]; omega
        refine ⟨tg, _, rfl, (s4.trans s5).seqT htg, rfl, _, _, rfl, _, _, rfl, rfl, ?_⟩
        refine ⟨_, rfl, _, rfl, pg.2, rfl, num_small n0 n9, two_le, fun z hz => ?_⟩
        have s6 := same_new (o := .tup [.str pg.1, .str (toString pg.2)]) hz
        have T6 := (T5.same s6).snoc (p := (pg.1, nS pg.2)) (t := z) upd_same
        have eDr6 := s6 _ _ eDr
        refine k _ _ eDr6 (by rw [List.length_map]; exact small1000 (by omega)) ⟨rs ++ [z], fun b o e => ?_, upd_same, by rw [List.map_append]; rfl, ?_⟩
        · rw [upd_ne (ne_of_none e hDr0)]; exact s6 _ _ (s5 b o e)
        · rw [List.take_succ, hw2]
          exact T6.upd (T6.ne eDr6)
      · obtain ⟨rs, s5, eDr, rfl, T5⟩ := hv
        rw [lgv, List.take_of_length_le (by rw [List.length_map]; exact Nat.le_refl _)] at T5
        refine ⟨Dr, rs, _, rfl, SqL.of eDr, T5, by rw [List.length_map]; omega, fun C1 H6 hC1 s6 eC1 => ?_⟩
        rw [← wgp] at eC1
        have s46 := (s4.trans s5).trans s6
        refine ⟨D, C1, _, _, rfl, rfl, s6 _ _ (s5 _ _ eD4), eC1, ?_, fun C2 hC2 => ?_⟩
        · rw [List.length_map, List.length_map]; exact Nat.le_of_lt (small1000 (by omega))
        generalize hv2 : pre.map V.str ++ (btw "," (st.1.map wGo)).map V.str = w2
        have l2 : w2.length ≤ 297 := by rw [← hv2, List.length_append, List.length_map, List.length_map]; omega
        have s7 := same_new (o := .lst w2) hC2
        have eC2 : (upd H6 C2 (.lst w2)) C2 = some (.lst w2) := upd_same
        generalize upd H6 C2 (.lst w2) = H7 at s7 eC2 ⊢
        refine ⟨(show 1 ≤ sizeLine by decide), fun C3 hC3 => ?_⟩
        have s8 := same_new (o := .lst [.str ":"]) hC3
        have eC3 : (upd H7 C3 (.lst [.str ":"])) C3 = some (.lst [.str ":"]) := upd_same
        generalize upd H7 C3 (.lst [.str ":"]) = H8 at s8 eC3 ⊢
        refine ⟨C2, C3, _, _, rfl, rfl, s8 _ _ eC2, eC3, Nat.le_of_lt (small1000 (show _ + 1 ≤ 1000 by omega)), fun C4 hC4 => ?_⟩
        have s9 := same_new (o := .lst (w2 ++ [.str ":"])) hC4
        have eC4 : (upd H8 C4 (.lst (w2 ++ [.str ":"]))) C4 = some (.lst (w2 ++ [.str ":"])) := upd_same
        generalize upd H8 C4 (.lst (w2 ++ [.str ":"])) = H9 at s9 eC4 ⊢
        have s49 := ((s46.trans s7).trans s8).trans s9
        refine ⟨_, rfl, C4, E1, _, _, rfl, rfl, eC4, s49 _ _ b4, ?_, fun C5 hC5 => ?_⟩
        · rw [List.length_append, List.length_map]; exact Nat.le_of_lt (small1000 (show _ + 1 + _ ≤ 1000 by omega))
        refine ⟨_, _, C5, rfl, s49.trans (same_new hC5), s49.free hC5, ?_⟩
        rw [upd_same, hb, ← hv2]
        unfold wSt
        rw [List.map_append, List.map_append, List.map_append, List.append_assoc, List.append_assoc, List.append_assoc]; rfl
    · rintro σ H2 ⟨u4, u5, D, rfl, s2, hD, eD⟩
      rw [List.length_map, lus, List.take_of_length_le (by rw [List.length_map]; exact Nat.le_refl _)] at eD
      have l1 := sts_len TW.fit
      have l2 := pr_len (gs := ps)
      refine ⟨_, rfl, _, rfl, n, rfl, num_small TW.n0 TW.n9, (show 3 ≤ sizeLine by decide), fun M1 hM1 => ?_⟩
      have s7 := same_new (o := .lst [.str "|", .str (toString n), .str "|"]) hM1
      have eM1 : (upd H2 M1 (.lst [.str "|", .str (toString n), .str "|"])) M1 = some (.lst (([("|" : Str), nS n, "|"] : List Str).map V.str)) := upd_same
      generalize upd H2 M1 (.lst [.str "|", .str (toString n), .str "|"]) = H7 at s7 eM1 ⊢
      refine ⟨D, M1, _, _, rfl, rfl, s7 _ _ eD, eM1, ?_, fun M2 hM2 => ?_⟩
      · rw [List.length_map, List.length_map]; exact Nat.le_of_lt (small1000 (show _ + 3 ≤ 1000 by omega))
      generalize hv2 : (btw "/" (ss.map wSt)).map V.str ++ ([("|" : Str), nS n, "|"] : List Str).map V.str = w2
      have l3 : w2.length ≤ 275 := by rw [← hv2, List.length_append, List.length_map, List.length_map]; show _ + 3 ≤ 275; omega
      have s8 := same_new (o := .lst w2) hM2
      have eM2 : (upd H7 M2 (.lst w2)) M2 = some (.lst w2) := upd_same
      generalize upd H7 M2 (.lst w2) = H8 at s8 eM2 ⊢
      have s28 := (s2.trans s7).trans s8
      refine ⟨_, rfl, p, ts, ps, rfl, s28.seq hP, T.same s28, by omega, fun C1 H9 hC1 s9 eC1 => ?_⟩
      have s29 := s28.trans s9
      refine ⟨M2, C1, _, _, rfl, rfl, s9 _ _ eM2, eC1, ?_, fun M3 hM3 => ?_⟩
      · rw [List.length_map]; exact Nat.le_of_lt (small1000 (by omega))
      refine q M3 _ (s29.free hM3) (s29.trans (same_new hM3)) ?_
      rw [upd_same, ← hv2]
      unfold tW
      rw [List.map_append, List.map_append]
theorem call__law_words {f : Addr} {fd : FuncData} (B : Blt mg) (ER : Ers K mg) (c__law_comma : Callee P w K mg base "_law_comma" 1 ["_law_rows"] (sp__law_comma K)) (F : Fun K "_law_words" "_law_words" s__law_words f fd) (hm : mg "_law_words" = some (.ref f)) : Callee P w K mg base "_law_words" 2 ["_law_states", "_law_inner", "_law_pairs_here"] (sp__law_words K) :=
  ⟨f, fd, ok__law_words B ER c__law_comma F, hm, F.kp, F.binds fun _ _ _ _ _ _ us hl => (by obtain ⟨x0, x1, x2, rfl⟩ := len_3 hl; rfl)⟩

def sp__law_bare (K : PySem.W.Frag) : Sp := fun vs H Q _ => ∃ (o : Addr) (ord : List (Str × Str)), vs = [.ref o] ∧ Prs K H o ord ∧ ord.length ≤ 64 ∧ ∀ (D : Addr) (ts : List Addr) (H' : Hp), H D = none → Same H H' → H' D = some (.lst (ts.map V.ref)) → Tups H' ts (bareOf ord) → Q (.ref D) H'
set_option maxHeartbeats 4000000 in
seal L2.PE L2.PA L2.PS L2.PSs L2.PT L2.PW L2.PC L2.PG L2.PGs L2.PI L2.PF L2.PSet L2.OpR L2.UnR L2.CallR L2.MtR L2.IxR L2.SlR L2.PO in
theorem ok__law_bare {f : Addr} {fd : FuncData} (B : Blt mg) (ER : Ers K mg)  (F : Fun K "_law_bare" "_law_bare" s__law_bare f fd) : FnOk P w K mg base CX0 1 f fd ["_law_order"] (sp__law_bare K) := by
  refine F.ok sc__law_bare (fun vs H Q E h => ?_) (fun cdv A outer s H vs Q E hr h => ?_)
  · obtain ⟨o, ord, rfl, _⟩ := h
    rfl
  · obtain ⟨o, ord, rfl, ⟨ws, hO, hD⟩, hl, q⟩ := h
    have lws := hD.len_map
    refine ⟨_, (pss_cons (ps_set (i := 1) sc__law_bare.nd (pe_lst pa_nil))
      (pss_cons (ps_for PassesOwn.never rfl (pi_list (pv 0)) (pg_tup (n := 2) rfl (pgs_cons (pg_name (i := 2) sc__law_bare.nd) (pgs_cons (pg_name (i := 3) sc__law_bare.nd) pgs_nil))) (pss_one (ps_if (pt_cmpR (op_eqD hr.units) (pe_comp (g := gTup K 2 (gCons (gName 0) (gCons (gName 1) gNil))) (tc := tAnd (tTest (tOp rEq (tVar 0) (tVar 2))) (tTest (tOp (rInD K) (tTup (tCons (tVar 1) (tCons (tVar 4) tNil))) (tVar 3)))) rfl _law_bare_cs1 (pi_list (pv 0)) (fun _ _ _ _ _ => (pg_tup (n := 2) rfl (pgs_cons (pg_name (i := 0) _law_bare_cs1.nd) (pgs_cons (pg_name (i := 1) _law_bare_cs1.nd) pgs_nil)))) (fun _ _ _ _ _ => (pf_one (PW.pt (pw_and (pt_cmpR op_eq (pv 0) (pv 2) (nomark _)) (pw_and1 (pt_cmpR (op_inD hr.units) (pe_tup (pa_cons (pv 1) (pa_cons (pv 4) pa_nil))) (pv 3) (by with_unfolding_all rfl))))))) (fun _ _ _ _ _ => (pv 1))) (pe_lst pa_nil) (nomark _)) (pss_one (ps_expr (pe_bm PySem.F.plainAttrs_list PySem.F.slot_list_append PySem.F.type_list_append mr_append (pv 1) (pa_cons (pe_tup (pa_cons (pv 2) (pa_cons (pv 3) pa_nil))) pa_nil)))) pss_nil)))
      (pss_one (ps_ret (pv 1))))), ?_⟩
    refine ⟨by decide, fun D hD0 => ?_⟩
    refine ⟨_, rfl, o, rfl, ⟨_, (same_new hD0).seq hO⟩, for_list (xs := ws) (fun i σ H' => ∃ u2 u3 ts, σ = [some (.ref o), some (.ref D), u2, u3] ∧ Same H H' ∧ H' D = some (.lst (ts.map V.ref)) ∧ Tups H' ts ((ord.take i).filter (bareB ord))) ⟨none, none, [], rfl, same_new hD0, upd_same, Tups.nil⟩ (fun i σ H' _ ⟨_, _, _, _, e, _⟩ => e.seq hO) ?_ ?_⟩
    · rintro i x σ H2 hx ⟨u2, u3, ts, rfl, s2, eD, T⟩
      obtain ⟨pr, t, hp, rfl, ht⟩ := hD.pairs_get hx
      have hil : i < ord.length := (List.getElem?_eq_some_iff.mp hp).1
      have hb := bare_take hp
      have bl := bare_len (ord := ord) i
      refine ⟨t, _, rfl, s2.seqT ht, rfl, _, _, rfl, _, _, rfl, rfl, ?_⟩
      refine ⟨_, rfl, o, rfl, ⟨_, s2.seq hO⟩, comp_listT (xs := ws) (fun D' j ys H' => Same H2 H' ∧ H' D' = some (.lst ys) ∧ ∃ xs : List Str, ys = xs.map V.str ∧ xs.length ≤ j ∧ (xs = [] ↔ ∀ p ∈ ord.take j, ¬ (p.1 = pr.1 ∧ (p.2, pr.2) ∈ ord)))
        (fun D' hD' => ⟨same_new hD', upd_same, [], rfl, Nat.le_refl _, ⟨fun _ p hp => by simp at hp, fun _ => rfl⟩⟩) (fun D' j ys H' ⟨s3, _⟩ => (s2.trans s3).seq hO) (fun D' j y ys H3 R R0 hD'0 hy hv k k0 => ?_) (fun D' ys H3 hD'0 hv => ?_)⟩
      · obtain ⟨s3, eD', xs, rfl, hxl, hxs⟩ := hv
        obtain ⟨p2, t2, hp2, rfl, ht2⟩ := hD.pairs_get hy
        have hjl : j < ord.length := (List.getElem?_eq_some_iff.mp hp2).1
        have s23 := s2.trans s3
        have etk : ord.take (j + 1) = ord.take j ++ [p2] := by rw [List.take_succ, hp2]; rfl
        have no : ¬ (p2.1 = pr.1 ∧ (p2.2, pr.2) ∈ ord) → (xs = [] ↔ ∀ p ∈ ord.take (j + 1), ¬ (p.1 = pr.1 ∧ (p.2, pr.2) ∈ ord)) := fun hn => by
          rw [hxs, etk]
          refine ⟨fun h p hp => ?_, fun h p hp => h p (List.mem_append_left _ hp)⟩
          rcases List.mem_append.mp hp with hp | hp
          · exact h p hp
          · rw [List.mem_singleton.mp hp]; exact hn
        refine ⟨t2, _, rfl, s23.seqT ht2, rfl, _, _, rfl, _, _, rfl, rfl, ?_⟩
        refine ⟨_, rfl, _, rfl, rfl, _, rfl, ?_⟩
        refine ite2 (fun h1 => ?_) (fun h1 => iteF (k0 _ ⟨s3, eD', xs, rfl, by omega, no fun z => h1 (by rw [z.1]; exact decide_eq_true rfl)⟩))
        have h1 : p2.1 = pr.1 := V.str.inj (of_decide_eq_true h1)
        refine ⟨_, rfl, _, rfl, two_le, fun tt htt => ?_⟩
        have s4 := same_new (o := .tup [.str p2.2, .str pr.2]) htt
        have ett : (upd H3 tt (.tup [.str p2.2, .str pr.2])) tt = some (.tup [.str p2.2, .str pr.2]) := upd_same
        generalize upd H3 tt (.tup [.str p2.2, .str pr.2]) = H4 at s4 ett ⊢
        have s24 := s23.trans s4
        refine ⟨_, rfl, 2, prD (p2.2, pr.2), ord.map prD, o, ws, cmp_pairs ord _, by decide, .tup (SqT.of ett) (.cons (.str _) (.cons (.str _) .nil)), rfl, s24.seq hO, hD.same s24, _, rfl, ?_⟩
        rw [dec_congr prD_mem]
        by_cases h2 : (p2.2, pr.2) ∈ ord
        · rw [dec_true h2]
          refine iteT ⟨_, rfl, k _ _ (s4 _ _ eD') (by rw [List.length_map]; exact small1000 (by omega)) ⟨fun b o e => ?_, upd_same, xs ++ [p2.2], by rw [List.map_append]; rfl, by rw [List.length_append]; simp; omega, ⟨fun z => by simp at z, fun h => absurd ⟨h1, h2⟩ (h p2 (by rw [etk]; simp))⟩⟩⟩
          rw [upd_ne (ne_of_none e hD'0)]; exact s4 _ _ (s3 b o e)
        · rw [dec_false h2]
          exact iteF (k0 _ ⟨s3.trans s4, s4 _ _ eD', xs, rfl, by omega, no fun z => h2 z.2⟩)
      · obtain ⟨s3, eD', xs, rfl, hxl, hxs⟩ := hv
        rw [lws, List.take_length] at hxs
        refine ⟨by decide, fun E0 hE0 => ?_⟩
        have s4 := same_new (o := .lst []) hE0
        have eE0 : (upd H3 E0 (.lst [])) E0 = some (.lst []) := upd_same
        generalize upd H3 E0 (.lst []) = H4 at s4 eE0 ⊢
        have s34 := s3.trans s4
        refine ⟨2, _, _, (.lst (Cmps.of fun d hd e he => by cases he) : Cmp 2 (Dt.lst (xs.map Dt.str)) (Dt.lst [])), by decide, .lst (SqL.of (s4 _ _ eD')) (IsDts.strs _), .lst (SqL.of eE0) .nil, _, rfl, ?_⟩
        have hbr : bareB ord pr = true ↔ xs = [] := by
          rw [hxs]
          unfold bareB
          rw [Bool.not_eq_true', ← Bool.not_eq_true, dec_iff]
          constructor
          · rintro h p hp ⟨h1, h2⟩
            exact h ⟨p.2, by rw [← h1]; exact hp, h2⟩
          · rintro h ⟨l, h1, h2⟩
            exact h _ h1 ⟨rfl, h2⟩
        by_cases h0 : xs = []
        · rw [dec_true (by rw [h0]; rfl)]
          rw [if_pos (hbr.mpr h0)] at hb
          refine iteT ⟨_, rfl, Or.inl ⟨rfl, _, SqL.of (s34 _ _ eD)⟩, _, rfl, _, rfl, two_le, fun tt htt => ?_⟩
          have s5 := same_new (o := .tup [.str pr.1, .str pr.2]) htt
          have T5 := ((T.same s34).same s5).snoc (p := pr) (t := tt) upd_same
          have eD5 := s5 _ _ (s34 _ _ eD)
          refine ⟨D, _, _, rfl, rfl, eD5, by rw [List.length_map, T.len]; exact small1000 (by omega), ?_⟩
          refine ⟨_, _, ts ++ [tt], rfl, fun b o e => ?_, by rw [upd_same, List.map_append]; rfl, by rw [hb]; exact T5.upd (T5.ne eD5)⟩
          rw [upd_ne (ne_of_none e hD0)]; exact s5 _ _ (s34 _ _ (s2 b o e))
        · rw [dec_false (by intro z; injection z with z; exact h0 (by simpa using z))]
          rw [if_neg (fun z => h0 (hbr.mp z)), List.append_nil] at hb
          exact iteF ⟨_, _, ts, rfl, s2.trans s34, s34 _ _ eD, by rw [hb]; exact T.same s34⟩
    · rintro σ H2 ⟨u2, u3, ts, rfl, s2, eD, T⟩
      rw [lws, List.take_length] at T
      exact ⟨_, rfl, q D ts H2 hD0 s2 eD T⟩
theorem call__law_bare {f : Addr} {fd : FuncData} (B : Blt mg) (ER : Ers K mg)  (F : Fun K "_law_bare" "_law_bare" s__law_bare f fd) (hm : mg "_law_bare" = some (.ref f)) : Callee P w K mg base "_law_bare" 1 ["_law_order"] (sp__law_bare K) :=
  ⟨f, fd, ok__law_bare B ER  F, hm, F.kp, F.binds fun _ _ _ _ _ _ us hl => (by obtain ⟨x0, rfl⟩ := len_1 hl; rfl)⟩

def sp_with_between (_ : PySem.W.Frag) : Sp := fun vs H Q _ => ∃ (l : Addr) (us : List Addr) (ws : List (List Str)) (sg : Str), vs = [.ref l, .str sg] ∧ H l = some (.lst (us.map V.ref)) ∧ Wds H us ws ∧ ws.length ≤ 60 ∧ (∀ g ∈ ws, g.length ≤ 40) ∧ ∀ (D : Addr) (H' : Hp), H D = none → Same H H' → H' D = some (.lst ((btw sg ws).map V.str)) → Q (.ref D) H'
set_option maxHeartbeats 4000000 in
seal L2.PE L2.PA L2.PS L2.PSs L2.PT L2.PW L2.PC L2.PG L2.PGs L2.PI L2.PF L2.PSet L2.OpR L2.UnR L2.CallR L2.MtR L2.IxR L2.SlR L2.PO in
theorem ok_with_between {f : Addr} {fd : FuncData} (B : Blt mg) (ER : Ers K mg)  (F : Fun K "with_between" "with_between" s_with_between f fd) : FnOk P w K mg base CX0 1 f fd ["groups", "sign"] (sp_with_between K) := by
  refine F.ok sc_with_between (fun vs H Q E h => ?_) (fun cdv A outer s H vs Q E hr h => ?_)
  · obtain ⟨l, us, ws, sg, rfl, _⟩ := h
    rfl
  · obtain ⟨l, us, ws, sg, rfl, eL, W, hw, hg, q⟩ := h
    have lus := W.len
    have tkl : ∀ i, (btw sg (ws.take i)).length ≤ 2460 := fun i => by
      have := btw_len (sg := sg) (m := 40) (gs := ws.take i) fun g hm => hg g (List.mem_of_mem_take hm)
      rw [List.length_take] at this
      omega
    refine ⟨_, (pss_cons (ps_set (i := 2) sc_with_between.nd (pe_lst pa_nil))
      (pss_cons (ps_for PassesOwn.never rfl (pi_enum rfl B.b_enumerate (pa_cons (pv 0) pa_nil)) (pg_tup (n := 2) rfl (pgs_cons (pg_name (i := 3) sc_with_between.nd) (pgs_cons (pg_name (i := 4) sc_with_between.nd) pgs_nil))) (pss_cons (ps_if (pt_cmpR op_gt (pv 3) pe_int (nomark _)) (pss_one (ps_expr (pe_bm PySem.F.plainAttrs_list PySem.F.slot_list_append PySem.F.type_list_append mr_append (pv 2) (pa_cons (pv 1) pa_nil)))) pss_nil)
        (pss_one (ps_expr (pe_bm PySem.F.plainAttrs_list PySem.F.slot_list_extend PySem.F.type_list_extend mr_extend (pv 2) (pa_cons (pv 4) pa_nil))))))
      (pss_one (ps_ret (pv 2))))), ?_⟩
    refine ⟨by decide, fun D hD => ?_⟩
    refine ⟨_, rfl, l, rfl, ⟨_, (same_new hD) _ _ eL⟩, for_enum (xs := us.map V.ref) (fun i σ H' => ∃ u3 u4, σ = [some (.ref l), some (.str sg), some (.ref D), u3, u4] ∧ Same H H' ∧ H' D = some (.lst ((btw sg (ws.take i)).map V.str))) ⟨none, none, rfl, same_new hD, upd_same⟩ (fun i σ H' ⟨_, _, _, e, _⟩ => SqL.of (e _ _ eL)) ?_ ?_⟩
    · rintro i x T σ H2 hx hT ⟨u3, u4, rfl, s2, eD⟩
      rw [List.getElem?_map] at hx
      obtain ⟨u, hu, rfl⟩ := Option.map_eq_some_iff.mp hx
      have hil : i < ws.length := by rw [← lus]; exact (List.getElem?_eq_some_iff.mp hu).1
      have hgi := List.getElem?_eq_getElem hil
      have eu := W.at_ i u _ hu hgi
      have gl := hg _ (List.mem_of_getElem? hgi)
      have hb := btw_take (sg := sg) hgi
      have tki := tkl i
      refine ⟨T, _, rfl, SqT.of upd_same, rfl, _, _, rfl, _, _, rfl, rfl, ?_⟩
      have s3 := s2.trans (same_new (o := .tup [.int i, .ref u]) hT)
      have eD3 := same_new (o := .tup [.int i, .ref u]) hT _ _ eD
      generalize upd H2 T (.tup [.int i, .ref u]) = H3 at s3 eD3 ⊢
      refine seq_cut (fun σ' H' => σ' = [some (.ref l), some (.str sg), some (.ref D), some (.int i), some (.ref u)] ∧ Same H H' ∧ H' D = some (.lst ((if i = 0 then [] else btw sg (ws.take i) ++ [sg]).map V.str))) ?_ (fun N hN => ?_)
      case refine_2 =>
        refine ⟨_, rfl, _, _, rfl, rfl, _, rfl, ?_⟩
        refine ite2 (fun h1 => ?_) (fun h1 => ?_)
        · have h1 : i ≠ 0 := by have : ((i : Nat) : Int) > 0 := of_decide_eq_true h1; omega
          refine ⟨_, rfl, Or.inl ⟨rfl, _, SqL.of eD3⟩, _, rfl, D, _, _, rfl, rfl, eD3, ?_, ?_⟩
          · rw [List.length_map]; exact Nat.lt_of_le_of_lt tki (by decide)
          refine hN _ _ ⟨rfl, fun b o e => ?_, ?_⟩
          · rw [upd_ne (ne_of_none e hD)]; exact s3 b o e
          · rw [upd_same, if_neg h1, List.map_append]; rfl
        · have h1 : i = 0 := by
            refine Nat.eq_zero_of_not_pos fun z => h1 (decide_eq_true ?_)
            show ((i : Nat) : Int) > 0
            omega
          refine hN _ _ ⟨rfl, s3, ?_⟩
          rw [if_pos h1, eD3, h1]; rfl
      rintro σ' H4 ⟨rfl, s4, eD4⟩
      have eu4 := s4 _ _ eu
      refine ⟨_, rfl, Or.inl ⟨rfl, _, SqL.of eD4⟩, _, rfl, D, u, _, _, rfl, rfl, eD4, eu4, ?_, ?_⟩
      · rw [List.length_map, List.length_map]
        have : (if i = 0 then [] else btw sg (ws.take i) ++ [sg]).length ≤ 2461 := by
          split
          · exact Nat.zero_le _
          · rw [List.length_append, List.length_singleton]; omega
        exact Nat.le_trans (show _ ≤ 2501 by omega) (by decide)
      refine ⟨_, _, rfl, fun b o e => ?_, ?_⟩
      · rw [upd_ne (ne_of_none e hD)]; exact s4 b o e
      · rw [upd_same, hb, List.map_append]
    · rintro σ H2 ⟨u3, u4, rfl, s2, eD⟩
      rw [List.length_map, lus, List.take_length] at eD
      exact ⟨_, rfl, q D H2 hD s2 eD⟩
theorem call_with_between {f : Addr} {fd : FuncData} (B : Blt mg) (ER : Ers K mg)  (F : Fun K "with_between" "with_between" s_with_between f fd) (hm : mg "with_between" = some (.ref f)) : Callee P w K mg base "with_between" 1 ["groups", "sign"] (sp_with_between K) :=
  ⟨f, fd, ok_with_between B ER  F, hm, F.kp, F.binds fun _ _ _ _ _ _ us hl => (by obtain ⟨x0, x1, rfl⟩ := len_2 hl; rfl)⟩

def sp_words_of_state (K : PySem.W.Frag) : Sp := fun vs H Q _ => ∃ (g e : Addr) (s : Stt), vs = [.ref g, .ref e] ∧ Goes K H g s.1 ∧ H e = some (.lst (s.2.map V.str)) ∧ s.1.length ≤ 8 ∧ s.2.length ≤ 8 ∧ (∀ p ∈ s.1, 0 ≤ p.2 ∧ p.2 < 10) ∧ ∀ (D : Addr) (H' : Hp), H D = none → Same H H' → H' D = some (.lst ((wSt s).map V.str)) → Q (.ref D) H'
set_option maxHeartbeats 4000000 in
seal L2.PE L2.PA L2.PS L2.PSs L2.PT L2.PW L2.PC L2.PG L2.PGs L2.PI L2.PF L2.PSet L2.OpR L2.UnR L2.CallR L2.MtR L2.IxR L2.SlR L2.PO in
theorem ok_words_of_state {f : Addr} {fd : FuncData} (B : Blt mg) (ER : Ers K mg) (c_with_between : Callee P w K mg base "with_between" 1 ["groups", "sign"] (sp_with_between K)) (F : Fun K "words_of_state" "words_of_state" s_words_of_state f fd) : FnOk P w K mg base CX0 2 f fd ["goes", "ends"] (sp_words_of_state K) := by
  refine F.ok sc_words_of_state (fun vs H Q E h => ?_) (fun cdv A outer s H vs Q E hr h => ?_)
  · obtain ⟨g, e, s, rfl, _⟩ := h
    rfl
  · obtain ⟨g, e, st, rfl, ⟨gv, hg, hgd⟩, he, l1, l2, hn, q⟩ := h
    have lgv := hgd.len_map
    refine ⟨_, (pss_one (ps_ret (pe_op op_cat (pe_op op_cat (pe_fn c_with_between (pa_cons (pe_comp (g := gTup K 2 (gCons (gName 0) (gCons (gName 1) gNil))) (te := tLst (tCons (tVar 0) (tCons (tCB (fun vs H Q => ∃ n : Int, vs = [V.int n] ∧ n.natAbs.log2 < 1920 ∧ Q (V.str (toString n)) H) (tCons (tVar 1) tNil)) tNil))) rfl words_of_state_cs1 (pi_list (pv 0)) (fun _ _ _ _ _ => (pg_tup (n := 2) rfl (pgs_cons (pg_name (i := 0) words_of_state_cs1.nd) (pgs_cons (pg_name (i := 1) words_of_state_cs1.nd) pgs_nil)))) (fun _ _ _ _ _ => pf_nil) (fun _ _ _ _ _ => (pe_lst (pa_cons (pv 0) (pa_cons (pe_callTy call_strI B.b_str (pa_cons (pv 1) pa_nil)) pa_nil))))) (pa_cons pe_str pa_nil))) (pe_lst (pa_cons pe_str pa_nil))) (pv 1)))), ?_⟩
    refine ⟨_, rfl, g, rfl, ⟨_, hg⟩, comp_listI (xs := gv) (fun D i ys H' => ∃ us : List Addr, Same H H' ∧ H' D = some (.lst ys) ∧ ys = us.map V.ref ∧ (∀ u ∈ us, u ≠ D) ∧ Wds H' us ((st.1.map wGo).take i))
      (fun D hD => ⟨[], same_new hD, upd_same, rfl, fun u hu => by simp at hu, by rw [List.take_zero]; exact Wds.nil⟩) (fun D i ys H' ⟨_, s1, _⟩ => s1.seq hg) (fun D i x ys H2 R hD0 hx hv k => ?_) (fun D ys H2 hD0 hv => ?_)⟩
    · obtain ⟨us, s2, eD, rfl, hnd, W⟩ := hv
      obtain ⟨p, t, hp, rfl, ht⟩ := hgd.goes_get hx
      have hil : i < st.1.length := (List.getElem?_eq_some_iff.mp hp).1
      obtain ⟨n0, n9⟩ := hn p (List.mem_of_getElem? hp)
      have hw : (st.1.map wGo)[i]? = some (wGo p) := by rw [List.getElem?_map, hp]; rfl
      have lus : us.length ≤ 8 := by rw [W.len, List.length_take, List.length_map]; omega
      refine ⟨t, _, rfl, s2.seqT ht, rfl, _, _, rfl, _, _, rfl, rfl, ?_⟩
      refine ⟨_, rfl, _, rfl, p.2, rfl, num_small n0 n9, two_le, fun u hu => ?_⟩
      have s3 := same_new (o := .lst [.str p.1, .str (toString p.2)]) hu
      have eu : (upd H2 u (.lst [.str p.1, .str (toString p.2)])) u = some (.lst ((wGo p).map V.str)) := upd_same
      generalize upd H2 u (.lst [.str p.1, .str (toString p.2)]) = H3 at s3 eu ⊢
      have nu : u ≠ D := fun z => by rw [z, eD] at hu; cases hu
      refine k _ _ (s3 _ _ eD) (by rw [List.length_map]; exact small1000 (by omega)) ⟨us ++ [u], fun b o e => ?_, upd_same, by rw [List.map_append]; rfl, fun a ha => ?_, ?_⟩
      · rw [upd_ne (ne_of_none e hD0)]; exact s3 _ _ (s2 b o e)
      · rcases List.mem_append.mp ha with ha | ha
        · exact hnd a ha
        · rw [List.mem_singleton.mp ha]; exact nu
      · rw [List.take_succ, hw]
        exact Wds.snoc ((W.same s3).upd hnd) (by rw [upd_ne nu]; exact eu)
    · obtain ⟨us, s2, eD, rfl, hnd, W⟩ := hv
      rw [lgv, List.take_of_length_le (by rw [List.length_map]; exact Nat.le_refl _)] at W
      refine ⟨D, us, _, ",", rfl, eD, W, by rw [List.length_map]; omega, fun y hy => ?_, fun E1 H3 hE1 s3 eE1 => ?_⟩
      · obtain ⟨p, _, rfl⟩ := List.mem_map.mp hy
        exact (show 2 ≤ 40 by decide)
      have gl := go_len (gs := st.1)
      refine ⟨(show 1 ≤ sizeLine by decide), fun E2 hE2 => ?_⟩
      have s4 := same_new (o := .lst [.str ":"]) hE2
      have eE2 : (upd H3 E2 (.lst [.str ":"])) E2 = some (.lst [.str ":"]) := upd_same
      generalize upd H3 E2 (.lst [.str ":"]) = H4 at s4 eE2 ⊢
      refine ⟨E1, E2, _, _, rfl, rfl, s4 _ _ eE1, eE2, by rw [List.length_map]; exact Nat.le_of_lt (small1000 (show _ + 1 ≤ 1000 by omega)), fun E3 hE3 => ?_⟩
      have s5 := same_new (o := .lst ((btw "," (st.1.map wGo)).map V.str ++ [.str ":"])) hE3
      have eE3 : (upd H4 E3 (.lst ((btw "," (st.1.map wGo)).map V.str ++ [.str ":"]))) E3 = some (.lst ((btw "," (st.1.map wGo)).map V.str ++ [.str ":"])) := upd_same
      generalize upd H4 E3 (.lst ((btw "," (st.1.map wGo)).map V.str ++ [.str ":"])) = H5 at s5 eE3 ⊢
      have s25 := ((s2.trans s3).trans s4).trans s5
      refine ⟨_, rfl, E3, e, _, _, rfl, rfl, eE3, s25 _ _ he, ?_, fun E4 hE4 => ?_⟩
      · rw [List.length_append, List.length_map, List.length_map]; exact Nat.le_of_lt (small1000 (show _ + 1 + _ ≤ 1000 by omega))
      refine q E4 _ (s25.free hE4) (s25.trans (same_new hE4)) ?_
      rw [upd_same]
      unfold wSt
      rw [List.map_append, List.map_append]; rfl
theorem call_words_of_state {f : Addr} {fd : FuncData} (B : Blt mg) (ER : Ers K mg) (c_with_between : Callee P w K mg base "with_between" 1 ["groups", "sign"] (sp_with_between K)) (F : Fun K "words_of_state" "words_of_state" s_words_of_state f fd) (hm : mg "words_of_state" = some (.ref f)) : Callee P w K mg base "words_of_state" 2 ["goes", "ends"] (sp_words_of_state K) :=
  ⟨f, fd, ok_words_of_state B ER c_with_between F, hm, F.kp, F.binds fun _ _ _ _ _ _ us hl => (by obtain ⟨x0, x1, rfl⟩ := len_2 hl; rfl)⟩

def sp_next_pairs (K : PySem.W.Frag) : Sp := fun vs H Q _ => ∃ (o : Addr) (ts : List Addr) (ord : List (Str × Str)), vs = [.ref o] ∧ H o = some (.lst (ts.map V.ref)) ∧ Tups H ts ord ∧ ord.length < 64 ∧ ord.Pairwise (lexO strO strO).kle ∧ ∀ (D : Addr) (H' : Hp), H D = none → Same H H' → Prs K H' D (bareOf ord) → Q (.ref D) H'
set_option maxHeartbeats 4000000 in
seal L2.PE L2.PA L2.PS L2.PSs L2.PT L2.PW L2.PC L2.PG L2.PGs L2.PI L2.PF L2.PSet L2.OpR L2.UnR L2.CallR L2.MtR L2.IxR L2.SlR L2.PO in
theorem ok_next_pairs {f : Addr} {fd : FuncData} (B : Blt mg) (ER : Ers K mg)  (F : Fun K "next_pairs" "next_pairs" s_next_pairs f fd) : FnOk P w K mg base CX0 1 f fd ["order"] (sp_next_pairs K) := by
  refine F.ok sc_next_pairs (fun vs H Q E h => ?_) (fun cdv A outer s H vs Q E hr h => ?_)
  · obtain ⟨o, ts, ord, rfl, _⟩ := h
    rfl
  · obtain ⟨o, ts, ord, rfl, eo, TO, hl, hsr, q⟩ := h
    refine ⟨_, (pss_cons (ps_set (i := 1) sc_next_pairs.nd (pe_callTy (call_dictOf rfl (hu2_of hr)) B.b_dict (pa_cons (pe_comp rfl next_pairs_cs1 (pi_list (pv 0)) (fun _ _ _ _ _ => (pg_name (i := 0) next_pairs_cs1.nd)) (fun _ _ _ _ _ => pf_nil) (fun _ _ _ _ _ => (pe_tup (pa_cons (pv 0) (pa_cons pe_bl pa_nil))))) pa_nil)))
      (pss_cons (ps_set (i := 2) sc_next_pairs.nd (pe_callB (call_sortSt rfl) B.b_sorted (pa_cons (pe_callTy (call_set_ofS rfl) B.b_set (pa_cons (pe_comp (g := gTup K 2 (gCons (gName 0) (gCons (gName 1) gNil))) rfl next_pairs_cs2 (pi_list (pv 0)) (fun _ _ _ _ _ => (pg_tup (n := 2) rfl (pgs_cons (pg_name (i := 0) next_pairs_cs2.nd) (pgs_cons (pg_name (i := 1) next_pairs_cs2.nd) pgs_nil)))) (fun _ _ _ _ _ => pf_nil) (fun _ _ _ _ _ => (pv 0))) pa_nil)) pa_nil)))
      (pss_cons (ps_set (i := 3) sc_next_pairs.nd (pe_lst pa_nil))
      (pss_cons (ps_for PassesOwn.never rfl (pi_list (pv 0)) (pg_tup (n := 2) rfl (pgs_cons (pg_name (i := 4) sc_next_pairs.nd) (pgs_cons (pg_name (i := 5) sc_next_pairs.nd) pgs_nil))) (pss_one (ps_if (pt_not (pt_val (pe_callB (call_anyL rfl) B.b_any (pa_cons (pe_comp rfl next_pairs_cs3 (pi_list (pv 2)) (fun _ _ _ _ _ => (pg_name (i := 0) next_pairs_cs3.nd)) (fun _ _ _ _ _ => pf_nil) (fun _ _ _ _ _ => (pe_and (pe_cmpR (op_inDict (hu_of hr)) (pe_tup (pa_cons (pv 2) (pa_cons (pv 0) pa_nil))) (pv 1) (by with_unfolding_all rfl)) (pe_one (pe_cmpR (op_inDict (hu_of hr)) (pe_tup (pa_cons (pv 0) (pa_cons (pv 3) pa_nil))) (pv 1) (by with_unfolding_all rfl)))))) pa_nil)))) (pss_one (ps_expr (pe_bm PySem.F.plainAttrs_list PySem.F.slot_list_append PySem.F.type_list_append mr_append (pv 3) (pa_cons (pe_tup (pa_cons (pv 4) (pa_cons (pv 5) pa_nil))) pa_nil)))) pss_nil)))
      (pss_one (ps_ret (pe_callB (call_sortP strC strC) B.b_sorted (pa_cons (pv 3) pa_nil)))))))), ?_⟩
    refine ⟨_, rfl, o, rfl, ⟨_, SqL.of eo⟩, comp_listI (xs := ts.map V.ref) (fun P i ys H' => Same H H' ∧ H' P = some (.lst ys) ∧ ys.length = i ∧ PrsAt H' ys ((ord.take i).map fun p => (keyP p, V.bl true)))
      (fun P hP => ⟨same_new hP, upd_same, rfl, .nil⟩) (fun P i ys H' ⟨s, _⟩ => SqL.of (s _ _ eo)) (fun P i y ys H2 RR hP hy hv k => ?_) (fun P ys H2 hP hv => ?_)⟩
    · obtain ⟨s2, eP, hl', hps⟩ := hv
      rw [List.getElem?_map] at hy
      obtain ⟨tt, htt, rfl⟩ := Option.map_eq_some_iff.mp hy
      have hio : i < ord.length := by rw [← TO.len]; exact (List.getElem?_eq_some_iff.mp htt).1
      have hoi := List.getElem?_eq_getElem hio
      have ett := s2 _ _ (TO.at_ i _ _ htt hoi)
      refine ⟨_, rfl, two_le, fun T hT => ?_⟩
      have s3 := same_new (o := .tup [.ref tt, .bl true]) hT
      have eT : (upd H2 T (.tup [.ref tt, .bl true])) T = some (.tup [.ref tt, .bl true]) := upd_same
      generalize upd H2 T (.tup [.ref tt, .bl true]) = H3 at s3 eT ⊢
      have eP3 := s3 _ _ eP
      have kp : ∀ b xs, H3 b = some (.tup xs) → (upd H3 P (.lst (ys ++ [.ref T]))) b = some (.tup xs) := fun b xs e => by
        rw [upd_ne (ne_of e eP3 (fun z => nomatch z))]; exact e
      refine k _ _ eP3 (by rw [hl']; exact small1000 (by omega)) ⟨fun b u e => ?_, upd_same, by rw [List.length_append, hl']; rfl, ?_⟩
      · rw [upd_ne (ne_of_none e hP)]; exact s3 _ _ (s2 _ _ e)
      · rw [List.take_succ, hoi, List.map_append]
        exact Paired.snoc ((hps.tups fun b xs e => s3 _ _ e).tups kp) ⟨T, tt, rfl, kp _ _ eT, kp _ _ (s3 _ _ ett)⟩
    obtain ⟨s2, eP, hl', hps⟩ := hv
    rw [List.length_map, TO.len, List.take_length] at hps
    rw [List.length_map, TO.len] at hl'
    refine ⟨P, ys, _, rfl, eP, by rw [hl']; exact small1000 (by omega), hps, fun d hd => ?_⟩
    have s3 := s2.trans (same_new (o := .dT (mergeT [] (ord.map fun p => (keyP p, V.bl true)))) hd)
    have ed : (upd H2 d (.dT (mergeT [] (ord.map fun p => (keyP p, V.bl true))))) d = some (.dT (mergeT [] (ord.map fun p => (keyP p, V.bl true)))) := upd_same
    generalize upd H2 d (.dT (mergeT [] (ord.map fun p => (keyP p, V.bl true)))) = H3 at s3 ed ⊢
    have hbd := fun a b => bet_dict (ord := ord) a b
    generalize mergeT [] (ord.map fun p => (keyP p, V.bl true)) = kvs at ed hbd
    refine g_in ?_
    try dsimp only
    refine ⟨_, rfl, o, rfl, ⟨_, SqL.of (s3 _ _ eo)⟩, comp_listI (xs := ts.map V.ref) (fun P i ys H' => Same H3 H' ∧ H' P = some (.lst ys) ∧ ys = ((ord.take i).map (·.1)).map V.str)
      (fun P hP => ⟨same_new hP, upd_same, rfl⟩) (fun P i ys H' ⟨s, _⟩ => SqL.of (s _ _ (s3 _ _ eo))) (fun P i y ys H4 RR hP hy hv k => ?_) (fun P ys H4 hP hv => ?_)⟩
    · obtain ⟨s4, eP4, rfl⟩ := hv
      rw [List.getElem?_map] at hy
      obtain ⟨tt, htt, rfl⟩ := Option.map_eq_some_iff.mp hy
      have hio : i < ord.length := by rw [← TO.len]; exact (List.getElem?_eq_some_iff.mp htt).1
      have hoi := List.getElem?_eq_getElem hio
      have ett := s4 _ _ (s3 _ _ (TO.at_ i _ _ htt hoi))
      refine ⟨tt, _, rfl, SqT.of ett, rfl, _, _, rfl, _, _, rfl, rfl, ?_⟩
      refine ⟨_, rfl, k _ _ eP4 (by rw [List.length_map, List.length_map, List.length_take]; exact small1000 (by omega)) ⟨fun b u e => ?_, upd_same, ?_⟩⟩
      · rw [upd_ne (ne_of_none e hP)]; exact s4 _ _ e
      · rw [List.take_succ, hoi, List.map_append, List.map_append]; rfl
    obtain ⟨s4, eP4, rfl⟩ := hv
    rw [List.length_map, TO.len, List.take_length] at eP4
    refine ⟨P, _, rfl, SqL.of eP4, by rw [List.length_map]; omega, fun S hS => ?_⟩
    refine ⟨S, ord.map (·.1), rfl, upd_same, by rw [List.length_map]; exact hl, fun L ms hms hmem hL => ?_⟩
    generalize hG : upd (upd H4 S _) L (.lst (ms.map V.str)) = H5
    have eL : H5 L = some (.lst (ms.map V.str)) := by rw [← hG, upd_same]
    have s35 : Same H3 H5 := by rw [← hG]; exact (s4.trans (same_new hS)).trans (same_new hL)
    clear hG hL hS
    refine g_in ?_
    try dsimp only
    refine ⟨by decide, fun D hD => ?_⟩
    have s06 := (s3.trans s35).trans (same_new (o := .lst []) hD)
    have hDH : H D = none := (s3.trans s35).free hD
    have eL6 := same_new (o := .lst []) hD _ _ eL
    have ed6 := same_new (o := .lst []) hD _ _ (s35 _ _ ed)
    have eD6 : (upd H5 D (.lst [])) D = some (.lst []) := upd_same
    generalize upd H5 D (.lst []) = H6 at s06 eL6 ed6 eD6 ⊢
    have nDd : d ≠ D := ne_of ed6 eD6 (fun z => nomatch z)
    have nDL : L ≠ D := fun z => by rw [z, hD] at eL; cases eL
    refine ⟨_, rfl, o, rfl, ⟨_, SqL.of (s06 _ _ eo)⟩, for_list (xs := ts.map V.ref) (fun i σ H' => ∃ u4 u5 zs, σ = [some (.ref o), some (.ref d), some (.ref L), some (.ref D), u4, u5] ∧ Same H H' ∧ H' d = some (.dT kvs) ∧ H' L = some (.lst (ms.map V.str)) ∧ H' D = some (.lst (zs.map V.ref)) ∧ Tups H' zs ((ord.take i).filter (bareB ord)))
      ⟨none, none, [], rfl, s06, ed6, eL6, eD6, Tups.nil⟩ (fun i σ H' _ ⟨_, _, _, _, e, _⟩ => SqL.of (e _ _ eo)) ?_ ?_⟩
    · rintro i x σ H7 hx ⟨u4, u5, zs, rfl, s7, ed7, eL7, eD7, T⟩
      rw [List.getElem?_map] at hx
      obtain ⟨tt, htt, rfl⟩ := Option.map_eq_some_iff.mp hx
      have hio : i < ord.length := by rw [← TO.len]; exact (List.getElem?_eq_some_iff.mp htt).1
      have hp := List.getElem?_eq_getElem hio
      have ett := s7 _ _ (TO.at_ i _ _ htt hp)
      have hb := bare_take hp
      have bl := bare_len (ord := ord) i
      generalize ord[i] = pr at hp ett hb
      have lms : ms.length ≤ 64 := by
        have := Ord.nodup_sub_length (hms.imp fun {a b} h e => by rw [e] at h; exact ltS_irrefl _ h) (fun y hy => (hmem y).mp hy)
        rw [List.length_map] at this
        omega
      refine ⟨tt, _, rfl, SqT.of ett, rfl, _, _, rfl, _, _, rfl, rfl, ?_⟩
      refine ⟨_, rfl, L, rfl, ⟨_, SqL.of eL7⟩, comp_list (xs := ms.map V.str) (fun v => match v with | .str y => V.bl (dec ((pr.1, y) ∈ ord ∧ (y, pr.2) ∈ ord)) | _ => .non) (by rw [List.length_map]; exact Nat.le_of_lt (small1000 (by omega))) (SqL.of eL7) (fun j y H8 D8 R8 hy s8 hD8 k8 => ?_) (fun H8 D8 s8 hD8 e8 => ?_)⟩
      · rw [List.getElem?_map] at hy
        obtain ⟨l, hl2, rfl⟩ := Option.map_eq_some_iff.mp hy
        refine ⟨_, rfl, _, rfl, two_le, fun t1 ht1 => ?_⟩
        have s9 := same_new (o := .tup [.str pr.1, .str l]) ht1
        have et1 : (upd H8 t1 (.tup [.str pr.1, .str l])) t1 = some (.tup ((keyP (pr.1, l)).map kV)) := upd_same
        generalize upd H8 t1 (.tup [.str pr.1, .str l]) = H9 at s9 et1 ⊢
        refine ⟨_, rfl, d, _, rfl, DGet.t (k := keyP (pr.1, l)) (s9 _ _ (s8 _ _ ed7)) et1, _, rfl, ?_⟩
        rw [hbd, Bool.bne_false]
        by_cases h1 : (pr.1, l) ∈ ord
        · rw [dec_true h1]
          refine iteT ⟨_, rfl, _, rfl, two_le, fun t2 ht2 => ?_⟩
          have s10 := same_new (o := .tup [.str l, .str pr.2]) ht2
          have et2 : (upd H9 t2 (.tup [.str l, .str pr.2])) t2 = some (.tup ((keyP (l, pr.2)).map kV)) := upd_same
          generalize upd H9 t2 (.tup [.str l, .str pr.2]) = H10 at s10 et2 ⊢
          refine ⟨_, rfl, d, _, rfl, DGet.t (k := keyP (l, pr.2)) (s10 _ _ (s9 _ _ (s8 _ _ ed7))) et2, ?_⟩
          rw [hbd, Bool.bne_false]
          have := k8 _ (s9.trans s10)
          dsimp only at this
          rw [show dec ((pr.1, l) ∈ ord ∧ (l, pr.2) ∈ ord) = dec ((l, pr.2) ∈ ord) from dec_congr ⟨fun h => h.2, fun h => ⟨h1, h⟩⟩] at this
          exact this
        · rw [dec_false h1]
          have := k8 _ s9
          dsimp only at this
          rw [show dec ((pr.1, l) ∈ ord ∧ (l, pr.2) ∈ ord) = false from dec_false fun z => h1 z.1] at this
          exact iteF this
      · refine ⟨_, ms.map fun y => dec ((pr.1, y) ∈ ord ∧ (y, pr.2) ∈ ord), rfl, SqL.of (by rw [e8, List.map_map, List.map_map]; rfl), _, rfl, ?_⟩
        have hbr : (ms.map fun y => dec ((pr.1, y) ∈ ord ∧ (y, pr.2) ∈ ord)).any id = !bareB ord pr := by
          unfold bareB
          rw [Bool.not_not, Bool.eq_iff_iff, dec_iff, List.any_eq_true]
          constructor
          · rintro ⟨b, hb1, hb2⟩
            obtain ⟨y, _, rfl⟩ := List.mem_map.mp hb1
            exact ⟨y, dec_iff.mp hb2⟩
          · rintro ⟨y, h1, h2⟩
            exact ⟨_, List.mem_map.mpr ⟨y, (hmem y).mpr (List.mem_map.mpr ⟨_, h2, rfl⟩), rfl⟩, dec_true ⟨h1, h2⟩⟩
        rw [hbr]
        have s78 := s7.trans s8
        cases hbb : bareB ord pr with
        | true =>
          rw [if_pos hbb] at hb
          refine iteT ⟨_, rfl, Or.inl ⟨rfl, _, SqL.of (s8 _ _ eD7)⟩, _, rfl, _, rfl, two_le, fun t3 ht3 => ?_⟩
          have s9 := same_new (o := .tup [.str pr.1, .str pr.2]) ht3
          have T9 := ((T.same s8).same s9).snoc (p := pr) (t := t3) upd_same
          have eD9 := s9 _ _ (s8 _ _ eD7)
          refine ⟨D, _, _, rfl, rfl, eD9, by rw [List.length_map, T.len]; exact small1000 (by omega), ?_⟩
          refine ⟨_, _, zs ++ [t3], rfl, fun b u e => ?_, by rw [upd_ne nDd]; exact s9 _ _ (s8 _ _ ed7), by rw [upd_ne nDL]; exact s9 _ _ (s8 _ _ eL7), by rw [upd_same, List.map_append]; rfl, by rw [hb]; exact T9.upd (T9.ne eD9)⟩
          rw [upd_ne (ne_of_none e hDH)]; exact s9 _ _ (s78 b u e)
        | false =>
          rw [if_neg (by rw [hbb]; exact Bool.false_ne_true), List.append_nil] at hb
          exact iteF ⟨_, _, zs, rfl, s78, s8 _ _ ed7, s8 _ _ eL7, s8 _ _ eD7, by rw [hb]; exact T.same s8⟩
    · rintro σ H7 ⟨u4, u5, zs, rfl, s7, ed7, eL7, eD7, T⟩
      rw [List.length_map, TO.len, List.take_length] at T
      have lb : (bareOf ord).length ≤ ord.length := List.length_filter_le _ _
      obtain ⟨rs, z1, z2, z3⟩ := zip_prsW (K := K) T.len T.at_
      have lrs : rs.length = (bareOf ord).length := by rw [← List.length_map (f := fun z : Row strC strC => z.2), z2]; rfl
      refine ⟨_, rfl, D, rs, rfl, SqL.of (by rw [z1]; exact eD7), by omega, z3, fun D2 rs' hp hw hD2 => ?_⟩
      have s8 := same_new (o := .lst (rs'.map (·.1))) hD2
      have pz : (rs'.map (·.2)).Perm (bareOf ord) := by
        have := hp.map (·.2)
        rw [z2] at this
        exact this
      have ez : rs'.map (·.2) = bareOf ord := srt_uniq (O := lexO strO strO) pz hw (hsr.sublist List.filter_sublist)
      refine q D2 _ (s7.free hD2) (s7.trans s8) ⟨_, SqL.of upd_same, ?_⟩
      rw [← ez]
      exact (rows_prsW rs' fun z hz => z3 z (hp.mem_iff.mp hz)).same s8
theorem call_next_pairs {f : Addr} {fd : FuncData} (B : Blt mg) (ER : Ers K mg)  (F : Fun K "next_pairs" "next_pairs" s_next_pairs f fd) (hm : mg "next_pairs" = some (.ref f)) : Callee P w K mg base "next_pairs" 1 ["order"] (sp_next_pairs K) :=
  ⟨f, fd, ok_next_pairs B ER  F, hm, F.kp, F.binds fun _ _ _ _ _ _ us hl => (by obtain ⟨x0, rfl⟩ := len_1 hl; rfl)⟩

def sp_show_table (K : PySem.W.Frag) : Sp := fun vs H Q _ => ∃ (t : Addr) (rs : List Stt) (n : Int) (ord : List (Str × Str)) (F : Addr → Prop), vs = [.ref t] ∧ Tab K F H t rs n ord ∧ TOkW rs n (bareOf ord) ∧ ord.length ≤ 60 ∧ ord.Pairwise (lexO strO strO).kle ∧ ∀ H', Same H H' → Q (.str (Txt.join (" " : Str) (tW rs n (bareOf ord)))) H'
set_option maxHeartbeats 4000000 in
seal L2.PE L2.PA L2.PS L2.PSs L2.PT L2.PW L2.PC L2.PG L2.PGs L2.PI L2.PF L2.PSet L2.OpR L2.UnR L2.CallR L2.MtR L2.IxR L2.SlR L2.PO in
theorem ok_show_table {f : Addr} {fd : FuncData} (B : Blt mg) (ER : Ers K mg) (c_with_between : Callee P w K mg base "with_between" 1 ["groups", "sign"] (sp_with_between K)) (c_words_of_state : Callee P w K mg base "words_of_state" 2 ["goes", "ends"] (sp_words_of_state K)) (c_next_pairs : Callee P w K mg base "next_pairs" 1 ["order"] (sp_next_pairs K)) (F : Fun K "show_table" "show_table" s_show_table f fd) : FnOk P w K mg base CX0 3 f fd ["table"] (sp_show_table K) := by
  refine F.ok sc_show_table (fun vs H Q E h => ?_) (fun cdv A outer s H vs Q E hr h => ?_)
  · obtain ⟨t, rs, n, ord, F, rfl, _⟩ := h
    rfl
  · obtain ⟨t, rs, n, ord, Fr, rfl, ⟨a, o, us, ts, et, _, _, nao, ea, SR, eo, TO⟩, TW, hol, hsr, q⟩ := h
    have hn8 := TW.fit.n
    have lus := SR.len
    refine ⟨_, (pss_cons (ps_asg (pv 0) (pg_tup (n := 3) rfl (pgs_cons (pg_name (i := 1) sc_show_table.nd) (pgs_cons (pg_name (i := 2) sc_show_table.nd) (pgs_cons (pg_name (i := 3) sc_show_table.nd) pgs_nil)))))
      (pss_cons (ps_set (i := 4) sc_show_table.nd (pe_fn c_with_between (pa_cons (pe_comp (g := gTup K 2 (gCons (gName 0) (gCons (gName 1) gNil))) (te := tCall (sp_words_of_state K) [] E0 (tCons (tVar 0) (tCons (tVar 1) tNil))) rfl show_table_cs1 (pi_list (pv 1)) (fun _ _ _ _ _ => (pg_tup (n := 2) rfl (pgs_cons (pg_name (i := 0) show_table_cs1.nd) (pgs_cons (pg_name (i := 1) show_table_cs1.nd) pgs_nil)))) (fun _ _ _ _ _ => pf_nil) (fun _ _ _ _ _ => (pe_fn c_words_of_state (pa_cons (pv 0) (pa_cons (pv 1) pa_nil))))) (pa_cons pe_str pa_nil))))
      (pss_cons (ps_set (i := 5) sc_show_table.nd (pe_fn c_with_between (pa_cons (pe_comp (g := gTup K 2 (gCons (gName 0) (gCons (gName 1) gNil))) rfl show_table_cs2 (pi_list (pe_fn c_next_pairs (pa_cons (pv 3) pa_nil))) (fun _ _ _ _ _ => (pg_tup (n := 2) rfl (pgs_cons (pg_name (i := 0) show_table_cs2.nd) (pgs_cons (pg_name (i := 1) show_table_cs2.nd) pgs_nil)))) (fun _ _ _ _ _ => pf_nil) (fun _ _ _ _ _ => (pe_lst (pa_cons (pv 0) (pa_cons (pv 1) pa_nil))))) (pa_cons pe_str pa_nil))))
      (pss_one (ps_ret (pe_bm PySem.F.plainAttrs_str PySem.F.slot_str_join PySem.F.type_str_join mt_join pe_str (pa_cons (pe_op op_cat (pe_op op_cat (pv 4) (pe_lst (pa_cons pe_str (pa_cons (pe_callTy call_strI B.b_str (pa_cons (pv 2) pa_nil)) (pa_cons pe_str pa_nil))))) (pv 5)) pa_nil))))))), ?_⟩
    refine ⟨_, rfl, t, _, rfl, SqT.of et, rfl, _, _, rfl, _, _, rfl, _, _, rfl, rfl, ?_⟩
    try dsimp only
    refine ⟨_, rfl, a, rfl, ⟨_, SqL.of ea⟩, comp_listI (xs := us.map V.ref) (fun D i ys H' => ∃ ds : List Addr, Same H H' ∧ H' D = some (.lst ys) ∧ ys = ds.map V.ref ∧ (∀ u ∈ ds, u ≠ D) ∧ Wds H' ds ((rs.map wSt).take i))
      (fun D hD => ⟨[], same_new hD, upd_same, rfl, fun u hu => by simp at hu, by rw [List.take_zero]; exact Wds.nil⟩) (fun D i ys H' ⟨_, s1, _⟩ => SqL.of (s1 _ _ ea)) (fun D i x ys H2 R hD0 hx hv k => ?_) (fun D ys H2 hD0 hv => ?_)⟩
    · obtain ⟨ds, s2, eD, rfl, hnd, W⟩ := hv
      rw [List.getElem?_map] at hx
      obtain ⟨u, hu, rfl⟩ := Option.map_eq_some_iff.mp hx
      have hir : i < rs.length := by rw [← lus]; exact (List.getElem?_eq_some_iff.mp hu).1
      have hr1 := List.getElem?_eq_getElem hir
      have hmr := List.mem_of_getElem? hr1
      obtain ⟨G, E1, xs, b1, b2, b3, b4, _⟩ := (SR.same s2).at_ i u _ hu hr1
      have hw : (rs.map wSt)[i]? = some (wSt rs[i]) := by rw [List.getElem?_map, hr1]; rfl
      have lds : ds.length ≤ 8 := by rw [W.len, List.length_take, List.length_map]; omega
      refine ⟨u, _, rfl, SqT.of b1, rfl, _, _, rfl, _, _, rfl, rfl, ?_⟩
      refine ⟨_, rfl, _, rfl, G, E1, rs[i], rfl, b2, b4, TW.fit.gs _ hmr, TW.fit.es _ hmr, fun p hp => (TW.go _ hmr p hp).2, fun Z H3 hZ s3 eZ => ?_⟩
      have nZ : Z ≠ D := fun z => by rw [z, eD] at hZ; cases hZ
      refine k _ _ (s3 _ _ eD) (by rw [List.length_map]; exact small1000 (by omega)) ⟨ds ++ [Z], fun b o e => ?_, upd_same, by rw [List.map_append]; rfl, fun y hy => ?_, ?_⟩
      · rw [upd_ne (ne_of_none e hD0)]; exact s3 _ _ (s2 b o e)
      · rcases List.mem_append.mp hy with hy | hy
        · exact hnd y hy
        · rw [List.mem_singleton.mp hy]; exact nZ
      · rw [List.take_succ, hw]
        exact Wds.snoc ((W.same s3).upd hnd) (by rw [upd_ne nZ]; exact eZ)
    obtain ⟨ds, s2, eD, rfl, hnd, W⟩ := hv
    rw [List.length_map, lus, List.take_of_length_le (by rw [List.length_map]; exact Nat.le_refl _)] at W
    refine ⟨D, ds, _, "/", rfl, eD, W, by rw [List.length_map]; omega, fun y hy => ?_, fun A1 H3 hA1 s3 eA1 => ?_⟩
    · obtain ⟨s, hs, rfl⟩ := List.mem_map.mp hy
      have := st_len (TW.fit.gs s hs) (TW.fit.es s hs)
      omega
    have s03 := s2.trans s3
    have l1 := sts_len TW.fit
    have lb : (bareOf ord).length ≤ ord.length := List.length_filter_le _ _
    have l2 := pr_len (gs := bareOf ord)
    refine g_in ?_
    try dsimp only
    refine ⟨_, rfl, o, ts, ord, rfl, s03 _ _ eo, TO.same s03, by omega, hsr, fun O H4 hO s4 hP => ?_⟩
    obtain ⟨pv, hPL, hPD⟩ := hP
    have lpv := hPD.len_map
    refine ⟨O, rfl, ⟨_, hPL⟩, comp_listI (xs := pv) (fun D i ys H' => ∃ ds : List Addr, Same H4 H' ∧ H' D = some (.lst ys) ∧ ys = ds.map V.ref ∧ (∀ u ∈ ds, u ≠ D) ∧ Wds H' ds (((bareOf ord).map wPr).take i))
      (fun D hD => ⟨[], same_new hD, upd_same, rfl, fun u hu => by simp at hu, by rw [List.take_zero]; exact Wds.nil⟩) (fun D i ys H' ⟨_, s1, _⟩ => s1.seq hPL) (fun D i x ys H5 R hD0 hx hv k => ?_) (fun D ys H5 hD0 hv => ?_)⟩
    · obtain ⟨ds, s5, eD, rfl, hnd, W⟩ := hv
      obtain ⟨p, u, hp, rfl, hu⟩ := hPD.pairs_get hx
      have hil : i < (bareOf ord).length := (List.getElem?_eq_some_iff.mp hp).1
      have hw : ((bareOf ord).map wPr)[i]? = some (wPr p) := by rw [List.getElem?_map, hp]; rfl
      have lds : ds.length ≤ 60 := by rw [W.len, List.length_take, List.length_map]; omega
      refine ⟨u, _, rfl, s5.seqT hu, rfl, _, _, rfl, _, _, rfl, rfl, ?_⟩
      refine ⟨_, rfl, _, rfl, two_le, fun Z hZ => ?_⟩
      have s6 := same_new (o := .lst [.str p.1, .str p.2]) hZ
      have eZ : (upd H5 Z (.lst [.str p.1, .str p.2])) Z = some (.lst ((wPr p).map V.str)) := upd_same
      generalize upd H5 Z (.lst [.str p.1, .str p.2]) = H6 at s6 eZ ⊢
      have nZ : Z ≠ D := fun z => by rw [z, eD] at hZ; cases hZ
      refine k _ _ (s6 _ _ eD) (by rw [List.length_map]; exact small1000 (by omega)) ⟨ds ++ [Z], fun b o e => ?_, upd_same, by rw [List.map_append]; rfl, fun y hy => ?_, ?_⟩
      · rw [upd_ne (ne_of_none e hD0)]; exact s6 _ _ (s5 b o e)
      · rcases List.mem_append.mp hy with hy | hy
        · exact hnd y hy
        · rw [List.mem_singleton.mp hy]; exact nZ
      · rw [List.take_succ, hw]
        exact Wds.snoc ((W.same s6).upd hnd) (by rw [upd_ne nZ]; exact eZ)
    obtain ⟨ds, s5, eD, rfl, hnd, W⟩ := hv
    rw [lpv, List.take_of_length_le (by rw [List.length_map]; exact Nat.le_refl _)] at W
    refine ⟨D, ds, _, ",", rfl, eD, W, by rw [List.length_map]; omega, fun y hy => ?_, fun B1 H6 hB1 s6 eB1 => ?_⟩
    · obtain ⟨s, hs, rfl⟩ := List.mem_map.mp hy
      exact (show 2 ≤ 40 by decide)
    have s36 := (s4.trans s5).trans s6
    refine g_in ?_
    try dsimp only
    refine ⟨rfl, _, rfl, _, rfl, n, rfl, num_small TW.n0 TW.n9, (show 3 ≤ sizeLine by decide), fun M1 hM1 => ?_⟩
    have s7 := same_new (o := .lst [.str "|", .str (toString n), .str "|"]) hM1
    have eM1 : (upd H6 M1 (.lst [.str "|", .str (toString n), .str "|"])) M1 = some (.lst (([("|" : Str), nS n, "|"] : List Str).map V.str)) := upd_same
    generalize upd H6 M1 (.lst [.str "|", .str (toString n), .str "|"]) = H7 at s7 eM1 ⊢
    refine ⟨A1, M1, _, _, rfl, rfl, s7 _ _ (s36 _ _ eA1), eM1, ?_, fun M2 hM2 => ?_⟩
    · rw [List.length_map, List.length_map]; exact Nat.le_of_lt (small1000 (show _ + 3 ≤ 1000 by omega))
    have s8 := same_new (o := .lst ((btw "/" (rs.map wSt)).map V.str ++ ([("|" : Str), nS n, "|"] : List Str).map V.str)) hM2
    have eM2 : (upd H7 M2 (.lst ((btw "/" (rs.map wSt)).map V.str ++ ([("|" : Str), nS n, "|"] : List Str).map V.str))) M2 = some (.lst ((btw "/" (rs.map wSt)).map V.str ++ ([("|" : Str), nS n, "|"] : List Str).map V.str)) := upd_same
    generalize upd H7 M2 (.lst ((btw "/" (rs.map wSt)).map V.str ++ ([("|" : Str), nS n, "|"] : List Str).map V.str)) = H8 at s8 eM2 ⊢
    refine ⟨_, rfl, M2, B1, _, _, rfl, rfl, eM2, s8 _ _ (s7 _ _ eB1), ?_, fun M3 hM3 => ?_⟩
    · rw [List.length_append, List.length_map, List.length_map, List.length_map]; exact Nat.le_of_lt (small1000 (show _ + 3 + _ ≤ 1000 by omega))
    refine ⟨_, M3, tW rs n (bareOf ord), rfl, rfl, SqL.of ?_, join_ok (fun x hx => (tW_words TW x hx).2) (Nat.le_trans (tW_len TW.fit (by omega)) (by decide)), ?_⟩
    · rw [upd_same]
      unfold tW
      rw [List.map_append, List.map_append]
    · exact q _ ((((s03.trans s36).trans s7).trans s8).trans (same_new hM3))
theorem call_show_table {f : Addr} {fd : FuncData} (B : Blt mg) (ER : Ers K mg) (c_with_between : Callee P w K mg base "with_between" 1 ["groups", "sign"] (sp_with_between K)) (c_words_of_state : Callee P w K mg base "words_of_state" 2 ["goes", "ends"] (sp_words_of_state K)) (c_next_pairs : Callee P w K mg base "next_pairs" 1 ["order"] (sp_next_pairs K)) (F : Fun K "show_table" "show_table" s_show_table f fd) (hm : mg "show_table" = some (.ref f)) : Callee P w K mg base "show_table" 3 ["table"] (sp_show_table K) :=
  ⟨f, fd, ok_show_table B ER c_with_between c_words_of_state c_next_pairs F, hm, F.kp, F.binds fun _ _ _ _ _ _ us hl => (by obtain ⟨x0, rfl⟩ := len_1 hl; rfl)⟩

def sp_refuse_too_great (K : PySem.W.Frag) : Sp := fun vs H Q _ => ∃ (a p : Addr) (ss : List Stt) (ps : List V), vs = [.ref a, .ref p] ∧ Stts K H a ss ∧ Fits ss ∧ SqL K H p ps ∧ ps.length ≤ 40 ∧ Q .non H
set_option maxHeartbeats 4000000 in
seal L2.PE L2.PA L2.PS L2.PSs L2.PT L2.PW L2.PC L2.PG L2.PGs L2.PI L2.PF L2.PSet L2.OpR L2.UnR L2.CallR L2.MtR L2.IxR L2.SlR L2.PO in
theorem ok_refuse_too_great {f : Addr} {fd : FuncData} (B : Blt mg) (ER : Ers K mg)  (F : Fun K "refuse_too_great" "refuse_too_great" s_refuse_too_great f fd) : FnOk P w K mg base CX0 1 f fd ["states", "pairs"] (sp_refuse_too_great K) := by
  refine F.ok sc_refuse_too_great (fun vs H Q E h => ?_) (fun cdv A outer s H vs Q E hr h => ?_)
  · obtain ⟨a, p, ss, ps, rfl, _⟩ := h
    rfl
  · obtain ⟨a, p, ss, ps, rfl, ⟨vs, hS, hD⟩, hF, hP, hpl, q⟩ := h
    have lvs := hD.len_map
    have hn8 := hF.n
    refine ⟨_, (pss_cons (ps_if (pt_cmpR op_gt (pe_callB call_len B.b_len (pa_cons (pv 0) pa_nil)) (pe_glob (v := .int 8) rfl (Classical.choose_spec B.c_MOST_STATES) ⟨_, rfl⟩) (nomark _)) (pss_one ps_never) pss_nil)
      (pss_cons (ps_for PassesOwn.never rfl (pi_list (pv 0)) (pg_tup (n := 2) rfl (pgs_cons (pg_name (i := 2) sc_refuse_too_great.nd) (pgs_cons (pg_name (i := 3) sc_refuse_too_great.nd) pgs_nil))) (pss_cons (ps_if (pt_cmpR op_gt (pe_callB call_len B.b_len (pa_cons (pv 2) pa_nil)) (pe_glob (v := .int 8) rfl (Classical.choose_spec B.c_MOST_GOES) ⟨_, rfl⟩) (nomark _)) (pss_one ps_never) pss_nil)
        (pss_one (ps_if (pt_cmpR op_gt (pe_callB call_len B.b_len (pa_cons (pv 3) pa_nil)) (pe_glob (v := .int 8) rfl (Classical.choose_spec B.c_MOST_ENDS) ⟨_, rfl⟩) (nomark _)) (pss_one ps_never) pss_nil))))
      (pss_one (ps_if (pt_cmpR op_gt (pe_callB call_len B.b_len (pa_cons (pv 1) pa_nil)) (pe_glob (v := .int 40) rfl (Classical.choose_spec B.c_MOST_PAIRS) ⟨_, rfl⟩) (nomark _)) (pss_one ps_never) pss_nil)))), ?_⟩
    refine ⟨_, rfl, _, _, rfl, Or.inl ⟨_, hS, rfl⟩, _, _, rfl, rfl, _, rfl, ?_⟩
    rw [decide_eq_false (show ¬ ((vs.length : Nat) : Int) > 8 by omega)]
    refine iteF ?_
    refine ⟨_, rfl, a, rfl, ⟨_, hS⟩, for_list (xs := vs) (fun i σ H' => ∃ u2 u3, σ = [some (.ref a), some (.ref p), u2, u3] ∧ H' = H) ⟨none, none, rfl, rfl⟩ (fun i σ H' _ ⟨_, _, _, e⟩ => by rw [e]; exact hS) ?_ ?_⟩
    · rintro i x σ H2 hx ⟨u2, u3, rfl, rfl⟩
      obtain ⟨s, t, g, e, hs, rfl, ht, ⟨gv, hg, hgd⟩, he⟩ := hD.sts_get hx
      have lgv := hgd.len_map
      have b1 := hF.gs s (List.mem_of_getElem? hs)
      have b2 := hF.es s (List.mem_of_getElem? hs)
      refine ⟨t, _, rfl, ht, rfl, _, _, rfl, _, _, rfl, rfl, ?_⟩
      refine ⟨_, rfl, _, _, rfl, Or.inl ⟨_, hg, rfl⟩, _, _, rfl, rfl, _, rfl, ?_⟩
      rw [decide_eq_false (show ¬ ((gv.length : Nat) : Int) > 8 by omega)]
      refine iteF ⟨_, rfl, _, _, rfl, Or.inl ⟨_, he, rfl⟩, _, _, rfl, rfl, _, rfl, ?_⟩
      rw [List.length_map, decide_eq_false (show ¬ ((s.2.length : Nat) : Int) > 8 by omega)]
      exact iteF ⟨_, _, rfl, rfl⟩
    · rintro σ H2 ⟨u2, u3, rfl, rfl⟩
      refine ⟨_, rfl, _, _, rfl, Or.inl ⟨_, hP, rfl⟩, _, _, rfl, rfl, _, rfl, ?_⟩
      rw [decide_eq_false (show ¬ ((ps.length : Nat) : Int) > 40 by omega)]
      exact iteF q
theorem call_refuse_too_great {f : Addr} {fd : FuncData} (B : Blt mg) (ER : Ers K mg)  (F : Fun K "refuse_too_great" "refuse_too_great" s_refuse_too_great f fd) (hm : mg "refuse_too_great" = some (.ref f)) : Callee P w K mg base "refuse_too_great" 1 ["states", "pairs"] (sp_refuse_too_great K) :=
  ⟨f, fd, ok_refuse_too_great B ER  F, hm, F.kp, F.binds fun _ _ _ _ _ _ us hl => (by obtain ⟨x0, x1, rfl⟩ := len_2 hl; rfl)⟩

def sp_labels_of (K : PySem.W.Frag) : Sp := fun vs H Q _ => ∃ (g : Addr) (gs : List (Str × Int)), vs = [.ref g] ∧ Goes K H g gs ∧ gs.length ≤ 100 ∧ ∀ (p : Addr) (H' : Hp), H p = none → Same H H' → H' p = some (.lst ((gs.map (·.1)).map V.str)) → Q (.ref p) H'
set_option maxHeartbeats 4000000 in
seal L2.PE L2.PA L2.PS L2.PSs L2.PT L2.PW L2.PC L2.PG L2.PGs L2.PI L2.PF L2.PSet L2.OpR L2.UnR L2.CallR L2.MtR L2.IxR L2.SlR L2.PO in
theorem ok_labels_of {f : Addr} {fd : FuncData} (B : Blt mg) (ER : Ers K mg)  (F : Fun K "labels_of" "labels_of" s_labels_of f fd) : FnOk P w K mg base CX0 1 f fd ["goes"] (sp_labels_of K) := by
  refine F.ok sc_labels_of (fun vs H Q E h => ?_) (fun cdv A outer s H vs Q E hr h => ?_)
  · obtain ⟨g, gs, rfl, _⟩ := h
    rfl
  · obtain ⟨g, gs, rfl, ⟨vs, hS, hD⟩, hlen, q⟩ := h
    have lvs := hD.len_map
    refine ⟨_, (pss_one (ps_ret (pe_comp (g := gTup K 2 (gCons (gName 0) (gCons (gName 1) gNil))) rfl labels_of_cs1 (pi_list (pv 0)) (fun _ _ _ _ _ => (pg_tup (n := 2) rfl (pgs_cons (pg_name (i := 0) labels_of_cs1.nd) (pgs_cons (pg_name (i := 1) labels_of_cs1.nd) pgs_nil)))) (fun _ _ _ _ _ => pf_nil) (fun _ _ _ _ _ => (pv 0))))), ?_⟩
    refine ⟨_, rfl, g, rfl, ⟨_, hS⟩, comp_listI (xs := vs) (fun D i ys H' => Same H H' ∧ H' D = some (.lst ys) ∧ ys = ((gs.take i).map (·.1)).map V.str)
      (fun D hD => ⟨same_new hD, upd_same, rfl⟩) (fun D i ys H' ⟨s1, _⟩ => s1.seq hS) (fun D i x ys H2 R hD0 hx hv k => ?_) (fun R ys H2 hR hv => ?_)⟩
    · obtain ⟨s2, eD, rfl⟩ := hv
      obtain ⟨p, t, hp, rfl, ht⟩ := hD.goes_get hx
      have hil : i < gs.length := (List.getElem?_eq_some_iff.mp hp).1
      refine ⟨t, _, rfl, s2.seqT ht, rfl, _, _, rfl, _, _, rfl, rfl, ?_⟩
      refine ⟨_, rfl, k _ _ eD (by rw [List.length_map, List.length_map, List.length_take]; exact small1000 (by omega)) ⟨fun b o e => ?_, upd_same, ?_⟩⟩
      · rw [upd_ne (ne_of_none e hD0)]; exact s2 b o e
      · rw [List.take_succ, hp, List.map_append, List.map_append]; rfl
    · obtain ⟨s2, eD, rfl⟩ := hv
      rw [lvs, List.take_length] at eD
      exact q R H2 hR s2 eD
theorem call_labels_of {f : Addr} {fd : FuncData} (B : Blt mg) (ER : Ers K mg)  (F : Fun K "labels_of" "labels_of" s_labels_of f fd) (hm : mg "labels_of" = some (.ref f)) : Callee P w K mg base "labels_of" 1 ["goes"] (sp_labels_of K) :=
  ⟨f, fd, ok_labels_of B ER  F, hm, F.kp, F.binds fun _ _ _ _ _ _ us hl => (by obtain ⟨x0, rfl⟩ := len_1 hl; rfl)⟩

def sp_labels_told (K : PySem.W.Frag) : Sp := fun vs H Q _ => ∃ (a p : Addr) (ss : List Stt) (ps : List (Str × Str)), vs = [.ref a, .ref p] ∧ StE K H a ss ∧ Fits ss ∧ Prs K H p ps ∧ ps.length ≤ 60 ∧ ∀ (l : Addr) (H' : Hp), H l = none → Same H H' → H' l = some (.lst ((labelsOf ss ++ labelsP ps).map V.str)) → Q (.ref l) H'
set_option maxHeartbeats 4000000 in
seal L2.PE L2.PA L2.PS L2.PSs L2.PT L2.PW L2.PC L2.PG L2.PGs L2.PI L2.PF L2.PSet L2.OpR L2.UnR L2.CallR L2.MtR L2.IxR L2.SlR L2.PO in
theorem ok_labels_told {f : Addr} {fd : FuncData} (B : Blt mg) (ER : Ers K mg) (c_labels_of : Callee P w K mg base "labels_of" 1 ["goes"] (sp_labels_of K)) (F : Fun K "labels_told" "labels_told" s_labels_told f fd) : FnOk P w K mg base CX0 2 f fd ["states", "pairs"] (sp_labels_told K) := by
  refine F.ok sc_labels_told (fun vs H Q E h => ?_) (fun cdv A outer s H vs Q E hr h => ?_)
  · obtain ⟨a, p, ss, ps, rfl, _⟩ := h
    rfl
  · obtain ⟨a, p, ss, ps, rfl, ⟨vs, hS, lvs, hE⟩, hF, ⟨pws, hP, hPD⟩, hpl, q⟩ := h
    have lpws := hPD.len_map
    have hn8 := hF.n
    have tkl : ∀ i, (labelsOf (ss.take i)).length ≤ 128 := fun i => by
      have := labelsOf_len (ss.take i) (fun s hs => hF.gs s (List.mem_of_mem_take hs)) (fun s hs => hF.es s (List.mem_of_mem_take hs))
      rw [List.length_take] at this
      omega
    refine ⟨_, (pss_cons (ps_set (i := 2) sc_labels_told.nd (pe_lst pa_nil))
      (pss_cons (ps_for PassesOwn.never rfl (pi_list (pv 0)) (pg_tup (n := 2) rfl (pgs_cons (pg_name (i := 3) sc_labels_told.nd) (pgs_cons (pg_name (i := 4) sc_labels_told.nd) pgs_nil))) (pss_cons (ps_expr (pe_bm PySem.F.plainAttrs_list PySem.F.slot_list_extend PySem.F.type_list_extend mr_extend (pv 2) (pa_cons (pe_fn c_labels_of (pa_cons (pv 3) pa_nil)) pa_nil)))
        (pss_one (ps_expr (pe_bm PySem.F.plainAttrs_list PySem.F.slot_list_extend PySem.F.type_list_extend mr_extend (pv 2) (pa_cons (pv 4) pa_nil))))))
      (pss_cons (ps_for PassesOwn.never rfl (pi_list (pv 1)) (pg_tup (n := 2) rfl (pgs_cons (pg_name (i := 5) sc_labels_told.nd) (pgs_cons (pg_name (i := 6) sc_labels_told.nd) pgs_nil))) (pss_cons (ps_expr (pe_bm PySem.F.plainAttrs_list PySem.F.slot_list_append PySem.F.type_list_append mr_append (pv 2) (pa_cons (pv 5) pa_nil)))
        (pss_one (ps_expr (pe_bm PySem.F.plainAttrs_list PySem.F.slot_list_append PySem.F.type_list_append mr_append (pv 2) (pa_cons (pv 6) pa_nil))))))
      (pss_one (ps_ret (pv 2)))))), ?_⟩
    refine ⟨by decide, fun D hD => ?_⟩
    refine ⟨_, rfl, a, rfl, ⟨_, (same_new hD).seq hS⟩, for_list (xs := vs) (fun i σ H' => ∃ u3 u4, σ = [some (.ref a), some (.ref p), some (.ref D), u3, u4, none, none] ∧ Same H H' ∧ H' D = some (.lst ((labelsOf (ss.take i)).map V.str))) ⟨none, none, rfl, same_new hD, upd_same⟩ (fun i σ H' _ ⟨_, _, _, e, _⟩ => e.seq hS) ?_ ?_⟩
    · rintro i x σ H2 hx ⟨u3, u4, rfl, s2, eD⟩
      have hil : i < ss.length := by rw [← lvs]; exact (List.getElem?_eq_some_iff.mp hx).1
      have hs := List.getElem?_eq_getElem hil
      obtain ⟨t, g, e, rfl, ht, hg, he⟩ := hE i x _ hx hs
      have b1 := hF.gs _ (List.mem_of_getElem? hs)
      have b2 := hF.es _ (List.mem_of_getElem? hs)
      have etk : ss.take (i + 1) = ss.take i ++ [ss[i]] := by rw [List.take_succ, hs]; rfl
      have tki := tkl i
      refine ⟨t, _, rfl, s2.seqT ht, rfl, _, _, rfl, _, _, rfl, rfl, ?_⟩
      refine ⟨_, rfl, Or.inl ⟨rfl, _, SqL.of eD⟩, _, rfl, g, _, rfl, hg.same s2, by omega, fun l1 H3 hl1 s3 e1 => ?_⟩
      have eD3 := s3 _ _ eD
      refine ⟨D, l1, _, _, rfl, rfl, eD3, e1, ?_, ?_⟩
      · rw [List.length_map, List.length_map, List.length_map]; exact Nat.le_of_lt (small1000 (by omega))
      have eD4 : (upd H3 D (.lst ((labelsOf (ss.take i)).map V.str ++ (ss[i].1.map (·.1)).map V.str))) D = some (.lst ((labelsOf (ss.take i)).map V.str ++ (ss[i].1.map (·.1)).map V.str)) := upd_same
      have s4 : Same H (upd H3 D (.lst ((labelsOf (ss.take i)).map V.str ++ (ss[i].1.map (·.1)).map V.str))) := fun b o e => by
        rw [upd_ne (ne_of_none e hD)]; exact s3 _ _ (s2 b o e)
      generalize upd H3 D (.lst ((labelsOf (ss.take i)).map V.str ++ (ss[i].1.map (·.1)).map V.str)) = H4 at eD4 s4 ⊢
      refine ⟨_, rfl, Or.inl ⟨rfl, _, SqL.of eD4⟩, _, rfl, D, e, _, _, rfl, rfl, eD4, s4 _ _ he, ?_, ?_⟩
      · rw [List.length_append, List.length_map, List.length_map, List.length_map, List.length_map]; exact Nat.le_of_lt (small1000 (by omega))
      refine ⟨_, _, rfl, fun b o e => ?_, ?_⟩
      · rw [upd_ne (ne_of_none e hD)]; exact s4 b o e
      · rw [upd_same, etk, labelsOf_snoc, List.map_append, List.map_append]
    · rintro σ H2 ⟨u3, u4, rfl, s2, eD⟩
      rw [lvs, List.take_length] at eD
      have tk8 := tkl ss.length
      rw [List.take_length] at tk8
      refine ⟨_, rfl, p, rfl, ⟨_, s2.seq hP⟩, for_list (xs := pws) (fun i σ H' => ∃ u5 u6, σ = [some (.ref a), some (.ref p), some (.ref D), u3, u4, u5, u6] ∧ Same H H' ∧ H' D = some (.lst ((labelsOf ss ++ labelsP (ps.take i)).map V.str))) ⟨none, none, rfl, s2, by rw [eD]; show _ = some (HO.lst ((labelsOf ss ++ []).map V.str)); rw [List.append_nil]⟩ (fun i σ H' _ ⟨_, _, _, e, _⟩ => e.seq hP) ?_ ?_⟩
      · rintro i x σ H3 hx ⟨u5, u6, rfl, s3, eD3⟩
        obtain ⟨pr, t, hp, rfl, ht⟩ := hPD.pairs_get hx
        have hil : i < ps.length := (List.getElem?_eq_some_iff.mp hp).1
        have etk : ps.take (i + 1) = ps.take i ++ [pr] := by rw [List.take_succ, hp]; rfl
        have lp := labelsP_len (ps.take i)
        rw [List.length_take] at lp
        refine ⟨t, _, rfl, s3.seqT ht, rfl, _, _, rfl, _, _, rfl, rfl, ?_⟩
        refine ⟨_, rfl, Or.inl ⟨rfl, _, SqL.of eD3⟩, _, rfl, D, _, _, rfl, rfl, eD3, ?_, ?_⟩
        · rw [List.length_map, List.length_append]; exact small1000 (by omega)
        refine ⟨_, rfl, Or.inl ⟨rfl, _, SqL.of upd_same⟩, _, rfl, D, _, _, rfl, rfl, upd_same, ?_, ?_⟩
        · rw [List.length_append, List.length_map, List.length_append]; exact small1000 (by simp; omega)
        refine ⟨_, _, rfl, fun b o e => ?_, ?_⟩
        · rw [upd_ne (ne_of_none e hD), upd_ne (ne_of_none e hD)]; exact s3 b o e
        · rw [upd_same, etk, labelsP_snoc]; simp only [List.map_append, List.map_cons, List.map_nil, List.append_assoc]
      · rintro σ H3 ⟨u5, u6, rfl, s3, eD3⟩
        rw [lpws, List.take_length] at eD3
        exact ⟨_, rfl, q D H3 hD s3 eD3⟩
theorem call_labels_told {f : Addr} {fd : FuncData} (B : Blt mg) (ER : Ers K mg) (c_labels_of : Callee P w K mg base "labels_of" 1 ["goes"] (sp_labels_of K)) (F : Fun K "labels_told" "labels_told" s_labels_told f fd) (hm : mg "labels_told" = some (.ref f)) : Callee P w K mg base "labels_told" 2 ["states", "pairs"] (sp_labels_told K) :=
  ⟨f, fd, ok_labels_told B ER c_labels_of F, hm, F.kp, F.binds fun _ _ _ _ _ _ us hl => (by obtain ⟨x0, x1, rfl⟩ := len_2 hl; rfl)⟩
def signB (c : Nat) : Bool := decide (97 ≤ c) && decide (c ≤ 122)
def nameB (x : Str) : Bool := decide (1 ≤ x.length) && (decide (x.length ≤ 8) && x.cps.toList.all signB)
theorem sign_a (c : Nat) : (!decide ((⟨#[c]⟩ : Str).cps.toList < ("a" : Str).cps.toList)) = decide (97 ≤ c) := by
  show (!decide (([c] : List Nat) < ("a" : Str).cps.toList)) = _
  have e : ("a" : Str).cps.toList = [97] := by decide +kernel
  rw [e, lt_sing]
  by_cases h : c < 97
  · rw [decide_eq_true h, decide_eq_false (by omega)]; rfl
  · rw [decide_eq_false h, decide_eq_true (by omega)]; rfl
theorem sign_z (c : Nat) : (!decide (("z" : Str).cps.toList < (⟨#[c]⟩ : Str).cps.toList)) = decide (c ≤ 122) := by
  show (!decide (("z" : Str).cps.toList < ([c] : List Nat))) = _
  have e : ("z" : Str).cps.toList = [122] := by decide +kernel
  rw [e, lt_sing]
  by_cases h : 122 < c
  · rw [decide_eq_true h, decide_eq_false (by omega)]; rfl
  · rw [decide_eq_false h, decide_eq_true (by omega)]; rfl

def sp_is_name (K : PySem.W.Frag) : Sp := fun vs H Q _ => ∃ v, vs = [v] ∧
  ((∃ x, v = .str x ∧ x.length ≤ 1000 ∧ ∀ H', Same H H' → Q (.bl (nameB x)) H') ∨ ∃ T, TyN K H v T ∧ T ≠ .str ∧ Q (.bl false) H)
set_option maxHeartbeats 4000000 in
seal L2.PE L2.PA L2.PS L2.PSs L2.PT L2.PW L2.PC L2.PG L2.PGs L2.PI L2.PF L2.PSet L2.OpR L2.UnR L2.CallR L2.MtR L2.IxR L2.SlR L2.PO in
theorem ok_is_name {f : Addr} {fd : FuncData} (B : Blt mg) (ER : Ers K mg)  (F : Fun K "is_name" "is_name" s_is_name f fd) : FnOk P w K mg base CX0 1 f fd ["thing"] (sp_is_name K) := by
  refine F.ok sc_is_name (fun vs H Q E h => ?_) (fun cdv A outer s H vs Q E hr h => ?_)
  · obtain ⟨v, rfl, _⟩ := h
    rfl
  · obtain ⟨v, rfl, h⟩ := h
    refine ⟨_, (pss_cons (ps_if (PW.pt (pw_or (pt_not (pt_val (pe_callB call_isi B.b_isinstance (pa_cons (pv 0) (pa_cons (pe_ty "str" rfl B.b_str (by decide +kernel)) pa_nil))))) (pw_or1 (pt_not (pt_chain op_le op_le pe_int (pe_callB call_len B.b_len (pa_cons (pv 0) pa_nil)) (pe_glob (v := .int 8) rfl (Classical.choose_spec B.c_LONGEST_NAME) ⟨_, rfl⟩)))))) (pss_one (ps_ret pe_bl)) pss_nil)
      (pss_one (ps_ret (pe_callB (call_allL rfl) B.b_all (pa_cons (pe_comp rfl is_name_cs1 (pi_str (pv 0)) (fun _ _ _ _ _ => (pg_name (i := 0) is_name_cs1.nd)) (fun _ _ _ _ _ => pf_nil) (fun _ _ _ _ _ => (pe_chain op_leS op_leS pe_str (pv 0) pe_str))) pa_nil))))), ?_⟩
    rcases h with ⟨x, rfl, hx, q⟩ | ⟨T, ty, hT, q⟩
    · have hz : x.length ≤ sizeLine := Nat.le_of_lt (small1000 hx)
      refine ⟨_, rfl, _, .str, .str, rfl, .str x, _, rfl, iteF ?_⟩
      refine ⟨_, rfl, _, _, rfl, ⟨hz, rfl⟩, _, _, rfl, rfl, _, rfl, ?_⟩
      refine ite2 (fun h1 => ?_) (fun h1 => ?_)
      · have h1 : 1 ≤ x.length := by have := of_decide_eq_true h1; omega
        refine ⟨_, _, rfl, rfl, _, rfl, ?_⟩
        refine ite2 (fun h2 => ?_) (fun h2 => ?_)
        · have h2 : ¬ x.length ≤ 8 := fun z => by
            rw [decide_eq_true (show ((x.length : Nat) : Int) ≤ 8 by omega)] at h2
            cases h2
          have e : nameB x = false := by unfold nameB; rw [decide_eq_false h2]; simp
          have := q H (Same.refl _)
          rw [e] at this
          exact this
        · have h2 : x.length ≤ 8 := by
            refine Nat.le_of_not_lt fun z => h2 ?_
            rw [decide_eq_false (show ¬ ((x.length : Nat) : Int) ≤ 8 by omega)]; rfl
          have e : nameB x = (x.cps.toList.map signB).all id := by
            unfold nameB; rw [decide_eq_true h1, decide_eq_true h2, List.all_map]; rfl
          refine ⟨_, rfl, _, rfl, comp_str (f := fun c => V.bl (signB c)) hz (fun i c H2 D R hc s2 hD k => ?_) (fun H2 D s2 hD e2 => ?_)⟩
          · refine ⟨_, rfl, _, _, rfl, rfl, _, rfl, ?_⟩
            show if (!decide ((⟨#[c]⟩ : Str).cps.toList < ("a" : Str).cps.toList)) = true then _ else _
            rw [show (!decide ((⟨#[c]⟩ : Str).cps.toList < ("a" : Str).cps.toList)) = decide (97 ≤ c) from sign_a c]
            refine ite2 (fun h3 => ?_) (fun h3 => ?_)
            · refine ⟨_, _, rfl, rfl, ?_⟩
              rw [show (V.bl ((fun a b : Str => !decide (b.cps.toList < a.cps.toList)) ⟨#[c]⟩ "z")) = V.bl (decide (c ≤ 122)) from congrArg V.bl (sign_z c)]
              have := k H2 (Same.refl _)
              unfold signB at this
              rw [h3] at this
              exact this
            · have := k H2 (Same.refl _)
              unfold signB at this
              rw [Bool.not_eq_true _ |>.mp h3] at this
              exact this
          · refine ⟨_, x.cps.toList.map signB, rfl, SqL.of (by rw [List.map_map]; exact e2), ?_⟩
            rw [← e]
            exact q H2 s2
      · have h1 : ¬ 1 ≤ x.length := fun z => h1 (decide_eq_true (by omega))
        have e : nameB x = false := by unfold nameB; rw [decide_eq_false h1]; rfl
        have := q H (Same.refl _)
        rw [e] at this
        exact ⟨_, rfl, iteT this⟩
    · refine ⟨_, rfl, _, .str, T, rfl, ty, _, rfl, ?_⟩
      cases T with
      | str => exact absurd rfl hT
      | _ => exact iteT (iteT q)
theorem call_is_name {f : Addr} {fd : FuncData} (B : Blt mg) (ER : Ers K mg)  (F : Fun K "is_name" "is_name" s_is_name f fd) (hm : mg "is_name" = some (.ref f)) : Callee P w K mg base "is_name" 1 ["thing"] (sp_is_name K) :=
  ⟨f, fd, ok_is_name B ER  F, hm, F.kp, F.binds fun _ _ _ _ _ _ us hl => (by obtain ⟨x0, rfl⟩ := len_1 hl; rfl)⟩

def sp_refuse_no_names (K : PySem.W.Frag) : Sp := fun vs H Q _ => ∃ (a p : Addr) (ss : List Stt) (ps : List (Str × Str)), vs = [.ref a, .ref p] ∧ StE K H a ss ∧ Fits ss ∧ Prs K H p ps ∧ ps.length ≤ 60 ∧ (∀ x ∈ labelsOf ss ++ labelsP ps, nameB x = true) ∧ ∀ H', Same H H' → Q .non H'
set_option maxHeartbeats 4000000 in
seal L2.PE L2.PA L2.PS L2.PSs L2.PT L2.PW L2.PC L2.PG L2.PGs L2.PI L2.PF L2.PSet L2.OpR L2.UnR L2.CallR L2.MtR L2.IxR L2.SlR L2.PO in
theorem ok_refuse_no_names {f : Addr} {fd : FuncData} (B : Blt mg) (ER : Ers K mg) (c_labels_told : Callee P w K mg base "labels_told" 2 ["states", "pairs"] (sp_labels_told K)) (c_is_name : Callee P w K mg base "is_name" 1 ["thing"] (sp_is_name K)) (F : Fun K "refuse_no_names" "refuse_no_names" s_refuse_no_names f fd) : FnOk P w K mg base CX0 3 f fd ["states", "pairs"] (sp_refuse_no_names K) := by
  refine F.ok sc_refuse_no_names (fun vs H Q E h => ?_) (fun cdv A outer s H vs Q E hr h => ?_)
  · obtain ⟨a, p, ss, ps, rfl, _⟩ := h
    rfl
  · obtain ⟨a, p, ss, ps, rfl, hS, hF, hP, hpl, hN, q⟩ := h
    refine ⟨_, (pss_one (ps_for PassesOwn.never rfl (pi_list (pe_fn c_labels_told (pa_cons (pv 0) (pa_cons (pv 1) pa_nil)))) (pg_name (i := 2) sc_refuse_no_names.nd) (pss_one (ps_if (pt_not (pt_val (pe_fn c_is_name (pa_cons (pv 2) pa_nil)))) (pss_one ps_never) pss_nil)))), ?_⟩
    refine ⟨_, rfl, _, rfl, a, p, ss, ps, rfl, hS, hF, hP, hpl, fun l H1 hl s1 el => ?_⟩
    refine ⟨l, rfl, ⟨_, SqL.of el⟩, for_list (xs := (labelsOf ss ++ labelsP ps).map V.str) (fun i σ H' => ∃ u2, σ = [some (.ref a), some (.ref p), u2] ∧ Same H1 H') ⟨none, rfl, Same.refl _⟩ (fun i σ H' _ ⟨_, _, e⟩ => SqL.of (e _ _ el)) ?_ ?_⟩
    · rintro i x σ H2 hx ⟨u2, rfl, s2⟩
      obtain ⟨b, hb, rfl⟩ := map_at hx
      have hn := hN b (List.mem_of_getElem? hb)
      have hlen : b.length ≤ 8 := by
        unfold nameB at hn
        rw [Bool.and_eq_true, Bool.and_eq_true] at hn
        exact of_decide_eq_true hn.2.1
      refine ⟨_, rfl, _, rfl, Or.inl ⟨b, rfl, by omega, fun H3 s3 => ?_⟩⟩
      rw [hn]
      exact ⟨_, rfl, iteF ⟨_, rfl, s2.trans s3⟩⟩
    · rintro σ H2 ⟨u2, rfl, s2⟩
      exact q H2 (s1.trans s2)
theorem call_refuse_no_names {f : Addr} {fd : FuncData} (B : Blt mg) (ER : Ers K mg) (c_labels_told : Callee P w K mg base "labels_told" 2 ["states", "pairs"] (sp_labels_told K)) (c_is_name : Callee P w K mg base "is_name" 1 ["thing"] (sp_is_name K)) (F : Fun K "refuse_no_names" "refuse_no_names" s_refuse_no_names f fd) (hm : mg "refuse_no_names" = some (.ref f)) : Callee P w K mg base "refuse_no_names" 3 ["states", "pairs"] (sp_refuse_no_names K) :=
  ⟨f, fd, ok_refuse_no_names B ER c_labels_told c_is_name F, hm, F.kp, F.binds fun _ _ _ _ _ _ us hl => (by obtain ⟨x0, x1, rfl⟩ := len_2 hl; rfl)⟩
def wholeT : Ty → Bool
  | .int => true
  | _ => false

def sp_is_whole (K : PySem.W.Frag) : Sp := fun vs H Q _ => ∃ v T, vs = [v] ∧ TyN K H v T ∧ Q (.bl (wholeT T)) H
set_option maxHeartbeats 4000000 in
seal L2.PE L2.PA L2.PS L2.PSs L2.PT L2.PW L2.PC L2.PG L2.PGs L2.PI L2.PF L2.PSet L2.OpR L2.UnR L2.CallR L2.MtR L2.IxR L2.SlR L2.PO in
theorem ok_is_whole {f : Addr} {fd : FuncData} (B : Blt mg) (ER : Ers K mg)  (F : Fun K "is_whole" "is_whole" s_is_whole f fd) : FnOk P w K mg base CX0 1 f fd ["thing"] (sp_is_whole K) := by
  refine F.ok sc_is_whole (fun vs H Q E h => ?_) (fun cdv A outer s H vs Q E hr h => ?_)
  · obtain ⟨v, T, rfl, _⟩ := h
    rfl
  · obtain ⟨v, T, rfl, ty, q⟩ := h
    refine ⟨_, (pss_one (ps_ret (pe_and (pe_callB call_isi B.b_isinstance (pa_cons (pv 0) (pa_cons (pe_ty "int" rfl B.b_int (by decide +kernel)) pa_nil))) (pe_one (pe_not (pe_callB call_isi B.b_isinstance (pa_cons (pv 0) (pa_cons (pe_ty "bool" rfl B.b_bool (by decide +kernel)) pa_nil)))))))), ?_⟩
    refine ⟨_, rfl, _, .int, T, rfl, ty, _, rfl, ?_⟩
    cases T with
    | int => exact iteT ⟨_, rfl, _, .bool, .int, rfl, ty, _, rfl, q⟩
    | bool => exact iteT ⟨_, rfl, _, .bool, .bool, rfl, ty, _, rfl, q⟩
    | _ => exact iteF q
theorem call_is_whole {f : Addr} {fd : FuncData} (B : Blt mg) (ER : Ers K mg)  (F : Fun K "is_whole" "is_whole" s_is_whole f fd) (hm : mg "is_whole" = some (.ref f)) : Callee P w K mg base "is_whole" 1 ["thing"] (sp_is_whole K) :=
  ⟨f, fd, ok_is_whole B ER  F, hm, F.kp, F.binds fun _ _ _ _ _ _ us hl => (by obtain ⟨x0, rfl⟩ := len_1 hl; rfl)⟩

def sp_is_place (_ : PySem.W.Frag) : Sp := fun vs H Q _ => ∃ (n m : Int), vs = [.int n, .int m] ∧ 0 ≤ n ∧ n < m ∧ Q (.bl true) H
set_option maxHeartbeats 4000000 in
seal L2.PE L2.PA L2.PS L2.PSs L2.PT L2.PW L2.PC L2.PG L2.PGs L2.PI L2.PF L2.PSet L2.OpR L2.UnR L2.CallR L2.MtR L2.IxR L2.SlR L2.PO in
theorem ok_is_place {f : Addr} {fd : FuncData} (B : Blt mg) (ER : Ers K mg) (c_is_whole : Callee P w K mg base "is_whole" 1 ["thing"] (sp_is_whole K)) (F : Fun K "is_place" "is_place" s_is_place f fd) : FnOk P w K mg base CX0 2 f fd ["number", "many"] (sp_is_place K) := by
  refine F.ok sc_is_place (fun vs H Q E h => ?_) (fun cdv A outer s H vs Q E hr h => ?_)
  · obtain ⟨n, m, rfl, _⟩ := h
    rfl
  · obtain ⟨n, m, rfl, h0, h1, q⟩ := h
    refine ⟨_, (pss_one (ps_ret (pe_and (pe_fn c_is_whole (pa_cons (pv 0) pa_nil)) (pe_one (pe_chain op_le op_lt pe_int (pv 0) (pv 1)))))), ?_⟩
    refine ⟨_, rfl, _, .int, rfl, .int n, _, rfl, iteT ?_⟩
    refine ⟨_, rfl, _, _, rfl, rfl, _, rfl, ?_⟩
    rw [decide_eq_true h0]
    refine iteT ⟨_, rfl, _, _, rfl, rfl, ?_⟩
    have e : V.bl true = V.bl (decide (n < m)) := by rw [decide_eq_true h1]
    rw [e] at q
    exact q
theorem call_is_place {f : Addr} {fd : FuncData} (B : Blt mg) (ER : Ers K mg) (c_is_whole : Callee P w K mg base "is_whole" 1 ["thing"] (sp_is_whole K)) (F : Fun K "is_place" "is_place" s_is_place f fd) (hm : mg "is_place" = some (.ref f)) : Callee P w K mg base "is_place" 2 ["number", "many"] (sp_is_place K) :=
  ⟨f, fd, ok_is_place B ER c_is_whole F, hm, F.kp, F.binds fun _ _ _ _ _ _ us hl => (by obtain ⟨x0, x1, rfl⟩ := len_2 hl; rfl)⟩

def sp_refuse_no_places (K : PySem.W.Frag) : Sp := fun vs H Q _ => ∃ (a : Addr) (ss : List Stt) (n : Int), vs = [.ref a, .int n] ∧ Stts K H a ss ∧ 0 ≤ n ∧ n < ss.length ∧ (∀ s ∈ ss, ∀ g ∈ s.1, 0 ≤ g.2 ∧ g.2 < ss.length) ∧ Q .non H
set_option maxHeartbeats 4000000 in
seal L2.PE L2.PA L2.PS L2.PSs L2.PT L2.PW L2.PC L2.PG L2.PGs L2.PI L2.PF L2.PSet L2.OpR L2.UnR L2.CallR L2.MtR L2.IxR L2.SlR L2.PO in
theorem ok_refuse_no_places {f : Addr} {fd : FuncData} (B : Blt mg) (ER : Ers K mg) (c_is_place : Callee P w K mg base "is_place" 2 ["number", "many"] (sp_is_place K)) (F : Fun K "refuse_no_places" "refuse_no_places" s_refuse_no_places f fd) : FnOk P w K mg base CX0 3 f fd ["states", "inner"] (sp_refuse_no_places K) := by
  refine F.ok sc_refuse_no_places (fun vs H Q E h => ?_) (fun cdv A outer s H vs Q E hr h => ?_)
  · obtain ⟨a, ss, n, rfl, _⟩ := h
    rfl
  · obtain ⟨a, ss, n, rfl, ⟨vs, hS, hD⟩, n0, n1, hG, q⟩ := h
    have lvs := hD.len_map
    refine ⟨_, (pss_cons (ps_if (pt_not (pt_list (pv 0))) (pss_one ps_never) pss_nil)
      (pss_cons (ps_if (pt_not (pt_val (pe_fn c_is_place (pa_cons (pv 1) (pa_cons (pe_callB call_len B.b_len (pa_cons (pv 0) pa_nil)) pa_nil))))) (pss_one ps_never) pss_nil)
      (pss_one (ps_for PassesOwn.never rfl (pi_list (pv 0)) (pg_tup (n := 2) rfl (pgs_cons (pg_name (i := 2) sc_refuse_no_places.nd) (pgs_cons (pg_name (i := 3) sc_refuse_no_places.nd) pgs_nil))) (pss_one (ps_for PassesOwn.never rfl (pi_list (pv 2)) (pg_tup (n := 2) rfl (pgs_cons (pg_name (i := 4) sc_refuse_no_places.nd) (pgs_cons (pg_name (i := 5) sc_refuse_no_places.nd) pgs_nil))) (pss_one (ps_if (pt_not (pt_val (pe_fn c_is_place (pa_cons (pv 5) (pa_cons (pe_callB call_len B.b_len (pa_cons (pv 0) pa_nil)) pa_nil))))) (pss_one ps_never) pss_nil)))))))), ?_⟩
    refine ⟨_, rfl, a, vs, rfl, hS, ?_⟩
    have hne : vs.isEmpty = false := by
      cases vs with
      | nil => simp at lvs; omega
      | cons _ _ => rfl
    rw [hne]
    refine iteF ⟨_, rfl, _, rfl, _, _, rfl, Or.inl ⟨_, hS, rfl⟩, n, _, rfl, n0, by omega, _, rfl, iteF ?_⟩
    refine ⟨_, rfl, a, rfl, ⟨_, hS⟩, for_list (xs := vs) (fun i σ H' => ∃ u2 u3 u4 u5, σ = [some (.ref a), some (.int n), u2, u3, u4, u5] ∧ H' = H) ⟨none, none, none, none, rfl, rfl⟩ (fun i σ H' _ ⟨_, _, _, _, _, e⟩ => by rw [e]; exact hS) ?_ ?_⟩
    · rintro i x σ H2 hx ⟨u2, u3, u4, u5, rfl, rfl⟩
      obtain ⟨s, t, g, e, hs, rfl, ht, ⟨gv, hg, hgd⟩, he⟩ := hD.sts_get hx
      refine ⟨t, _, rfl, ht, rfl, _, _, rfl, _, _, rfl, rfl, ?_⟩
      refine ⟨_, rfl, g, rfl, ⟨_, hg⟩, for_list (xs := gv) (fun i σ H' => ∃ u4 u5, σ = [some (.ref a), some (.int n), some (.ref g), some (.ref e), u4, u5] ∧ H' = H2) ⟨_, _, rfl, rfl⟩ (fun i σ H' _ ⟨_, _, _, e⟩ => by rw [e]; exact hg) ?_ ?_⟩
      · rintro j y σ H3 hy ⟨u4, u5, rfl, rfl⟩
        obtain ⟨p, t', hp, rfl, ht'⟩ := hgd.goes_get hy
        obtain ⟨p0, p1⟩ := hG s (List.mem_of_getElem? hs) p (List.mem_of_getElem? hp)
        refine ⟨t', _, rfl, ht', rfl, _, _, rfl, _, _, rfl, rfl, ?_⟩
        exact ⟨_, rfl, _, rfl, _, _, rfl, Or.inl ⟨_, hS, rfl⟩, p.2, _, rfl, p0, by omega, _, rfl, iteF ⟨_, _, rfl, rfl⟩⟩
      · rintro σ H3 ⟨u4, u5, rfl, rfl⟩
        exact ⟨_, _, _, _, rfl, rfl⟩
    · rintro σ H2 ⟨u2, u3, u4, u5, rfl, rfl⟩
      exact q
theorem call_refuse_no_places {f : Addr} {fd : FuncData} (B : Blt mg) (ER : Ers K mg) (c_is_place : Callee P w K mg base "is_place" 2 ["number", "many"] (sp_is_place K)) (F : Fun K "refuse_no_places" "refuse_no_places" s_refuse_no_places f fd) (hm : mg "refuse_no_places" = some (.ref f)) : Callee P w K mg base "refuse_no_places" 3 ["states", "inner"] (sp_refuse_no_places K) :=
  ⟨f, fd, ok_refuse_no_places B ER c_is_place F, hm, F.kp, F.binds fun _ _ _ _ _ _ us hl => (by obtain ⟨x0, x1, rfl⟩ := len_2 hl; rfl)⟩

def sp_is_one_twice (K : PySem.W.Frag) : Sp := fun vs H Q _ => ∃ (l : Addr) (ls : List Str), vs = [.ref l] ∧ SqL K H l (ls.map V.str) ∧ ls.length ≤ 1000 ∧ ls.Nodup ∧ ∀ H', Same H H' → Q (.bl false) H'
set_option maxHeartbeats 4000000 in
seal L2.PE L2.PA L2.PS L2.PSs L2.PT L2.PW L2.PC L2.PG L2.PGs L2.PI L2.PF L2.PSet L2.OpR L2.UnR L2.CallR L2.MtR L2.IxR L2.SlR L2.PO in
theorem ok_is_one_twice {f : Addr} {fd : FuncData} (B : Blt mg) (ER : Ers K mg)  (F : Fun K "is_one_twice" "is_one_twice" s_is_one_twice f fd) : FnOk P w K mg base CX0 1 f fd ["labels"] (sp_is_one_twice K) := by
  refine F.ok sc_is_one_twice (fun vs H Q E h => ?_) (fun cdv A outer s H vs Q E hr h => ?_)
  · obtain ⟨l, ls, rfl, _⟩ := h
    rfl
  · obtain ⟨l, ls, rfl, hL, hll, hnd, q⟩ := h
    refine ⟨_, (pss_one (ps_ret (pe_cmpR op_lt (pe_callB call_len_setS B.b_len (pa_cons (pe_callTy (call_set_of rfl) B.b_set (pa_cons (pv 0) pa_nil)) pa_nil)) (pe_callB call_len B.b_len (pa_cons (pv 0) pa_nil)) (nomark _)))), ?_⟩
    refine ⟨_, rfl, l, ls, rfl, hL, hll, fun s n hn hs => ?_⟩
    refine ⟨_, n, rfl, upd_same, by rw [hn.mpr hnd]; exact hll, _, rfl, _, ls.length, rfl, Or.inl ⟨_, (same_new hs).seq hL, by rw [List.length_map]⟩, _, _, rfl, rfl, ?_⟩
    have key : ∀ o, Q (V.bl (decide ((n : Int) < (ls.length : Int)))) (upd H s o) := fun o => by
      have := q _ (same_new (o := o) hs)
      rw [show V.bl false = V.bl (decide ((n : Int) < (ls.length : Int))) by rw [hn.mpr hnd, decide_eq_false (by omega)]] at this
      exact this
    exact key _
theorem call_is_one_twice {f : Addr} {fd : FuncData} (B : Blt mg) (ER : Ers K mg)  (F : Fun K "is_one_twice" "is_one_twice" s_is_one_twice f fd) (hm : mg "is_one_twice" = some (.ref f)) : Callee P w K mg base "is_one_twice" 1 ["labels"] (sp_is_one_twice K) :=
  ⟨f, fd, ok_is_one_twice B ER  F, hm, F.kp, F.binds fun _ _ _ _ _ _ us hl => (by obtain ⟨x0, rfl⟩ := len_1 hl; rfl)⟩

def sp_refuse_twice (K : PySem.W.Frag) : Sp := fun vs H Q _ => ∃ (a : Addr) (ss : List Stt), vs = [.ref a] ∧ Stts K H a ss ∧ Fits ss ∧ (∀ s ∈ ss, (s.1.map (·.1)).Nodup ∧ s.2.Nodup) ∧ ∀ H', Same H H' → Q .non H'
set_option maxHeartbeats 4000000 in
seal L2.PE L2.PA L2.PS L2.PSs L2.PT L2.PW L2.PC L2.PG L2.PGs L2.PI L2.PF L2.PSet L2.OpR L2.UnR L2.CallR L2.MtR L2.IxR L2.SlR L2.PO in
theorem ok_refuse_twice {f : Addr} {fd : FuncData} (B : Blt mg) (ER : Ers K mg) (c_is_one_twice : Callee P w K mg base "is_one_twice" 1 ["labels"] (sp_is_one_twice K)) (c_labels_of : Callee P w K mg base "labels_of" 1 ["goes"] (sp_labels_of K)) (F : Fun K "refuse_twice" "refuse_twice" s_refuse_twice f fd) : FnOk P w K mg base CX0 2 f fd ["states"] (sp_refuse_twice K) := by
  refine F.ok sc_refuse_twice (fun vs H Q E h => ?_) (fun cdv A outer s H vs Q E hr h => ?_)
  · obtain ⟨a, ss, rfl, _⟩ := h
    rfl
  · obtain ⟨a, ss, rfl, ⟨vs, hS, hD⟩, hF, hN, q⟩ := h
    have lvs := hD.len_map
    refine ⟨_, (pss_one (ps_for PassesOwn.never rfl (pi_list (pv 0)) (pg_tup (n := 2) rfl (pgs_cons (pg_name (i := 1) sc_refuse_twice.nd) (pgs_cons (pg_name (i := 2) sc_refuse_twice.nd) pgs_nil))) (pss_cons (ps_if (pt_val (pe_fn c_is_one_twice (pa_cons (pe_fn c_labels_of (pa_cons (pv 1) pa_nil)) pa_nil))) (pss_one ps_never) pss_nil)
        (pss_one (ps_if (pt_val (pe_fn c_is_one_twice (pa_cons (pv 2) pa_nil))) (pss_one ps_never) pss_nil))))), ?_⟩
    refine ⟨_, rfl, a, rfl, ⟨_, hS⟩, for_list (xs := vs) (fun i σ H' => ∃ u1 u2, σ = [some (.ref a), u1, u2] ∧ Same H H') ⟨none, none, rfl, Same.refl _⟩ (fun i σ H' _ ⟨_, _, _, e⟩ => e.seq hS) ?_ ?_⟩
    · rintro i x σ H2 hx ⟨u1, u2, rfl, s2⟩
      obtain ⟨s, t, g, e, hs, rfl, ht, hg, he⟩ := hD.sts_get hx
      have b1 := hF.gs s (List.mem_of_getElem? hs)
      have b2 := hF.es s (List.mem_of_getElem? hs)
      obtain ⟨d1, d2⟩ := hN s (List.mem_of_getElem? hs)
      refine ⟨t, _, rfl, s2.seqT ht, rfl, _, _, rfl, _, _, rfl, rfl, ?_⟩
      refine ⟨_, rfl, g, s.1, rfl, hg.same s2, by omega, fun l H3 hl s3 el => ?_⟩
      refine ⟨l, _, rfl, SqL.of el, by rw [List.length_map]; omega, d1, fun H4 s4 => ⟨_, rfl, iteF ?_⟩⟩
      have s24 := (s2.trans s3).trans s4
      exact ⟨_, rfl, e, s.2, rfl, s24.seq he, by omega, d2, fun H5 s5 => ⟨_, rfl, iteF ⟨_, _, rfl, s24.trans s5⟩⟩⟩
    · rintro σ H2 ⟨u1, u2, rfl, s2⟩
      exact q H2 s2
theorem call_refuse_twice {f : Addr} {fd : FuncData} (B : Blt mg) (ER : Ers K mg) (c_is_one_twice : Callee P w K mg base "is_one_twice" 1 ["labels"] (sp_is_one_twice K)) (c_labels_of : Callee P w K mg base "labels_of" 1 ["goes"] (sp_labels_of K)) (F : Fun K "refuse_twice" "refuse_twice" s_refuse_twice f fd) (hm : mg "refuse_twice" = some (.ref f)) : Callee P w K mg base "refuse_twice" 2 ["states"] (sp_refuse_twice K) :=
  ⟨f, fd, ok_refuse_twice B ER c_is_one_twice c_labels_of F, hm, F.kp, F.binds fun _ _ _ _ _ _ us hl => (by obtain ⟨x0, rfl⟩ := len_1 hl; rfl)⟩

def sp_worse_by_better (K : PySem.W.Frag) : Sp := fun vs H Q _ => ∃ p ps, vs = [.ref p] ∧ Prs K H p ps ∧ ps.length ≤ 100 ∧ ∀ d ks H', H d = none → Same H H' → WBB H' d ps ks → ks.length ≤ ps.length → Q (.ref d) H'
set_option maxHeartbeats 4000000 in
seal L2.PE L2.PA L2.PS L2.PSs L2.PT L2.PW L2.PC L2.PG L2.PGs L2.PI L2.PF L2.PSet L2.OpR L2.UnR L2.CallR L2.MtR L2.IxR L2.SlR L2.PO in
theorem ok_worse_by_better {f : Addr} {fd : FuncData} (B : Blt mg) (ER : Ers K mg)  (F : Fun K "worse_by_better" "worse_by_better" s_worse_by_better f fd) : FnOk P w K mg base CX0 1 f fd ["pairs"] (sp_worse_by_better K) := by
  refine F.ok sc_worse_by_better (fun vs H Q E h => ?_) (fun cdv A outer s H vs Q E hr h => ?_)
  · obtain ⟨p, ps, rfl, _⟩ := h
    rfl
  · obtain ⟨p, ps, rfl, ⟨vs, hS, hD⟩, hlen, q⟩ := h
    have lvs : vs.length = ps.length := by have := hD.length; rw [List.length_map] at this; exact this
    refine ⟨_, (pss_cons (ps_set (i := 1) sc_worse_by_better.nd pe_dnewK)
      (pss_cons (ps_for PassesOwn.never rfl (pi_list (pv 0)) (pg_tup (n := 2) rfl (pgs_cons (pg_name (i := 2) sc_worse_by_better.nd) (pgs_cons (pg_name (i := 3) sc_worse_by_better.nd) pgs_nil))) (pss_one (ps_expr (pe_bm PySem.F.plainAttrs_list PySem.F.slot_list_append PySem.F.type_list_append mr_append (pe_bm PySem.F.plainAttrs_dict PySem.F.slot_dict_setdefault PySem.F.type_dict_setdefault mt_setdefault (pv 1) (pa_cons (pv 2) (pa_cons (pe_lst pa_nil) pa_nil))) (pa_cons (pv 3) pa_nil)))))
      (pss_one (ps_ret (pv 1))))), ?_⟩
    intro d hd
    refine ⟨_, rfl, p, rfl, ⟨vs, (same_new hd).seq hS⟩, for_list (xs := vs) (fun i σ H' => ∃ u2 u3 ks, σ = [some (.ref p), some (.ref d), u2, u3] ∧ Same H H' ∧ WBB H' d (ps.take i) ks ∧ (∀ q ∈ ks, H q.2 = none) ∧ ks.length ≤ i) ⟨none, none, [], rfl, same_new hd, WBB.start upd_same, fun q hq => by simp at hq, Nat.le_refl _⟩ (fun i σ H' _ ⟨_, _, _, _, s2, _⟩ => s2.seq hS) ?_ ?_⟩
    · rintro i x σ H2 hx ⟨u2, u3, ks, rfl, s2, W, hk, hkl⟩
      obtain ⟨pr, t, hp, rfl, ht⟩ := hD.pairs_get hx
      have hil : i < ps.length := (List.getElem?_eq_some_iff.mp hp).1
      have etk : ps.take (i + 1) = ps.take i ++ [(pr.1, pr.2)] := by rw [List.take_succ, hp]; rfl
      have wl : ∀ b, (worseOf (ps.take i) b).length ≤ 100 := fun b => by
        unfold worseOf
        rw [List.length_map]
        refine Nat.le_trans (List.length_filter_le _ _) ?_
        rw [List.length_take]; omega
      refine ⟨t, _, rfl, s2.seqT ht, rfl, _, _, rfl, _, _, rfl, rfl, ?_⟩
      refine ⟨_, rfl, Or.inr (Or.inr (Or.inl ⟨rfl, Or.inl ⟨_, W.dict⟩⟩)), _, rfl, by decide, fun a ha => ?_⟩
      have nda : d ≠ a := ne_of_none W.dict ha
      have haH : H a = none := s2.free ha
      refine ⟨d, kvR ks, Sum.inr pr.1, .ref a, rfl, rfl, by rw [upd_ne nda]; exact W.dict, small1000 (by rw [List.length_map]; omega), fun v hv => ?_, fun hn => ?_⟩
      · rw [val_R] at hv
        obtain ⟨a0, h0, rfl⟩ := Option.map_eq_some_iff.mp hv
        have W1 : WBB (upd H2 a (.lst [])) d (ps.take i) ks := W.same (same_new ha)
        have hl := W1.worse.1 a0 h0
        refine ⟨Or.inl ⟨rfl, _, SqL.of hl⟩, _, rfl, a0, _, _, rfl, rfl, hl, small1000 (by rw [List.length_map]; exact Nat.le_trans (wl _) (by decide)), ?_⟩
        refine ⟨_, _, ks, rfl, fun b o e => ?_, by rw [etk]; exact W1.known h0, hk, Nat.le_succ_of_le hkl⟩
        have n0 : b ≠ a0 := ne_of_none e (hk _ (lookA_mem h0))
        rw [upd_ne n0, upd_ne (ne_of_none e haH)]
        exact s2 b o e
      · rw [val_R] at hn
        have h0 : ks.lookup pr.1 = none := by
          cases e : ks.lookup pr.1 with
          | none => rfl
          | some z => rw [e] at hn; cases hn
        have hl : (upd (upd H2 a (.lst [])) d (.dK (putK (kvR ks) (Sum.inr pr.1) (.ref a)))) a = some (.lst []) := by rw [upd_ne nda.symm, upd_same]
        refine ⟨Or.inl ⟨rfl, _, SqL.of hl⟩, _, rfl, a, _, _, rfl, rfl, hl, small1000 (by decide), ?_⟩
        refine ⟨_, _, ks ++ [(pr.1, a)], rfl, fun b o e => ?_, by rw [etk]; exact W.more h0 ha, fun z hz => ?_, by rw [List.length_append]; exact Nat.add_le_add_right hkl 1⟩
        · rw [upd_ne (ne_of_none e haH), upd_ne (ne_of_none e hd), upd_ne (ne_of_none e haH)]
          exact s2 b o e
        · rcases List.mem_append.mp hz with hz | hz
          · exact hk z hz
          · rw [List.mem_singleton] at hz; subst hz; exact haH
    · rintro σ H2 ⟨u2, u3, ks, rfl, s2, W, hk, hkl⟩
      rw [lvs, List.take_length] at W
      rw [lvs] at hkl
      exact ⟨_, rfl, q d ks H2 hd s2 W hkl⟩
theorem call_worse_by_better {f : Addr} {fd : FuncData} (B : Blt mg) (ER : Ers K mg)  (F : Fun K "worse_by_better" "worse_by_better" s_worse_by_better f fd) (hm : mg "worse_by_better" = some (.ref f)) : Callee P w K mg base "worse_by_better" 1 ["pairs"] (sp_worse_by_better K) :=
  ⟨f, fd, ok_worse_by_better B ER  F, hm, F.kp, F.binds fun _ _ _ _ _ _ us hl => (by obtain ⟨x0, rfl⟩ := len_1 hl; rfl)⟩

def sp_reached (_ : PySem.W.Frag) : Sp := fun vs H Q _ => ∃ d ks ps st, vs = [.ref d, .str st] ∧ WBB H d ps ks ∧ ps.length ≤ 100 ∧ ∀ c cf H', H c = none → Same H H' → H' c = some (.dK (kvS cf)) → Tree ps st cf → Full ps st cf → Q (.ref c) H'
set_option maxHeartbeats 4000000 in
seal L2.PE L2.PA L2.PS L2.PSs L2.PT L2.PW L2.PC L2.PG L2.PGs L2.PI L2.PF L2.PSet L2.OpR L2.UnR L2.CallR L2.MtR L2.IxR L2.SlR L2.PO in
theorem ok_reached {f : Addr} {fd : FuncData} (B : Blt mg) (ER : Ers K mg)  (F : Fun K "reached" "reached" s_reached f fd) : FnOk P w K mg base CX0 1 f fd ["worse_labels", "start"] (sp_reached K) := by
  refine F.ok sc_reached (fun vs H Q E h => ?_) (fun cdv A outer s H vs Q E hr h => ?_)
  · obtain ⟨d, ks, ps, st, rfl, _⟩ := h
    rfl
  · obtain ⟨d, ks, ps, st, rfl, W, hlen, q⟩ := h
    refine ⟨_, (pss_cons (ps_set (i := 2) sc_reached.nd pe_dnewK)
      (pss_cons (ps_set (i := 3) sc_reached.nd (pe_lst (pa_cons (pv 1) pa_nil)))
      (pss_cons (ps_while PassesOwn.never (pt_list (pv 3)) (pss_cons (ps_set (i := 4) sc_reached.nd (pe_lst pa_nil))
        (pss_cons (ps_for PassesOwn.never rfl (pi_list (pv 3)) (pg_name (i := 5) sc_reached.nd) (pss_one (ps_for PassesOwn.never rfl (pi_list (pe_bm PySem.F.plainAttrs_dict PySem.F.slot_dict_get PySem.F.type_dict_get (mt_get (hu_of hr)) (pv 0) (pa_cons (pv 5) (pa_cons (pe_lst pa_nil) pa_nil)))) (pg_name (i := 6) sc_reached.nd) (pss_one (ps_if (pt_cmpR (op_notinDict (hu_of hr)) (pv 6) (pv 2) (by with_unfolding_all rfl)) (pss_cons (ps_asg (pv 5) (pg_sub (pv 2) (pv 6) (set_dict (hu_of hr))))
              (pss_one (ps_expr (pe_bm PySem.F.plainAttrs_list PySem.F.slot_list_append PySem.F.type_list_append mr_append (pv 4) (pa_cons (pv 6) pa_nil))))) pss_nil)))))
        (pss_one (ps_set (i := 3) sc_reached.nd (pv 4))))))
      (pss_one (ps_ret (pv 2)))))), ?_⟩
    intro c hc
    refine ⟨_, rfl, one_le, fun l hl => ?_⟩
    have hlH : H l = none := (same_new hc).free hl
    have ncl : c ≠ l := ne_of_none upd_same hl
    refine ⟨fun m σ H' => ∃ u4 u5 u6 cf ly la, σ = [some (.ref d), some (.str st), some (.ref c), some (.ref la), u4, u5, u6] ∧ Same H H' ∧ H la = none ∧ H' c = some (.dK (kvS cf)) ∧ H' la = some (.lst (ly.map V.str)) ∧ Lay ps st cf ly [] ∧ m = 2 * (ps.length - cf.length) + (if ly.length = 0 then 0 else 1), ⟨_, none, none, none, [], [st], l, rfl, (same_new hc).trans (same_new hl), hlH, ?_, upd_same, Lay.start, rfl⟩, ?_⟩
    · rw [upd_ne ncl, upd_same]; rfl
    rintro m σ H1 ⟨u4, u5, u6, cf, ly, la, rfl, s1, hlaH, ec, ela, L, em⟩
    refine ⟨_, rfl, la, _, rfl, SqL.of ela, ?_⟩
    cases ly with
    | nil => exact iteF ⟨_, rfl, q c cf H1 hc s1 ec L.tree L.done⟩
    | cons b0 ly0 =>
      refine iteT ?_
      generalize hly : b0 :: ly0 = ly at *
      have hlp : 0 < ly.length := by rw [← hly]; exact Nat.succ_pos _
      -- the turn's end
      refine ⟨fun σ' H' => ∃ u5 u6 cf' fu fa, σ' = [some (.ref d), some (.str st), some (.ref c), some (.ref fa), some (.ref fa), u5, u6] ∧ Same H H' ∧ H fa = none ∧ H' c = some (.dK (kvS cf')) ∧ H' fa = some (.lst (fu.map V.str)) ∧ Lay ps st cf' fu [] ∧ cf'.length = cf.length + fu.length, ?_, ?_⟩
      · rintro σ' H' ⟨u5, u6, cf', fu, fa, rfl, s2, hfa, ec2, efa, L2, el⟩
        refine ⟨_, ?_, _, u5, u6, cf', fu, fa, rfl, s2, hfa, ec2, efa, L2, rfl⟩
        have h1 := L2.tree.length
        rw [em, if_neg (show ¬ ly.length = 0 by omega)]
        by_cases hf0 : fu.length = 0
        · rw [if_pos hf0]; omega
        · rw [if_neg hf0]; omega
      -- further = []
      refine ⟨by decide, fun fa hfa => ?_⟩
      have hfaH : H fa = none := s1.free hfa
      have ncf : c ≠ fa := ne_of_none ec hfa
      have nlf : la ≠ fa := ne_of_none ela hfa
      have ncla : c ≠ la := ne_of ec ela (by intro z; cases z)
      -- for better in layer
      refine ⟨_, rfl, la, rfl, ⟨_, SqL.of (by rw [upd_ne nlf]; exact ela)⟩, for_list (xs := ly.map V.str) (fun i σ H' => ∃ u5 u6 cf' fu, σ = [some (.ref d), some (.str st), some (.ref c), some (.ref la), some (.ref fa), u5, u6] ∧ Same H H' ∧ H' la = some (.lst (ly.map V.str)) ∧ H' c = some (.dK (kvS cf')) ∧ H' fa = some (.lst (fu.map V.str)) ∧ Lay ps st cf' (ly.drop i) fu ∧ cf'.length = cf.length + fu.length)
        ⟨_, _, cf, [], rfl, s1.trans (same_new hfa), by rw [upd_ne nlf]; exact ela, by rw [upd_ne ncf]; exact ec, upd_same, L, rfl⟩ (fun i σ H' _ ⟨_, _, _, _, _, _, e, _⟩ => SqL.of e) ?_ ?_⟩
      · rintro i x σ H2 hx ⟨u5, u6, cf', fu, rfl, s2, ela2, ec2, efa2, L2, el⟩
        obtain ⟨b, hb, rfl⟩ : ∃ b, ly[i]? = some b ∧ x = V.str b := by
          rw [List.getElem?_map] at hx
          obtain ⟨b, h1, h2⟩ := Option.map_eq_some_iff.mp hx
          exact ⟨b, h1, h2.symm⟩
        have hil : i < ly.length := (List.getElem?_eq_some_iff.mp hb).1
        have edr : ly.drop i = b :: ly.drop (i + 1) := by
          rw [List.drop_eq_getElem_cons hil]
          rw [List.getElem?_eq_getElem hil] at hb
          rw [Option.some.inj hb]
        rw [edr] at L2
        have W2 := W.same s2
        -- worse_labels.get(better, [])
        refine ⟨_, rfl, Or.inr (Or.inr (Or.inl ⟨rfl, Or.inl ⟨_, W2.dict⟩⟩)), _, rfl, by decide, fun na hna => ?_⟩
        have hnaH : H na = none := s2.free hna
        have s3 := s2.trans (same_new (o := .lst []) hna)
        have nac : c ≠ na := ne_of_none ec2 hna
        have naf : fa ≠ na := ne_of_none efa2 hna
        have nal : la ≠ na := ne_of_none ela2 hna
        have W3 := W.same s3
        obtain ⟨wa, hwa, ewa, nwc, nwf, nwl⟩ : ∃ wa, ((ks.lookup b).map V.ref).getD (.ref na) = .ref wa ∧ (upd H2 na (.lst [])) wa = some (.lst ((worseOf ps b).map V.str)) ∧ wa ≠ c ∧ wa ≠ fa ∧ wa ≠ la := by
          cases e : ks.lookup b with
          | none => exact ⟨na, rfl, by rw [upd_same, W.worse.2 e]; rfl, nac.symm, naf.symm, nal.symm⟩
          | some a0 =>
            have h0 := W.worse.1 a0 e
            exact ⟨a0, rfl, s3 _ _ h0, ne_of_none h0 hc, ne_of_none h0 hfaH, ne_of_none h0 hlaH⟩
        refine ⟨d, _, _, ((ks.lookup b).map V.ref), rfl, rfl, by rw [← val_R]; exact DGet.k (k := Sum.inr b) W3.dict, ?_⟩
        rw [hwa]
        refine ⟨wa, rfl, ⟨_, SqL.of ewa⟩, for_list (xs := (worseOf ps b).map V.str) (fun j σ H' => ∃ u6 cf' fu, σ = [some (.ref d), some (.str st), some (.ref c), some (.ref la), some (.ref fa), some (.str b), u6] ∧ Same H H' ∧ H' wa = some (.lst ((worseOf ps b).map V.str)) ∧ H' la = some (.lst (ly.map V.str)) ∧ H' c = some (.dK (kvS cf')) ∧ H' fa = some (.lst (fu.map V.str)) ∧ LayB ps st b ((worseOf ps b).take j) cf' (ly.drop (i + 1)) fu ∧ cf'.length = cf.length + fu.length)
          ⟨_, cf', fu, rfl, s3, ewa, by rw [upd_ne nal]; exact ela2, by rw [upd_ne nac]; exact ec2, by rw [upd_ne naf]; exact efa2, L2.into, el⟩ (fun j σ H' _ ⟨_, _, _, _, _, e, _⟩ => SqL.of e) ?_ ?_⟩
        · rintro j y σ H4 hy ⟨u6, cf2, fu2, rfl, s4, ewa4, ela4, ec4, efa4, L4, el4⟩
          obtain ⟨w, hw, rfl⟩ : ∃ w, (worseOf ps b)[j]? = some w ∧ y = V.str w := by
            rw [List.getElem?_map] at hy
            obtain ⟨w, h1, h2⟩ := Option.map_eq_some_iff.mp hy
            exact ⟨w, h1, h2.symm⟩
          have etk : (worseOf ps b).take (j + 1) = (worseOf ps b).take j ++ [w] := by rw [List.take_succ, hw]; rfl
          have hmem : (b, w) ∈ ps := mem_worseOf.mp (List.mem_of_getElem? hw)
          refine ⟨_, rfl, _, rfl, c, _, rfl, DGet.k (k := Sum.inr w) ec4, _, rfl, ?_⟩
          rw [val_S]
          cases e : cf2.lookup w with
          | some z =>
            refine iteF ?_
            have hk : w ∈ cf2.map (·.1) := List.mem_map.mpr ⟨_, look_mem e, rfl⟩
            exact ⟨_, cf2, fu2, rfl, s4, ewa4, ela4, ec4, efa4, by rw [etk]; exact L4.known hk, el4⟩
          | none =>
            refine iteT ?_
            have hk : w ∉ cf2.map (·.1) := lookA_none e
            have hv : valV (kvS cf2) (Sum.inr w) = none := by rw [val_S, e]; rfl
            have L5 := L4.more hk hmem
            have hcl := L4.tree.length
            have hfl : fu2.length ≤ 100 := by omega
            have ncf' : c ≠ fa := ne_of ec4 efa4 (by intro z; cases z)
            refine ⟨_, rfl, _, rfl, _, rfl, c, _, rfl, DPut.k (k := Sum.inr w) ec4 (small1000 (by rw [List.length_map]; omega)), ?_⟩
            have efa5 : (upd H4 c (.dK (putK (kvS cf2) (Sum.inr w) (.str b)))) fa = some (.lst (fu2.map V.str)) := by rw [upd_ne ncf'.symm]; exact efa4
            refine ⟨_, rfl, Or.inl ⟨rfl, _, SqL.of efa5⟩, _, rfl, fa, _, _, rfl, rfl, efa5, small1000 (by rw [List.length_map]; omega), ?_⟩
            refine ⟨_, cf2 ++ [(w, b)], fu2 ++ [w], rfl, fun z o ez => ?_, ?_, ?_, ?_, ?_, by rw [etk]; exact L5, by rw [List.length_append, List.length_append, el4]; simp; omega⟩
            · rw [upd_ne (ne_of_none ez hfaH), upd_ne (ne_of_none ez hc)]
              exact s4 z o ez
            · rw [upd_ne nwf, upd_ne nwc]; exact ewa4
            · rw [upd_ne nlf, upd_ne ncla.symm]; exact ela4
            · rw [upd_ne ncf', upd_same, putK_new _ hv]
              simp [kvS]
            · rw [upd_same, List.map_append]; rfl
        · rintro σ H4 ⟨u6, cf2, fu2, rfl, s4, ewa4, ela4, ec4, efa4, L4, el4⟩
          rw [List.length_map, List.take_length] at L4
          exact ⟨_, _, cf2, fu2, rfl, s4, ela4, ec4, efa4, L4.out, el4⟩
      · rintro σ H2 ⟨u5, u6, cf', fu, rfl, s2, ela2, ec2, efa2, L2, el⟩
        rw [List.length_map, List.drop_length] at L2
        exact ⟨_, rfl, _, _, cf', fu, fa, rfl, s2, hfaH, ec2, efa2, L2.next, el⟩
theorem call_reached {f : Addr} {fd : FuncData} (B : Blt mg) (ER : Ers K mg)  (F : Fun K "reached" "reached" s_reached f fd) (hm : mg "reached" = some (.ref f)) : Callee P w K mg base "reached" 1 ["worse_labels", "start"] (sp_reached K) :=
  ⟨f, fd, ok_reached B ER  F, hm, F.kp, F.binds fun _ _ _ _ _ _ us hl => (by obtain ⟨x0, x1, rfl⟩ := len_2 hl; rfl)⟩
def ltP (p q : Str × Str) : Prop := ltS p.1 q.1 ∨ (p.1 = q.1 ∧ ltS p.2 q.2)
/-- all that follows from the pairs, sorted -/
structure OrdOf (ps ord : List (Str × Str)) : Prop where
  mem : ∀ a b, (a, b) ∈ ord ↔ Path ps a b
  srt : ord.Pairwise ltP
structure OrdUp (ps : List (Str × Str)) (kk : List Str) (ord : List (Str × Str)) : Prop where
  mem : ∀ a b, (a, b) ∈ ord ↔ a ∈ kk ∧ Path ps a b
  srt : ord.Pairwise ltP
theorem OrdUp.more {ps : List (Str × Str)} {kk ss : List Str} {b : Str} {ord : List (Str × Str)} (O : OrdUp ps kk ord) (hk : (kk ++ [b]).Pairwise ltS) (hs : ss.Pairwise ltS) (hm : ∀ w, w ∈ ss ↔ Path ps b w) : OrdUp ps (kk ++ [b]) (ord ++ ss.map fun w => (b, w)) := by
  refine ⟨fun x y => ?_, ?_⟩
  · rw [List.mem_append, O.mem, List.mem_append, List.mem_singleton, List.mem_map]
    constructor
    · rintro (⟨h1, h2⟩ | ⟨w, hw, e⟩)
      · exact ⟨.inl h1, h2⟩
      · cases e
        exact ⟨.inr rfl, (hm _).mp hw⟩
    · rintro ⟨h1 | h1, h2⟩
      · exact .inl ⟨h1, h2⟩
      · subst h1
        exact .inr ⟨y, (hm y).mpr h2, rfl⟩
  · rw [List.pairwise_append] at hk ⊢
    refine ⟨O.srt, ?_, fun x hx y hy => ?_⟩
    · rw [List.pairwise_map]
      exact hs.imp fun {x y} h => .inr ⟨rfl, h⟩
    · obtain ⟨w, _, rfl⟩ := List.mem_map.mp hy
      obtain ⟨x1, x2⟩ := x
      exact .inl (hk.2.2 x1 ((O.mem x1 x2).mp hx).1 b (by simp))
theorem perm_mem {l m : List Str} (h : l.Perm m) {x : Str} : x ∈ l ↔ x ∈ m := h.mem_iff

def sp_all_that_follows (K : PySem.W.Frag) : Sp := fun vs H Q _ => ∃ (p : Addr) (ps : List (Str × Str)), vs = [.ref p] ∧ Prs K H p ps ∧ ps.length ≤ 60 ∧ ∀ (ts : List Addr) (ord : List (Str × Str)) (D : Addr) (H' : Hp), OrdOf ps ord → ord.length ≤ 4000 → H D = none → Same H H' → H' D = some (.lst (ts.map V.ref)) → Tups H' ts ord → Q (.ref D) H'
set_option maxHeartbeats 4000000 in
seal L2.PE L2.PA L2.PS L2.PSs L2.PT L2.PW L2.PC L2.PG L2.PGs L2.PI L2.PF L2.PSet L2.OpR L2.UnR L2.CallR L2.MtR L2.IxR L2.SlR L2.PO in
theorem ok_all_that_follows {f : Addr} {fd : FuncData} (B : Blt mg) (ER : Ers K mg) (c_worse_by_better : Callee P w K mg base "worse_by_better" 1 ["pairs"] (sp_worse_by_better K)) (c_reached : Callee P w K mg base "reached" 1 ["worse_labels", "start"] (sp_reached K)) (F : Fun K "all_that_follows" "all_that_follows" s_all_that_follows f fd) : FnOk P w K mg base CX0 2 f fd ["pairs"] (sp_all_that_follows K) := by
  refine F.ok sc_all_that_follows (fun vs H Q E h => ?_) (fun cdv A outer s H vs Q E hr h => ?_)
  · obtain ⟨p, ps, rfl, _⟩ := h
    rfl
  · obtain ⟨p, ps, rfl, hP, hlen, q⟩ := h
    refine ⟨_, (pss_cons (ps_set (i := 1) sc_all_that_follows.nd (pe_fn c_worse_by_better (pa_cons (pv 0) pa_nil)))
      (pss_cons (ps_set (i := 2) sc_all_that_follows.nd (pe_lst pa_nil))
      (pss_cons (ps_for PassesOwn.never rfl (pi_list (pe_callB (call_sortD rfl) B.b_sorted (pa_cons (pv 1) pa_nil))) (pg_name (i := 3) sc_all_that_follows.nd) (pss_one (ps_for PassesOwn.never rfl (pi_list (pe_callB (call_sortD rfl) B.b_sorted (pa_cons (pe_fn c_reached (pa_cons (pv 1) (pa_cons (pv 3) pa_nil))) pa_nil))) (pg_name (i := 4) sc_all_that_follows.nd) (pss_one (ps_expr (pe_bm PySem.F.plainAttrs_list PySem.F.slot_list_append PySem.F.type_list_append mr_append (pv 2) (pa_cons (pe_tup (pa_cons (pv 3) (pa_cons (pv 4) pa_nil))) pa_nil)))))))
      (pss_one (ps_ret (pv 2)))))), ?_⟩
    refine ⟨_, rfl, p, ps, rfl, hP, by omega, fun d ks H1 hd s1 W hkl => ?_⟩
    refine ⟨by decide, fun D hD => ?_⟩
    have hDH : H D = none := s1.free hD
    have s2 := s1.trans (same_new (o := .lst []) hD)
    have W2 := W.same (same_new (o := .lst []) hD)
    have eD2 : (upd H1 D (.lst [])) D = some (.lst []) := upd_same
    generalize upd H1 D (.lst []) = H2 at s2 W2 eD2 ⊢
    have hkeys : (kvR ks).map (·.1) = (ks.map (·.1)).map Sum.inr := by rw [List.map_map, List.map_map]; rfl
    refine ⟨_, rfl, d, _, ks.map (·.1), rfl, W2.dict, hkeys, by rw [List.length_map]; omega, fun S kk hkp hks hS => ?_⟩
    have ndk : kk.Nodup := hkp.nodup_iff.mpr W2.nd
    have pwk : kk.Pairwise ltS := sorted_pw hks ndk
    have lkk : kk.length ≤ 60 := by rw [hkp.length_eq, List.length_map]; omega
    have s3 := same_new (o := .lst (kk.map V.str)) hS
    have eS : (upd H2 S (.lst (kk.map V.str))) S = some (.lst (kk.map V.str)) := upd_same
    have hSH : H S = none := s2.free hS
    have nSD : S ≠ D := fun z => by rw [z, eD2] at hS; cases hS
    have eD3 : (upd H2 S (.lst (kk.map V.str))) D = some (.lst []) := s3 _ _ eD2
    have W3 := W2.same s3
    have s03 := s2.trans s3
    generalize upd H2 S (.lst (kk.map V.str)) = H3 at s3 eS eD3 W3 s03 ⊢
    have hdD : d ≠ D := ne_of W3.dict eD3 (by intro z; cases z)
    refine ⟨S, rfl, ⟨_, SqL.of eS⟩, for_list (xs := kk.map V.str) (fun i σ H' => ∃ u3 u4 ts ord, σ = [some (.ref p), some (.ref d), some (.ref D), u3, u4] ∧ Same H H' ∧ H' S = some (.lst (kk.map V.str)) ∧ WBB H' d ps ks ∧ H' D = some (.lst (ts.map V.ref)) ∧ Tups H' ts ord ∧ OrdUp ps (kk.take i) ord ∧ ord.length ≤ 60 * i)
      ⟨none, none, [], [], rfl, s03, eS, W3, eD3, Tups.nil, ⟨fun a b => by simp, List.Pairwise.nil⟩, Nat.le_refl _⟩ (fun i σ H' _ ⟨_, _, _, _, _, _, e, _⟩ => SqL.of e) ?_ ?_⟩
    · rintro i x σ H4 hx ⟨u3, u4, ts, ord, rfl, s4, eS4, W4, eD4, T4, O4, ol⟩
      obtain ⟨b, hb, rfl⟩ := map_at hx
      have hil : i < kk.length := (List.getElem?_eq_some_iff.mp hb).1
      have etk : kk.take (i + 1) = kk.take i ++ [b] := by rw [List.take_succ, hb]; rfl
      refine ⟨_, rfl, _, rfl, d, ks, ps, b, rfl, W4, by omega, fun c cf H5 hc s5 ec Tr Fu => ?_⟩
      have hcf : cf.length ≤ 60 := Nat.le_trans Tr.length hlen
      have hck : (kvS cf).map (·.1) = (cf.map (·.1)).map Sum.inr := by rw [List.map_map, List.map_map]; rfl
      refine ⟨c, _, cf.map (·.1), rfl, ec, hck, by rw [List.length_map]; omega, fun S2 ss hsp hss hS2 => ?_⟩
      have nds : ss.Nodup := hsp.nodup_iff.mpr Tr.nd
      have pws : ss.Pairwise ltS := sorted_pw hss nds
      have lss : ss.length ≤ 60 := by rw [hsp.length_eq, List.length_map]; exact hcf
      have hms : ∀ w, w ∈ ss ↔ Path ps b w := fun w => (perm_mem hsp).trans (Tr.iff Fu)
      have s6 := s5.trans (same_new (o := .lst (ss.map V.str)) hS2)
      have eS2 : (upd H5 S2 (.lst (ss.map V.str))) S2 = some (.lst (ss.map V.str)) := upd_same
      have nS2D : S2 ≠ D := fun z => by rw [z, s5 _ _ eD4] at hS2; cases hS2
      generalize upd H5 S2 (.lst (ss.map V.str)) = H6 at s6 eS2 ⊢
      refine ⟨S2, rfl, ⟨_, SqL.of eS2⟩, for_list (xs := ss.map V.str) (fun j σ H' => ∃ u4 ts, σ = [some (.ref p), some (.ref d), some (.ref D), some (.str b), u4] ∧ Same H H' ∧ H' S = some (.lst (kk.map V.str)) ∧ H' S2 = some (.lst (ss.map V.str)) ∧ WBB H' d ps ks ∧ H' D = some (.lst (ts.map V.ref)) ∧ Tups H' ts (ord ++ (ss.take j).map fun w => (b, w)))
        ⟨_, ts, rfl, s4.trans s6, s6 _ _ eS4, eS2, W4.same s6, s6 _ _ eD4, by rw [List.take_zero, List.map_nil, List.append_nil]; exact T4.same s6⟩ (fun j σ H' _ ⟨_, _, _, _, _, e, _⟩ => SqL.of e) ?_ ?_⟩
      · rintro j y σ H7 hy ⟨u4, ts7, rfl, s7, eS7, eS27, W7, eD7, T7⟩
        obtain ⟨w, hw, rfl⟩ := map_at hy
        have hjl : j < ss.length := (List.getElem?_eq_some_iff.mp hw).1
        refine ⟨_, rfl, Or.inl ⟨rfl, _, SqL.of eD7⟩, _, rfl, _, rfl, two_le, fun t ht => ?_⟩
        have s8 := same_new (o := .tup [.str b, .str w]) ht
        have T8 : Tups (upd H7 t (.tup [.str b, .str w])) (ts7 ++ [t]) (ord ++ (ss.take (j + 1)).map fun w => (b, w)) := by
          rw [List.take_succ, hw, List.map_append, ← List.append_assoc]
          exact (T7.same s8).snoc (p := (b, w)) upd_same
        have eD8 := s8 _ _ eD7
        have nD := T8.ne eD8
        have W8 := W7.same s8
        refine ⟨D, _, _, rfl, rfl, eD8, by rw [List.length_map, T7.len, List.length_append, List.length_map, List.length_take]; exact Nat.lt_of_lt_of_le (show _ < 5000 by omega) (by decide), ?_⟩
        refine ⟨_, ts7 ++ [t], rfl, fun z o e => ?_, ?_, ?_, ?_, by rw [upd_same, List.map_append]; rfl, T8.upd nD⟩
        · rw [upd_ne (ne_of_none e hDH)]; exact s8 _ _ (s7 z o e)
        · rw [upd_ne nSD]; exact s8 _ _ eS7
        · rw [upd_ne nS2D]; exact s8 _ _ eS27
        · refine ⟨by rw [upd_ne hdD]; exact W8.dict, W8.nd, fun r hr => ?_, W8.all, W8.adr⟩
          have nr : r.2 ≠ D := fun z => ne_of_none (W.lst r hr) hD z
          rw [upd_ne nr]
          exact W8.lst r hr
      · rintro σ H7 ⟨u4, ts7, rfl, s7, eS7, eS27, W7, eD7, T7⟩
        rw [List.length_map, List.take_length] at T7
        refine ⟨_, _, ts7, _, rfl, s7, eS7, W7, eD7, T7, ?_, by rw [List.length_append, List.length_map]; omega⟩
        rw [etk]
        refine O4.more ?_ pws hms
        rw [← etk]
        exact pwk.sublist (List.take_sublist _ _)
    · rintro σ H4 ⟨u3, u4, ts, ord, rfl, s4, eS4, W4, eD4, T4, O4, ol⟩
      rw [List.length_map, List.take_length] at O4
      rw [List.length_map] at ol
      refine ⟨_, rfl, q ts ord D H4 ⟨fun a b => ?_, O4.srt⟩ (by omega) hDH s4 eD4 T4⟩
      rw [O4.mem]
      refine ⟨fun h => h.2, fun h => ⟨?_, h⟩⟩
      obtain ⟨pr, hpr, e⟩ := List.mem_map.mp h.fst
      have := W4.all pr hpr
      rw [e] at this
      exact (perm_mem hkp).mpr this
theorem call_all_that_follows {f : Addr} {fd : FuncData} (B : Blt mg) (ER : Ers K mg) (c_worse_by_better : Callee P w K mg base "worse_by_better" 1 ["pairs"] (sp_worse_by_better K)) (c_reached : Callee P w K mg base "reached" 1 ["worse_labels", "start"] (sp_reached K)) (F : Fun K "all_that_follows" "all_that_follows" s_all_that_follows f fd) (hm : mg "all_that_follows" = some (.ref f)) : Callee P w K mg base "all_that_follows" 2 ["pairs"] (sp_all_that_follows K) :=
  ⟨f, fd, ok_all_that_follows B ER c_worse_by_better c_reached F, hm, F.kp, F.binds fun _ _ _ _ _ _ us hl => (by obtain ⟨x0, rfl⟩ := len_1 hl; rfl)⟩

def sp_order_of (K : PySem.W.Frag) : Sp := fun vs H Q _ => ∃ (p : Addr) (ps : List (Str × Str)), vs = [.ref p] ∧ Prs K H p ps ∧ ps.length ≤ 60 ∧ (∀ a, ¬ Path ps a a) ∧ ∀ (ts : List Addr) (ord : List (Str × Str)) (D : Addr) (H' : Hp), OrdOf ps ord → ord.length ≤ 4000 → H D = none → Same H H' → H' D = some (.lst (ts.map V.ref)) → Tups H' ts ord → Q (.ref D) H'
set_option maxHeartbeats 4000000 in
seal L2.PE L2.PA L2.PS L2.PSs L2.PT L2.PW L2.PC L2.PG L2.PGs L2.PI L2.PF L2.PSet L2.OpR L2.UnR L2.CallR L2.MtR L2.IxR L2.SlR L2.PO in
theorem ok_order_of {f : Addr} {fd : FuncData} (B : Blt mg) (ER : Ers K mg) (c_all_that_follows : Callee P w K mg base "all_that_follows" 2 ["pairs"] (sp_all_that_follows K)) (F : Fun K "order_of" "order_of" s_order_of f fd) : FnOk P w K mg base CX0 3 f fd ["pairs"] (sp_order_of K) := by
  refine F.ok sc_order_of (fun vs H Q E h => ?_) (fun cdv A outer s H vs Q E hr h => ?_)
  · obtain ⟨p, ps, rfl, _⟩ := h
    rfl
  · obtain ⟨p, ps, rfl, hP, hlen, hac, q⟩ := h
    refine ⟨_, (pss_cons (ps_set (i := 1) sc_order_of.nd (pe_fn c_all_that_follows (pa_cons (pv 0) pa_nil)))
      (pss_cons (ps_for PassesOwn.never rfl (pi_list (pv 1)) (pg_tup (n := 2) rfl (pgs_cons (pg_name (i := 2) sc_order_of.nd) (pgs_cons (pg_name (i := 3) sc_order_of.nd) pgs_nil))) (pss_one (ps_if (pt_cmpR op_eq (pv 2) (pv 3) (nomark _)) (pss_one ps_never) pss_nil)))
      (pss_one (ps_ret (pv 1))))), ?_⟩
    refine ⟨_, rfl, p, ps, rfl, hP, hlen, fun ts ord D H1 O hol hD s1 eD T => ?_⟩
    refine ⟨_, rfl, D, rfl, ⟨_, SqL.of eD⟩, for_list (xs := ts.map V.ref) (fun i σ H' => ∃ u2 u3, σ = [some (.ref p), some (.ref D), u2, u3] ∧ H' = H1) ⟨none, none, rfl, rfl⟩ (fun i σ H' _ ⟨_, _, _, e⟩ => by rw [e]; exact SqL.of eD) ?_ ?_⟩
    · rintro i x σ H2 hx ⟨u2, u3, rfl, rfl⟩
      rw [List.getElem?_map] at hx
      obtain ⟨t, ht, rfl⟩ := Option.map_eq_some_iff.mp hx
      have hil : i < ord.length := by rw [← T.len]; exact (List.getElem?_eq_some_iff.mp ht).1
      have hp := T.at_ i t ord[i] ht (List.getElem?_eq_getElem hil)
      have hne : ¬ (ord[i].1 = ord[i].2) := fun z => by
        have hm : (ord[i].1, ord[i].2) ∈ ord := List.getElem_mem hil
        have := (O.mem _ _).mp hm
        rw [← z] at this
        exact hac _ this
      refine ⟨t, _, rfl, SqT.of hp, rfl, _, _, rfl, _, _, rfl, rfl, ?_⟩
      refine ⟨_, rfl, _, rfl, rfl, _, rfl, ?_⟩
      rw [show decide (V.str ord[i].1 = V.str ord[i].2) = false from decide_eq_false fun z => hne (V.str.inj z)]
      exact iteF ⟨_, _, rfl, rfl⟩
    · rintro σ H2 ⟨u2, u3, rfl, rfl⟩
      exact ⟨_, rfl, q ts ord D _ O hol hD s1 eD T⟩
theorem call_order_of {f : Addr} {fd : FuncData} (B : Blt mg) (ER : Ers K mg) (c_all_that_follows : Callee P w K mg base "all_that_follows" 2 ["pairs"] (sp_all_that_follows K)) (F : Fun K "order_of" "order_of" s_order_of f fd) (hm : mg "order_of" = some (.ref f)) : Callee P w K mg base "order_of" 3 ["pairs"] (sp_order_of K) :=
  ⟨f, fd, ok_order_of B ER c_all_that_follows F, hm, F.kp, F.binds fun _ _ _ _ _ _ us hl => (by obtain ⟨x0, rfl⟩ := len_1 hl; rfl)⟩

def sp_sorted_state (K : PySem.W.Frag) : Sp := fun vs H Q _ => ∃ (g e : Addr) (s : Stt), vs = [.ref g, .ref e] ∧ Goes K H g s.1 ∧ SqL K H e (s.2.map V.str) ∧ s.1.length ≤ 8 ∧ s.2.length ≤ 8 ∧
  ∀ (t G E : Addr) (r : Stt) (H' : Hp), SrtOf s r → H t = none → H G = none → H E = none → Same H H' → H' t = some (.tup [.ref G, .ref E]) → Goes K H' G r.1 → (∃ xs, H' G = some (.lst xs)) → H' E = some (.lst (r.2.map V.str)) → Q (.ref t) H'
set_option maxHeartbeats 4000000 in
seal L2.PE L2.PA L2.PS L2.PSs L2.PT L2.PW L2.PC L2.PG L2.PGs L2.PI L2.PF L2.PSet L2.OpR L2.UnR L2.CallR L2.MtR L2.IxR L2.SlR L2.PO in
theorem ok_sorted_state {f : Addr} {fd : FuncData} (B : Blt mg) (ER : Ers K mg)  (F : Fun K "sorted_state" "sorted_state" s_sorted_state f fd) : FnOk P w K mg base CX0 1 f fd ["goes", "ends"] (sp_sorted_state K) := by
  refine F.ok sc_sorted_state (fun vs H Q E h => ?_) (fun cdv A outer s H vs Q E hr h => ?_)
  · obtain ⟨g, e, s, rfl, _⟩ := h
    rfl
  · obtain ⟨g, e, s, rfl, ⟨gv, hg, hgd⟩, he, l1, l2, q⟩ := h
    have lgv := hgd.len_map
    refine ⟨_, (pss_one (ps_ret (pe_tup (pa_cons (pe_callB (call_sortP strC intC) B.b_sorted (pa_cons (pe_comp (g := gTup K 2 (gCons (gName 0) (gCons (gName 1) gNil))) rfl sorted_state_cs1 (pi_list (pv 0)) (fun _ _ _ _ _ => (pg_tup (n := 2) rfl (pgs_cons (pg_name (i := 0) sorted_state_cs1.nd) (pgs_cons (pg_name (i := 1) sorted_state_cs1.nd) pgs_nil)))) (fun _ _ _ _ _ => pf_nil) (fun _ _ _ _ _ => (pe_tup (pa_cons (pv 0) (pa_cons (pv 1) pa_nil))))) pa_nil)) (pa_cons (pe_callB call_sortS B.b_sorted (pa_cons (pv 1) pa_nil)) pa_nil))))), ?_⟩
    refine ⟨_, rfl, g, rfl, ⟨_, hg⟩, comp_listI (xs := gv) (fun D i ys H' => ∃ ts : List Addr, ts.length = i ∧ Same H H' ∧ H' D = some (.lst ys) ∧ ys = ts.map V.ref ∧ (∀ a ∈ ts, a ≠ D) ∧ ∀ (n : Nat) (a : Addr) (p : Str × Int), ts[n]? = some a → s.1[n]? = some p → H' a = some (.tup [.str p.1, .int p.2]))
      (fun D hD => ⟨[], rfl, same_new hD, upd_same, rfl, fun a ha => by simp at ha, fun n a p hn => by simp at hn⟩) (fun D i ys H' ⟨_, _, s1, _⟩ => s1.seq hg) (fun D i x ys H2 R hD0 hx hv k => ?_) (fun D ys H2 hD0 hv => ?_)⟩
    · obtain ⟨ts, hts, s2, eD, rfl, hnd, hat⟩ := hv
      obtain ⟨p, t, hp, rfl, ht⟩ := hgd.goes_get hx
      have hil : i < s.1.length := (List.getElem?_eq_some_iff.mp hp).1
      refine ⟨t, _, rfl, s2.seqT ht, rfl, _, _, rfl, _, _, rfl, rfl, ?_⟩
      refine ⟨_, rfl, _, rfl, two_le, fun z hz => ?_⟩
      have nz : z ≠ D := fun y => by rw [y, eD] at hz; cases hz
      have s3 := same_new (o := .tup [.str p.1, .int p.2]) hz
      refine k _ _ (s3 _ _ eD) (by rw [List.length_map, hts]; exact small1000 (by omega)) ⟨ts ++ [z], by rw [List.length_append, hts]; rfl, fun b o e => ?_, upd_same, by rw [List.map_append]; rfl, fun a ha => ?_, fun n a p' hn hp' => ?_⟩
      · rw [upd_ne (ne_of_none e hD0)]; exact s3 _ _ (s2 b o e)
      · rcases List.mem_append.mp ha with ha | ha
        · exact hnd a ha
        · rw [List.mem_singleton.mp ha]; exact nz
      · rcases Nat.lt_or_ge n ts.length with hlt | hge
        · rw [List.getElem?_append_left hlt] at hn
          rw [upd_ne (hnd a (List.mem_of_getElem? hn))]
          exact s3 _ _ (hat n a p' hn hp')
        · have hn1 : n < (ts ++ [z]).length := (List.getElem?_eq_some_iff.mp hn).1
          rw [List.length_append, List.length_singleton] at hn1
          obtain rfl : n = i := by omega
          rw [hp] at hp'; cases hp'
          rw [List.getElem?_append_right (by omega), hts, Nat.sub_self] at hn
          cases hn
          rw [upd_ne nz, upd_same]
    · obtain ⟨ts, hts, s2, eD, rfl, hnd, hat⟩ := hv
      rw [lgv] at hts
      obtain ⟨zs, z1, z2, z3⟩ := zip_rows (K := K) hts hat
      have lzs : zs.length = s.1.length := by rw [← z2, List.length_map]
      refine ⟨D, zs, rfl, SqL.of (by rw [z1]; exact eD), by omega, z3, fun G zs' hp hw hG => ?_⟩
      have s3 := same_new (o := .lst (zs'.map (·.1))) hG
      have eG : (upd H2 G (.lst (zs'.map (·.1)))) G = some (.lst (zs'.map (·.1))) := upd_same
      have hGH : H G = none := s2.free hG
      have z3' : ∀ z ∈ zs', RowGo K (upd H2 G (.lst (zs'.map (·.1)))) z := fun z hz => by
        obtain ⟨t, a1, a2⟩ := z3 z (hp.mem_iff.mp hz)
        exact ⟨t, a1, s3.seqT a2⟩
      have s23 := s2.trans s3
      generalize upd H2 G (.lst (zs'.map (·.1))) = H3 at s3 eG z3' s23 ⊢
      refine ⟨_, rfl, e, s.2, rfl, s23.seq he, by omega, fun E es hpe hwe hE => ?_⟩
      have s4 := same_new (o := .lst (es.map V.str)) hE
      have eE : (upd H3 E (.lst (es.map V.str))) E = some (.lst (es.map V.str)) := upd_same
      have hEH : H E = none := s23.free hE
      have s24 := s23.trans s4
      have eG4 := s4 _ _ eG
      have z4 : ∀ z ∈ zs', RowGo K (upd H3 E (.lst (es.map V.str))) z := fun z hz => by
        obtain ⟨t, a1, a2⟩ := z3' z hz
        exact ⟨t, a1, s4.seqT a2⟩
      generalize upd H3 E (.lst (es.map V.str)) = H4 at s4 eE s24 eG4 z4 ⊢
      refine ⟨two_le, fun t ht => ?_⟩
      have s5 := same_new (o := .tup [.ref G, .ref E]) ht
      refine q t G E (zs'.map (·.2), es) _ ⟨by rw [← z2]; exact hp.map _, hpe, hw, hwe⟩ (s24.free ht) hGH hEH (s24.trans s5) upd_same ⟨_, SqL.of (s5 _ _ eG4), ?_⟩ ⟨_, s5 _ _ eG4⟩ (s5 _ _ eE)
      exact (rows_dts zs' z4).same s5
theorem call_sorted_state {f : Addr} {fd : FuncData} (B : Blt mg) (ER : Ers K mg)  (F : Fun K "sorted_state" "sorted_state" s_sorted_state f fd) (hm : mg "sorted_state" = some (.ref f)) : Callee P w K mg base "sorted_state" 1 ["goes", "ends"] (sp_sorted_state K) :=
  ⟨f, fd, ok_sorted_state B ER  F, hm, F.kp, F.binds fun _ _ _ _ _ _ us hl => (by obtain ⟨x0, x1, rfl⟩ := len_2 hl; rfl)⟩

def sp_table_of (K : PySem.W.Frag) : Sp := fun vs H Q _ => ∃ (a p : Addr) (ss : List Stt) (ps : List (Str × Str)) (n : Int), vs = [.ref a, .int n, .ref p] ∧ StE K H a ss ∧ Stts K H a ss ∧ Fits ss ∧ Prs K H p ps ∧ ps.length ≤ 40 ∧ (∀ x ∈ labelsOf ss ++ labelsP ps, nameB x = true) ∧
  0 ≤ n ∧ n < ss.length ∧ (∀ s ∈ ss, ∀ g ∈ s.1, 0 ≤ g.2 ∧ g.2 < ss.length) ∧ (∀ s ∈ ss, (s.1.map (·.1)).Nodup ∧ s.2.Nodup) ∧ (∀ x, ¬ Path ps x x) ∧
  ∀ (t : Addr) (rs : List Stt) (ord : List (Str × Str)) (H' : Hp), rs.length = ss.length → (∀ (i : Nat) (s r : Stt), ss[i]? = some s → rs[i]? = some r → SrtOf s r) → OrdOf ps ord → H t = none → Same H H' → Tab K (fun x => H x = none) H' t rs n ord → Q (.ref t) H'
set_option maxHeartbeats 4000000 in
seal L2.PE L2.PA L2.PS L2.PSs L2.PT L2.PW L2.PC L2.PG L2.PGs L2.PI L2.PF L2.PSet L2.OpR L2.UnR L2.CallR L2.MtR L2.IxR L2.SlR L2.PO in
theorem ok_table_of {f : Addr} {fd : FuncData} (B : Blt mg) (ER : Ers K mg) (c_refuse_too_great : Callee P w K mg base "refuse_too_great" 1 ["states", "pairs"] (sp_refuse_too_great K)) (c_refuse_no_names : Callee P w K mg base "refuse_no_names" 3 ["states", "pairs"] (sp_refuse_no_names K)) (c_refuse_no_places : Callee P w K mg base "refuse_no_places" 3 ["states", "inner"] (sp_refuse_no_places K)) (c_refuse_twice : Callee P w K mg base "refuse_twice" 2 ["states"] (sp_refuse_twice K)) (c_order_of : Callee P w K mg base "order_of" 3 ["pairs"] (sp_order_of K)) (c_sorted_state : Callee P w K mg base "sorted_state" 1 ["goes", "ends"] (sp_sorted_state K)) (F : Fun K "table_of" "table_of" s_table_of f fd) : FnOk P w K mg base CX0 4 f fd ["states", "inner", "pairs"] (sp_table_of K) := by
  refine F.ok sc_table_of (fun vs H Q E h => ?_) (fun cdv A outer s H vs Q E hr h => ?_)
  · obtain ⟨a, p, ss, ps, n, rfl, _⟩ := h
    rfl
  · obtain ⟨a, p, ss, ps, n, rfl, hSE, hS, hF, hP, hpl, hN, n0, n1, hG, hT, hR, q⟩ := h
    have hS' := hS
    obtain ⟨vs, hV, hD⟩ := hS'
    have lvs := hD.len_map
    have hn8 := hF.n
    refine ⟨_, (pss_cons (ps_expr (pe_fn c_refuse_too_great (pa_cons (pv 0) (pa_cons (pv 2) pa_nil))))
      (pss_cons (ps_expr (pe_fn c_refuse_no_names (pa_cons (pv 0) (pa_cons (pv 2) pa_nil))))
      (pss_cons (ps_expr (pe_fn c_refuse_no_places (pa_cons (pv 0) (pa_cons (pv 1) pa_nil))))
      (pss_cons (ps_expr (pe_fn c_refuse_twice (pa_cons (pv 0) pa_nil)))
      (pss_cons (ps_set (i := 3) sc_table_of.nd (pe_fn c_order_of (pa_cons (pv 2) pa_nil)))
      (pss_one (ps_ret (pe_tup (pa_cons (pe_comp (g := gTup K 2 (gCons (gName 0) (gCons (gName 1) gNil))) rfl table_of_cs1 (pi_list (pv 0)) (fun _ _ _ _ _ => (pg_tup (n := 2) rfl (pgs_cons (pg_name (i := 0) table_of_cs1.nd) (pgs_cons (pg_name (i := 1) table_of_cs1.nd) pgs_nil)))) (fun _ _ _ _ _ => pf_nil) (fun _ _ _ _ _ => (pe_fn c_sorted_state (pa_cons (pv 0) (pa_cons (pv 1) pa_nil))))) (pa_cons (pv 1) (pa_cons (pv 3) pa_nil))))))))))), ?_⟩
    obtain ⟨pws, hPL, hPD⟩ := id hP
    refine ⟨_, rfl, _, rfl, a, p, ss, pws, rfl, hS, hF, hPL, by rw [hPD.len_map]; exact hpl, ?_⟩
    refine ⟨_, rfl, _, rfl, a, p, ss, ps, rfl, hSE, hF, hP, by omega, hN, fun H1 s1 => ?_⟩
    refine ⟨_, rfl, _, rfl, a, ss, n, rfl, hS.same s1, n0, n1, hG, ?_⟩
    refine ⟨_, rfl, a, ss, rfl, hS.same s1, hF, hT, fun H2 s2 => ?_⟩
    have s12 := s1.trans s2
    refine ⟨_, rfl, p, ps, rfl, hP.same s12, by omega, hR, fun ts ord o H3 hO hol ho s3 eo T => ?_⟩
    have s13 := s12.trans s3
    have hoH : H o = none := s12.free ho
    refine ⟨_, rfl, a, rfl, ⟨_, s13.seq hV⟩, comp_listI (xs := vs) (fun D i ys H' => ∃ (us : List Addr) (rs : List Stt), us.length = i ∧ Same H3 H' ∧ H' D = some (.lst ys) ∧ ys = us.map V.ref ∧ StRows K (fun x => H x = none) H' D us rs ∧ ∀ (n : Nat) (s r : Stt), ss[n]? = some s → rs[n]? = some r → SrtOf s r)
      (fun D hD => ⟨[], [], rfl, same_new hD, upd_same, rfl, StRows.nil, fun n s r _ h => by simp at h⟩) (fun D i ys H' ⟨_, _, _, s1, _⟩ => (s13.trans s1).seq hV) (fun D i x ys H4 R hD0 hx hv k => ?_) (fun D ys H4 hD0 hv => ?_)⟩
    · obtain ⟨us, rs, hus, s4, eD, rfl, SR, hso⟩ := hv
      obtain ⟨s, t, g, e, hs, rfl, ht, hg, he⟩ := hD.sts_get hx
      have b1 := hF.gs s (List.mem_of_getElem? hs)
      have b2 := hF.es s (List.mem_of_getElem? hs)
      have s14 := s13.trans s4
      have hil : i < ss.length := (List.getElem?_eq_some_iff.mp hs).1
      refine ⟨t, _, rfl, s14.seqT ht, rfl, _, _, rfl, _, _, rfl, rfl, ?_⟩
      refine ⟨_, rfl, _, rfl, g, e, s, rfl, hg.same s14, s14.seq he, b1, b2, fun u G E r H5 so hu hG hE s5 eu eG eGx eE => ?_⟩
      obtain ⟨xs, eGx⟩ := eGx
      have eD5 := s5 _ _ eD
      have nG : G ≠ D := fun z => by rw [z, eD] at hG; cases hG
      have nE : E ≠ D := fun z => by rw [z, eD] at hE; cases hE
      refine k _ _ eD5 (by rw [List.length_map, hus]; exact small1000 (by omega)) ⟨us ++ [u], rs ++ [r], by rw [List.length_append, hus]; rfl, fun b o e => ?_, upd_same, by rw [List.map_append]; rfl, ((SR.same s5).snoc eu eG eGx eE nG nE (s14.free hG) (s14.free hE)).updL eD5, fun m s' r' h1 h2 => ?_⟩
      · rw [upd_ne (ne_of_none e hD0)]; exact s5 _ _ (s4 b o e)
      · rcases Nat.lt_or_ge m rs.length with hlt | hge
        · rw [List.getElem?_append_left hlt] at h2
          exact hso m s' r' h1 h2
        · have hn1 : m < (rs ++ [r]).length := (List.getElem?_eq_some_iff.mp h2).1
          rw [List.length_append, List.length_singleton] at hn1
          have hrl := SR.len
          obtain rfl : m = i := by omega
          rw [hs] at h1; cases h1
          rw [List.getElem?_append_right hge, show m - rs.length = 0 by omega] at h2
          cases h2
          exact so
    · obtain ⟨us, rs, hus, s4, eD, rfl, SR, hso⟩ := hv
      refine ⟨_, rfl, _, rfl, three_le, fun t ht => ?_⟩
      have s5 := same_new (o := .tup [.ref D, .int n, .ref o]) ht
      have s45 := s4.trans s5
      refine q t rs ord _ (by rw [← SR.len, hus, lvs]) hso hO ((s13.trans s4).free ht) (s13.trans s45) ⟨D, o, us, ts, upd_same, s13.free hD0, hoH, (fun z => by rw [z, eo] at hD0; cases hD0), s5 _ _ eD, SR.same s5, s45 _ _ eo, T.same s45⟩
theorem call_table_of {f : Addr} {fd : FuncData} (B : Blt mg) (ER : Ers K mg) (c_refuse_too_great : Callee P w K mg base "refuse_too_great" 1 ["states", "pairs"] (sp_refuse_too_great K)) (c_refuse_no_names : Callee P w K mg base "refuse_no_names" 3 ["states", "pairs"] (sp_refuse_no_names K)) (c_refuse_no_places : Callee P w K mg base "refuse_no_places" 3 ["states", "inner"] (sp_refuse_no_places K)) (c_refuse_twice : Callee P w K mg base "refuse_twice" 2 ["states"] (sp_refuse_twice K)) (c_order_of : Callee P w K mg base "order_of" 3 ["pairs"] (sp_order_of K)) (c_sorted_state : Callee P w K mg base "sorted_state" 1 ["goes", "ends"] (sp_sorted_state K)) (F : Fun K "table_of" "table_of" s_table_of f fd) (hm : mg "table_of" = some (.ref f)) : Callee P w K mg base "table_of" 4 ["states", "inner", "pairs"] (sp_table_of K) :=
  ⟨f, fd, ok_table_of B ER c_refuse_too_great c_refuse_no_names c_refuse_no_places c_refuse_twice c_order_of c_sorted_state F, hm, F.kp, F.binds fun _ _ _ _ _ _ us hl => (by obtain ⟨x0, x1, x2, rfl⟩ := len_3 hl; rfl)⟩

def sp__law_turned (K : PySem.W.Frag) : Sp := fun vs H Q _ => ∃ (l : Addr) (c : Int) (xs : List V), vs = [.ref l, .int c] ∧ SqL K H l xs ∧ xs.length ≤ 8 ∧ ∀ (n : Nat) (p : Addr) (H' : Hp), H p = none → Same H H' → H' p = some (.lst (xs.drop n ++ xs.take n)) → Q (.ref p) H'
set_option maxHeartbeats 4000000 in
seal L2.PE L2.PA L2.PS L2.PSs L2.PT L2.PW L2.PC L2.PG L2.PGs L2.PI L2.PF L2.PSet L2.OpR L2.UnR L2.CallR L2.MtR L2.IxR L2.SlR L2.PO in
theorem ok__law_turned {f : Addr} {fd : FuncData} (B : Blt mg) (ER : Ers K mg)  (F : Fun K "_law_turned" "_law_turned" s__law_turned f fd) : FnOk P w K mg base CX0 1 f fd ["_law_some", "_law_cell"] (sp__law_turned K) := by
  refine F.ok sc__law_turned (fun vs H Q E h => ?_) (fun cdv A outer s H vs Q E hr h => ?_)
  · obtain ⟨l, c, xs, rfl, _⟩ := h
    rfl
  · obtain ⟨l, c, xs, rfl, hL, hl8, q⟩ := h
    refine ⟨_, (pss_cons (ps_set (i := 2) sc__law_turned.nd (pe_op op_mod (pv 1) (pe_op op_add (pe_callB call_len B.b_len (pa_cons (pv 0) pa_nil)) pe_int)))
      (pss_one (ps_ret (pe_op op_cat (pe_slice sl_list (pv 0) (po_some (pv 2)) po_none) (pe_slice sl_list (pv 0) po_none (po_some (pv 2))))))), ?_⟩
    have m0 : (0 : Int) < (xs.length : Int) + 1 := by omega
    have k0 := Int.emod_nonneg c (show (xs.length : Int) + 1 ≠ 0 by omega)
    refine ⟨_, rfl, _, rfl, _, _, rfl, Or.inl ⟨_, hL, rfl⟩, _, _, rfl, rfl, _, _, rfl, rfl, m0, ?_⟩
    try dsimp only
    generalize c % ((xs.length : Int) + 1) = k at k0 ⊢
    obtain ⟨n, rfl⟩ := Int.eq_ofNat_of_zero_le k0
    refine ⟨_, rfl, _, rfl, _, rfl, l, _, rfl, hL, fun p1 h1 => ?_⟩
    rw [cutV_drop]
    have s1 : Same H (upd H p1 (.lst (xs.drop n))) := same_new h1
    have e1 : (upd H p1 (.lst (xs.drop n))) p1 = some (.lst (xs.drop n)) := upd_same
    generalize upd H p1 (.lst (xs.drop n)) = H1 at s1 e1 ⊢
    refine ⟨_, rfl, _, rfl, _, rfl, l, _, rfl, s1.seq hL, fun p2 h2 => ?_⟩
    rw [cutV_take]
    have s2 : Same H1 (upd H1 p2 (.lst (xs.take n))) := same_new h2
    have e2 : (upd H1 p2 (.lst (xs.take n))) p2 = some (.lst (xs.take n)) := upd_same
    generalize upd H1 p2 (.lst (xs.take n)) = H2 at s2 e2 ⊢
    refine ⟨p1, p2, _, _, rfl, rfl, s2 _ _ e1, e2, ?_, fun p3 h3 => ?_⟩
    · rw [List.length_drop, List.length_take]
      exact Nat.le_of_lt (small1000 (by omega))
    have s12 := s1.trans s2
    exact q n p3 _ (s12.free h3) (s12.trans (same_new h3)) upd_same
theorem call__law_turned {f : Addr} {fd : FuncData} (B : Blt mg) (ER : Ers K mg)  (F : Fun K "_law_turned" "_law_turned" s__law_turned f fd) (hm : mg "_law_turned" = some (.ref f)) : Callee P w K mg base "_law_turned" 1 ["_law_some", "_law_cell"] (sp__law_turned K) :=
  ⟨f, fd, ok__law_turned B ER  F, hm, F.kp, F.binds fun _ _ _ _ _ _ us hl => (by obtain ⟨x0, x1, rfl⟩ := len_2 hl; rfl)⟩
theorem snoc_of {α : Type} {l : List α} (h : l ≠ []) : ∃ a x, l = a ++ [x] := ⟨l.dropLast, l.getLast h, (List.dropLast_concat_getLast h).symm⟩
theorem wds_un {H : Hp} {us : List Addr} {u : Addr} {ws : List (List Str)} {g : List Str} (h : Wds H (us ++ [u]) (ws ++ [g])) : Wds H us ws ∧ H u = some (.lst (g.map V.str)) := by
  have hl : us.length = ws.length := by have := h.len; simpa using this
  refine ⟨⟨hl, fun n v q h1 h2 => h.at_ n v q ?_ ?_⟩, h.at_ us.length u g ?_ ?_⟩
  · rw [List.getElem?_append_left (List.getElem?_eq_some_iff.mp h1).1]; exact h1
  · rw [List.getElem?_append_left (List.getElem?_eq_some_iff.mp h2).1]; exact h2
  · simp
  · rw [hl]; simp
theorem prt_snoc {sg : Str} {ws : List Str} {i : Nat} {w : Str} (h : ws[i]? = some w) : prt sg (ws.take (i + 1)) = prtS sg (prt sg (ws.take i)) w := by
  unfold prt
  rw [List.take_succ, h, List.foldl_append]; rfl
theorem prt_in_len {sg : Str} : ∀ (ws : List Str) (gs : List (List Str)) {m : Nat}, (∀ g ∈ gs, g.length ≤ m) → ∀ g ∈ ws.foldl (prtS sg) gs, g.length ≤ m + ws.length
  | [], _, _, h, g, hg => h g hg
  | w :: ws, gs, m, h, g, hg => by
    rw [List.foldl_cons] at hg
    have := prt_in_len ws (prtS sg gs w) (m := m + 1) (fun x hx => by
      unfold prtS at hx
      split at hx
      · rcases List.mem_append.mp hx with z | z
        · have := h x z; omega
        · rw [List.mem_singleton.mp z]; exact Nat.zero_le _
      · rcases List.mem_append.mp hx with z | z
        · have := h x ((List.dropLast_sublist _).subset z); omega
        · rw [List.mem_singleton.mp z, List.length_append, List.length_singleton]
          cases e : gs.getLast? with
          | none => show 0 + 1 ≤ m + 1; omega
          | some y =>
            have := h y (List.mem_of_getLast? e)
            show y.length + 1 ≤ m + 1
            omega) g hg
    rw [List.length_cons]
    omega

def sp_parted (K : PySem.W.Frag) : Sp := fun vs H Q _ => ∃ (l : Addr) (ws : List Str) (sg : Str), vs = [.ref l, .str sg] ∧ SqL K H l (ws.map V.str) ∧ ws.length ≤ 900 ∧ ∀ (D : Addr) (us : List Addr) (H' : Hp), H D = none → Same H H' → H' D = some (.lst (us.map V.ref)) → Wds H' us (prt sg ws) → Q (.ref D) H'
set_option maxHeartbeats 4000000 in
seal L2.PE L2.PA L2.PS L2.PSs L2.PT L2.PW L2.PC L2.PG L2.PGs L2.PI L2.PF L2.PSet L2.OpR L2.UnR L2.CallR L2.MtR L2.IxR L2.SlR L2.PO in
theorem ok_parted {f : Addr} {fd : FuncData} (B : Blt mg) (ER : Ers K mg)  (F : Fun K "parted" "parted" s_parted f fd) : FnOk P w K mg base CX0 1 f fd ["words", "sign"] (sp_parted K) := by
  refine F.ok sc_parted (fun vs H Q E h => ?_) (fun cdv A outer s H vs Q E hr h => ?_)
  · obtain ⟨l, ws, sg, rfl, _⟩ := h
    rfl
  · obtain ⟨l, ws, sg, rfl, hL, hl, q⟩ := h
    refine ⟨_, (pss_cons (ps_set (i := 2) sc_parted.nd (pe_lst (pa_cons (pe_lst pa_nil) pa_nil)))
      (pss_cons (ps_for PassesOwn.never rfl (pi_list (pv 0)) (pg_name (i := 3) sc_parted.nd) (pss_one (ps_if (pt_cmpR op_eq (pv 3) (pv 1) (nomark _)) (pss_one (ps_expr (pe_bm PySem.F.plainAttrs_list PySem.F.slot_list_append PySem.F.type_list_append mr_append (pv 2) (pa_cons (pe_lst pa_nil) pa_nil)))) (pss_one (ps_expr (pe_bm PySem.F.plainAttrs_list PySem.F.slot_list_append PySem.F.type_list_append mr_append (pe_ix ix_seq (pv 2) (pe_un un_neg pe_int)) (pa_cons (pv 3) pa_nil)))))))
      (pss_one (ps_ret (pv 2))))), ?_⟩
    refine ⟨by decide, fun A hA => ?_⟩
    have s1 := same_new (o := .lst []) hA
    have eA : (upd H A (.lst [])) A = some (.lst []) := upd_same
    generalize upd H A (.lst []) = H1 at s1 eA ⊢
    refine ⟨(show 1 ≤ sizeLine by decide), fun D hD => ?_⟩
    have hDH : H D = none := s1.free hD
    have nAD : A ≠ D := fun z => by rw [z, hD] at eA; cases eA
    have s2 := s1.trans (same_new (o := .lst [.ref A]) hD)
    have eA2 := same_new (o := .lst [.ref A]) hD _ _ eA
    refine ⟨_, rfl, l, rfl, ⟨_, s2.seq hL⟩, for_list (xs := ws.map V.str) (fun i σ H' => ∃ u3 us, σ = [some (.ref l), some (.str sg), some (.ref D), u3] ∧ Same H H' ∧ H' D = some (.lst (us.map V.ref)) ∧ Wds H' us (prt sg (ws.take i)) ∧ us.Nodup ∧ D ∉ us ∧ ∀ u ∈ us, H u = none)
      ⟨none, [A], rfl, s2, upd_same, ⟨rfl, fun n u g h1 h2 => ?_⟩, by simp, by simpa using nAD.symm, by simpa using hA⟩ (fun i σ H' _ ⟨_, _, _, e, _⟩ => e.seq hL) ?_ ?_⟩
    · cases n with
      | zero => cases h1; cases h2; exact eA2
      | succ n => simp at h1
    · rintro i x σ H3 hx ⟨u3, us, rfl, s3, eD, W, nd, nD, fr⟩
      rw [List.getElem?_map] at hx
      obtain ⟨w, hw, rfl⟩ := Option.map_eq_some_iff.mp hx
      have hil : i < ws.length := (List.getElem?_eq_some_iff.mp hw).1
      have hp := prt_snoc (sg := sg) hw
      obtain ⟨p1, p2⟩ := prt_len (sg := sg) (ws.take i) [[]] (by simp)
      have p2 : (prt sg (ws.take i)).length ≤ 901 := by
        have : (prt sg (ws.take i)).length ≤ 1 + (ws.take i).length := p2
        rw [List.length_take] at this
        omega
      have p1 : prt sg (ws.take i) ≠ [] := p1
      refine ⟨_, rfl, _, rfl, rfl, _, rfl, ?_⟩
      refine ite2 (fun h1 => ?_) (fun h1 => ?_)
      · have h1 : w = sg := V.str.inj (of_decide_eq_true h1)
        refine ⟨_, rfl, Or.inl ⟨rfl, _, SqL.of eD⟩, by decide, fun B hB => ?_⟩
        have s4 := same_new (o := .lst []) hB
        have eB : (upd H3 B (.lst [])) B = some (.lst []) := upd_same
        generalize upd H3 B (.lst []) = H4 at s4 eB ⊢
        have eD4 := s4 _ _ eD
        have nBD : B ≠ D := fun z => by rw [z, eD] at hB; cases hB
        refine ⟨D, _, _, rfl, rfl, eD4, by rw [List.length_map, W.len]; exact small1000 (by omega), ?_⟩
        refine ⟨_, us ++ [B], rfl, fun b o e => ?_, by rw [upd_same, List.map_append]; rfl, ?_, ?_, ?_, fun u hu => ?_⟩
        · rw [upd_ne (ne_of_none e hDH)]; exact s4 _ _ (s3 b o e)
        · rw [hp]
          unfold prtS
          rw [if_pos h1]
          refine Wds.snoc ((W.same s4).upd fun u hu z => nD (z ▸ hu)) ?_
          rw [upd_ne nBD]; exact eB
        · refine nodup_snoc nd fun hm => ?_
          obtain ⟨n, hn⟩ := List.getElem?_of_mem hm
          have hn' : n < (prt sg (ws.take i)).length := by rw [← W.len]; exact (List.getElem?_eq_some_iff.mp hn).1
          have := W.at_ n B _ hn (List.getElem?_eq_getElem hn')
          rw [hB] at this; cases this
        · rw [List.mem_append, List.mem_singleton]
          rintro (z | z)
          · exact nD z
          · exact nBD z.symm
        · rcases List.mem_append.mp hu with z | z
          · exact fr u z
          · rw [List.mem_singleton.mp z]; exact s3.free hB
      · have h1 : w ≠ sg := fun z => h1 (by rw [z]; exact decide_eq_true rfl)
        obtain ⟨gs0, g0, eg⟩ := snoc_of p1
        obtain ⟨us0, u0, eu⟩ := snoc_of (l := us) (fun z => by have := W.len; rw [z] at this; exact p1 (List.length_eq_zero_iff.mp this.symm))
        subst eu
        rw [eg] at W hp
        rw [prtS_snoc h1] at hp
        obtain ⟨W0, e0⟩ := wds_un W
        have n0 : u0 ≠ D := fun z => nD (by rw [← z]; simp)
        have hu0 : u0 ∉ us0 := fun z => (List.nodup_append.mp nd).2.2 u0 z u0 (by simp) rfl
        have g0l : g0.length ≤ 900 := by
          exact Nat.le_trans (prt_in_len (sg := sg) (ws.take i) [[]] (m := 0) (by simp) _ (by rw [show List.foldl (prtS sg) [[]] (ws.take i) = prt sg (ws.take i) from rfl, eg]; simp)) (by rw [List.length_take]; omega)
        refine ⟨_, rfl, _, rfl, Or.inl ⟨D, _, _, .ref u0, rfl, rfl, SqL.of eD, by rw [List.map_append]; exact atI_last _ _, Or.inl ⟨rfl, _, SqL.of e0⟩, _, rfl, u0, _, _, rfl, rfl, e0, by rw [List.length_map]; exact small1000 (by omega), ?_⟩⟩
        refine ⟨_, us0 ++ [u0], rfl, fun b o e => ?_, by rw [upd_ne n0.symm]; exact eD, ?_, nd, nD, fr⟩
        · rw [upd_ne (ne_of_none e (fr u0 (by simp)))]; exact s3 b o e
        · rw [hp]
          refine Wds.snoc (W0.upd fun u hu z => hu0 (z ▸ hu)) ?_
          rw [upd_same, List.map_append]; rfl
    · rintro σ H3 ⟨u3, us, rfl, s3, eD, W, nd, nD, fr⟩
      rw [List.length_map, List.take_length] at W
      exact ⟨_, rfl, q D us H3 hDH s3 eD W⟩
theorem call_parted {f : Addr} {fd : FuncData} (B : Blt mg) (ER : Ers K mg)  (F : Fun K "parted" "parted" s_parted f fd) (hm : mg "parted" = some (.ref f)) : Callee P w K mg base "parted" 1 ["words", "sign"] (sp_parted K) :=
  ⟨f, fd, ok_parted B ER  F, hm, F.kp, F.binds fun _ _ _ _ _ _ us hl => (by obtain ⟨x0, x1, rfl⟩ := len_2 hl; rfl)⟩

def sp_read_twos (K : PySem.W.Frag) : Sp := fun vs H Q _ => ∃ (l : Addr) (gs : List (List Str)), vs = [.ref l] ∧ SqL K H l ((btw "," gs).map V.str) ∧ (btw "," gs).length ≤ 900 ∧ (∀ g ∈ gs, g.length = 2) ∧ (∀ g ∈ gs, ("," : Str) ∉ g) ∧ ∀ (D : Addr) (us : List Addr) (H' : Hp), H D = none → Same H H' → H' D = some (.lst (us.map V.ref)) → Wds H' us gs → Q (.ref D) H'
set_option maxHeartbeats 4000000 in
seal L2.PE L2.PA L2.PS L2.PSs L2.PT L2.PW L2.PC L2.PG L2.PGs L2.PI L2.PF L2.PSet L2.OpR L2.UnR L2.CallR L2.MtR L2.IxR L2.SlR L2.PO in
theorem ok_read_twos {f : Addr} {fd : FuncData} (B : Blt mg) (ER : Ers K mg) (c_parted : Callee P w K mg base "parted" 1 ["words", "sign"] (sp_parted K)) (F : Fun K "read_twos" "read_twos" s_read_twos f fd) : FnOk P w K mg base CX0 2 f fd ["words"] (sp_read_twos K) := by
  refine F.ok sc_read_twos (fun vs H Q E h => ?_) (fun cdv A outer s H vs Q E hr h => ?_)
  · obtain ⟨l, gs, rfl, _⟩ := h
    rfl
  · obtain ⟨l, gs, rfl, hL, hl, h2, hn, q⟩ := h
    have ne : ∀ g ∈ gs, g ≠ [] := fun g hg z => by have := h2 g hg; rw [z] at this; cases this
    refine ⟨_, (pss_cons (ps_if (pt_not (pt_list (pv 0))) (pss_one (ps_ret (pe_lst pa_nil))) pss_nil)
      (pss_cons (ps_set (i := 1) sc_read_twos.nd (pe_fn c_parted (pa_cons (pv 0) (pa_cons pe_str pa_nil))))
      (pss_cons (ps_if (pt_val (pe_callB (call_anyL rfl) B.b_any (pa_cons (pe_comp (te := tOp rNe (tCB (fun xs H Q => ∃ x n, xs = [x] ∧ LenV K x H n ∧ Q (V.int ↑n) H) (tCons (tVar 0) tNil)) (tC (.int 2))) rfl read_twos_cs1 (pi_list (pv 1)) (fun _ _ _ _ _ => (pg_name (i := 0) read_twos_cs1.nd)) (fun _ _ _ _ _ => pf_nil) (fun _ _ _ _ _ => (pe_cmpR op_ne (pe_callB call_len B.b_len (pa_cons (pv 0) pa_nil)) pe_int (nomark _)))) pa_nil))) (pss_one ps_never) pss_nil)
      (pss_one (ps_ret (pv 1)))))), ?_⟩
    refine ⟨_, rfl, l, _, rfl, hL, ?_⟩
    cases he : ((btw "," gs).map V.str).isEmpty with
    | true =>
      have e : gs = [] := btw_nil (sg := ",") ne (by simpa using he)
      refine iteT ⟨by decide, fun D hD => ?_⟩
      exact q D [] _ hD (same_new hD) upd_same (by rw [e]; exact Wds.nil)
    | false =>
      have e : gs ≠ [] := fun z => by rw [z] at he; cases he
      refine iteF ⟨_, rfl, l, _, ",", rfl, hL, hl, fun D us H1 hD s1 eD W => ?_⟩
      rw [prt_btw e hn] at W
      refine ⟨_, rfl, D, rfl, ⟨_, SqL.of eD⟩, comp_listI (xs := us.map V.ref) (fun D' i ys H' => Same H1 H' ∧ H' D' = some (.lst ys) ∧ ys = (List.replicate i false).map V.bl) (fun D' hD' => ⟨same_new hD', upd_same, rfl⟩) (fun D' i ys H' ⟨s2, _⟩ => SqL.of (s2 _ _ eD)) (fun D' i x ys H2 R hD0 hx hv k => ?_) (fun D' ys H2 hD0 hv => ?_)⟩
      · obtain ⟨s2, eD', rfl⟩ := hv
        rw [List.getElem?_map] at hx
        obtain ⟨u, hu, rfl⟩ := Option.map_eq_some_iff.mp hx
        have hil : i < gs.length := by rw [← W.len]; exact (List.getElem?_eq_some_iff.mp hu).1
        have hg := List.getElem?_eq_getElem hil
        have eu := s2 _ _ (W.at_ i u _ hu hg)
        have g2 := h2 _ (List.mem_of_getElem? hg)
        refine ⟨_, rfl, _, _, rfl, Or.inl ⟨_, SqL.of eu, rfl⟩, rfl, ?_⟩
        rw [List.length_map, g2]
        have bg := btw_ge (sg := ",") ne
        refine k _ _ eD' (by rw [List.length_map, List.length_replicate]; exact small1000 (by omega)) ⟨fun b o e => ?_, upd_same, ?_⟩
        · rw [upd_ne (ne_of_none e hD0)]; exact s2 b o e
        · rw [List.replicate_succ', List.map_append]; rfl
      · obtain ⟨s2, eD', rfl⟩ := hv
        refine ⟨_, List.replicate us.length false, rfl, SqL.of (by rw [← List.length_map (f := V.ref)]; exact eD'), _, rfl, ?_⟩
        rw [show (List.replicate us.length false).any id = false by simp]
        exact iteF ⟨_, rfl, q D us H2 hD (s1.trans s2) (s2 _ _ eD) (W.same s2)⟩
theorem call_read_twos {f : Addr} {fd : FuncData} (B : Blt mg) (ER : Ers K mg) (c_parted : Callee P w K mg base "parted" 1 ["words", "sign"] (sp_parted K)) (F : Fun K "read_twos" "read_twos" s_read_twos f fd) (hm : mg "read_twos" = some (.ref f)) : Callee P w K mg base "read_twos" 2 ["words"] (sp_read_twos K) :=
  ⟨f, fd, ok_read_twos B ER c_parted F, hm, F.kp, F.binds fun _ _ _ _ _ _ us hl => (by obtain ⟨x0, rfl⟩ := len_1 hl; rfl)⟩

def sp_read_label (_ : PySem.W.Frag) : Sp := fun vs H Q _ => ∃ x, vs = [.str x] ∧ OkW x ∧ Q (.str x) H
set_option maxHeartbeats 4000000 in
seal L2.PE L2.PA L2.PS L2.PSs L2.PT L2.PW L2.PC L2.PG L2.PGs L2.PI L2.PF L2.PSet L2.OpR L2.UnR L2.CallR L2.MtR L2.IxR L2.SlR L2.PO in
theorem ok_read_label {f : Addr} {fd : FuncData} (B : Blt mg) (ER : Ers K mg)  (F : Fun K "read_label" "read_label" s_read_label f fd) : FnOk P w K mg base CX0 1 f fd ["word"] (sp_read_label K) := by
  refine F.ok sc_read_label (fun vs H Q E h => ?_) (fun cdv A outer s H vs Q E hr h => ?_)
  · obtain ⟨x, rfl, _⟩ := h
    rfl
  · obtain ⟨x, rfl, ok, q⟩ := h
    refine ⟨_, (pss_cons (ps_if (pt_cmpR op_in_seq (pv 0) (pe_glob (v := .ref (clsA K "SIGNS")) rfl ER.t_SIGNS rfl) (by with_unfolding_all rfl)) (pss_one ps_never) pss_nil)
      (pss_one (ps_ret (pv 0)))), ?_⟩
    refine ⟨_, rfl, _, _, rfl, Or.inr (ER.tv_SIGNS _), rfl, rfl, _, rfl, ?_⟩
    have e : inV (.str x) [.str "/", .str "|", .str ",", .str ":"] = false := by
      unfold inV
      have f : ∀ y : Str, x ≠ y → eqV (.str y) (.str x) = false := fun y hy => by
        show decide _ = false
        exact decide_eq_false fun z => hy z.symm
      rw [List.any_cons, List.any_cons, List.any_cons, List.any_cons, List.any_nil, f _ ok.a, f _ ok.b, f _ ok.c, f _ ok.d]; rfl
    rw [if_neg Bool.false_ne_true, e]
    exact iteF ⟨_, rfl, q⟩
theorem call_read_label {f : Addr} {fd : FuncData} (B : Blt mg) (ER : Ers K mg)  (F : Fun K "read_label" "read_label" s_read_label f fd) (hm : mg "read_label" = some (.ref f)) : Callee P w K mg base "read_label" 1 ["word"] (sp_read_label K) :=
  ⟨f, fd, ok_read_label B ER  F, hm, F.kp, F.binds fun _ _ _ _ _ _ us hl => (by obtain ⟨x0, rfl⟩ := len_1 hl; rfl)⟩
theorem fig_0 (c : Nat) : (!decide ((⟨#[c]⟩ : Str).cps.toList < ("0" : Str).cps.toList)) = decide (48 ≤ c) := by
  show (!decide (([c] : List Nat) < ("0" : Str).cps.toList)) = _
  have e : ("0" : Str).cps.toList = [48] := by decide +kernel
  rw [e, lt_sing]
  by_cases h : c < 48
  · rw [decide_eq_true h, decide_eq_false (by omega)]; rfl
  · rw [decide_eq_false h, decide_eq_true (by omega)]; rfl
theorem fig_9 (c : Nat) : (!decide (("9" : Str).cps.toList < (⟨#[c]⟩ : Str).cps.toList)) = decide (c ≤ 57) := by
  show (!decide (("9" : Str).cps.toList < ([c] : List Nat))) = _
  have e : ("9" : Str).cps.toList = [57] := by decide +kernel
  rw [e, lt_sing]
  by_cases h : 57 < c
  · rw [decide_eq_true h, decide_eq_false (by omega)]; rfl
  · rw [decide_eq_false h, decide_eq_true (by omega)]; rfl
theorem both1 {A G : Prop} (k : A → G) (a : A) : G := k a

def sp_read_number (_ : PySem.W.Frag) : Sp := fun vs H Q _ => ∃ n : Int, vs = [.str (nS n)] ∧ 0 ≤ n ∧ n < 10 ∧ ∀ H', Same H H' → Q (.int n) H'
set_option maxHeartbeats 4000000 in
seal L2.PE L2.PA L2.PS L2.PSs L2.PT L2.PW L2.PC L2.PG L2.PGs L2.PI L2.PF L2.PSet L2.OpR L2.UnR L2.CallR L2.MtR L2.IxR L2.SlR L2.PO in
theorem ok_read_number {f : Addr} {fd : FuncData} (B : Blt mg) (ER : Ers K mg)  (F : Fun K "read_number" "read_number" s_read_number f fd) : FnOk P w K mg base CX0 1 f fd ["word"] (sp_read_number K) := by
  refine F.ok sc_read_number (fun vs H Q E h => ?_) (fun cdv A outer s H vs Q E hr h => ?_)
  · obtain ⟨n, rfl, _⟩ := h
    rfl
  · obtain ⟨n, rfl, h0, h9, q⟩ := h
    obtain ⟨d, d1, d2, e, hi⟩ := fig h0 h9
    generalize nS n = x at e hi ⊢
    subst e
    refine ⟨_, (pss_cons (ps_if (PW.pt (pw_or (pt_not (pt_chain op_le op_le pe_int (pe_callB call_len B.b_len (pa_cons (pv 0) pa_nil)) (pe_glob (v := .int 4) rfl (Classical.choose_spec B.c_MOST_FIGURES) ⟨_, rfl⟩))) (pw_or1 (PW.pt (pw_and (pt_cmpR op_eq (pe_ix ix_seq (pv 0) pe_int) pe_str (nomark _)) (pw_and1 (pt_cmpR op_ne (pv 0) pe_str (nomark _)))))))) (pss_one ps_never) pss_nil)
      (pss_cons (ps_if (pt_not (pt_val (pe_callB (call_allL rfl) B.b_all (pa_cons (pe_comp rfl read_number_cs1 (pi_str (pv 0)) (fun _ _ _ _ _ => (pg_name (i := 0) read_number_cs1.nd)) (fun _ _ _ _ _ => pf_nil) (fun _ _ _ _ _ => (pe_chain op_leS op_leS pe_str (pv 0) pe_str))) pa_nil)))) (pss_one ps_never) pss_nil)
      (pss_one (ps_ret (pe_callTy call_intS B.b_int (pa_cons (pv 0) pa_nil)))))), ?_⟩
    refine ⟨_, rfl, _, _, rfl, ⟨(show 1 ≤ sizeLine by decide), rfl⟩, _, _, rfl, rfl, _, rfl, ?_⟩
    refine ite2 (fun _ => ?_) (fun h => absurd rfl h)
    refine ⟨_, _, rfl, rfl, _, rfl, iteF ?_⟩
    refine ⟨_, rfl, Or.inr (Or.inr ⟨_, _, _, rfl, rfl, (show 1 ≤ sizeLine by decide), rfl, rfl, _, rfl, ?_⟩)⟩
    refine both1 (fun main => ite2 (fun z => ⟨_, rfl, rfl, _, rfl, iteNS (of_decide_eq_true z) main⟩) (fun z => iteF main)) ?main
    refine ⟨_, rfl, _, rfl, comp_str (x := ⟨#[d]⟩) (f := fun c => V.bl true) (show 1 ≤ sizeLine by decide) (fun i c H2 D R hc s2 hD k => ?_) (fun H2 D s2 hD e2 => ?_)⟩
    · have ec : c = d := by
        cases i with
        | zero => simpa using hc.symm
        | succ i => simp at hc
      subst ec
      refine ⟨_, rfl, _, _, rfl, rfl, _, rfl, ?_⟩
      show if (!decide ((⟨#[c]⟩ : Str).cps.toList < ("0" : Str).cps.toList)) = true then _ else _
      rw [fig_0, decide_eq_true d1]
      refine iteT ⟨_, _, rfl, rfl, ?_⟩
      rw [show (V.bl ((fun a b : Str => !decide (b.cps.toList < a.cps.toList)) ⟨#[c]⟩ "9")) = V.bl (decide (c ≤ 57)) from congrArg V.bl (fig_9 c), decide_eq_true d2]
      exact k H2 (Same.refl _)
    · refine ⟨_, [true], rfl, SqL.of e2, _, rfl, iteF ?_⟩
      refine ⟨_, rfl, _, n, rfl, hi, (show 1 ≤ 640 by decide), q H2 s2⟩
theorem call_read_number {f : Addr} {fd : FuncData} (B : Blt mg) (ER : Ers K mg)  (F : Fun K "read_number" "read_number" s_read_number f fd) (hm : mg "read_number" = some (.ref f)) : Callee P w K mg base "read_number" 1 ["word"] (sp_read_number K) :=
  ⟨f, fd, ok_read_number B ER  F, hm, F.kp, F.binds fun _ _ _ _ _ _ us hl => (by obtain ⟨x0, rfl⟩ := len_1 hl; rfl)⟩
theorem two_of {α : Type} {l : List α} (h : l.length = 2) : ∃ a b, l = [a, b] := by
  cases l with
  | nil => cases h
  | cons a l =>
    cases l with
    | nil => cases h
    | cons b l =>
      cases l with
      | nil => exact ⟨a, b, rfl⟩
      | cons c l => simp at h

def sp_read_state (K : PySem.W.Frag) : Sp := fun vs H Q _ => ∃ (l : Addr) (s : Stt), vs = [.ref l] ∧ SqL K H l ((wSt s).map V.str) ∧ s.1.length ≤ 8 ∧ s.2.length ≤ 8 ∧ (∀ g ∈ s.1, OkW g.1 ∧ 0 ≤ g.2 ∧ g.2 < 10) ∧ (∀ x ∈ s.2, OkW x) ∧
  ∀ (t g e : Addr) (gt : List Addr) (H' : Hp), H t = none → H g = none → H e = none → g ≠ e → Same H H' → H' t = some (.tup [.ref g, .ref e]) → H' g = some (.lst (gt.map V.ref)) → GT H' gt s.1 → H' e = some (.lst (s.2.map V.str)) → Q (.ref t) H'
set_option maxHeartbeats 4000000 in
seal L2.PE L2.PA L2.PS L2.PSs L2.PT L2.PW L2.PC L2.PG L2.PGs L2.PI L2.PF L2.PSet L2.OpR L2.UnR L2.CallR L2.MtR L2.IxR L2.SlR L2.PO in
theorem ok_read_state {f : Addr} {fd : FuncData} (B : Blt mg) (ER : Ers K mg) (c_parted : Callee P w K mg base "parted" 1 ["words", "sign"] (sp_parted K)) (c_read_twos : Callee P w K mg base "read_twos" 2 ["words"] (sp_read_twos K)) (c_read_label : Callee P w K mg base "read_label" 1 ["word"] (sp_read_label K)) (c_read_number : Callee P w K mg base "read_number" 1 ["word"] (sp_read_number K)) (F : Fun K "read_state" "read_state" s_read_state f fd) : FnOk P w K mg base CX0 3 f fd ["words"] (sp_read_state K) := by
  refine F.ok sc_read_state (fun vs H Q E h => ?_) (fun cdv A outer s H vs Q E hr h => ?_)
  · obtain ⟨l, s, rfl, _⟩ := h
    rfl
  · obtain ⟨l, st, rfl, hL, l1, l2, hg, he, q⟩ := h
    have lw := st_len l1 l2
    have gl := go_len (gs := st.1)
    refine ⟨_, (pss_cons (ps_set (i := 1) sc_read_state.nd (pe_fn c_parted (pa_cons (pv 0) (pa_cons pe_str pa_nil))))
      (pss_cons (ps_if (pt_cmpR op_ne (pe_callB call_len B.b_len (pa_cons (pv 1) pa_nil)) pe_int (nomark _)) (pss_one ps_never) pss_nil)
      (pss_cons (ps_setC (i := 2) sc_read_state.nd rfl (Or.inl rfl) (g := gLst K 2 (gCons (gName 0) (gCons (gName 1) gNil))) rfl read_state_cs1 (pi_list (pe_fn c_read_twos (pa_cons (pe_ix ix_seq (pv 1) pe_int) pa_nil))) (fun _ _ _ _ _ => (pg_lst (n := 2) rfl (pgs_cons (pg_name (i := 0) read_state_cs1.nd) (pgs_cons (pg_name (i := 1) read_state_cs1.nd) pgs_nil)))) (fun _ _ _ _ _ => pf_nil) (fun _ _ _ _ _ => (pe_tup (pa_cons (pe_fn c_read_label (pa_cons (pv 0) pa_nil)) (pa_cons (pe_fn c_read_number (pa_cons (pv 1) pa_nil)) pa_nil)))))
      (pss_one (ps_ret (pe_tup (pa_cons (pv 2) (pa_cons (pe_comp rfl read_state_cs2 (pi_list (pe_ix ix_seq (pv 1) pe_int)) (fun _ _ _ _ _ => (pg_name (i := 0) read_state_cs2.nd)) (fun _ _ _ _ _ => pf_nil) (fun _ _ _ _ _ => (pe_fn c_read_label (pa_cons (pv 0) pa_nil)))) pa_nil)))))))), ?_⟩
    refine ⟨_, rfl, l, _, ":", rfl, hL, by omega, fun D us H1 hD s1 eD W => ?_⟩
    rw [prt_st hg he] at W
    obtain ⟨a, b, rfl⟩ := two_of W.len
    have ea := W.at_ 0 a _ rfl rfl
    have eb := W.at_ 1 b _ rfl rfl
    refine ⟨_, rfl, _, _, rfl, Or.inl ⟨_, SqL.of eD, rfl⟩, rfl, _, rfl, iteNS rfl ?_⟩
    refine ⟨_, rfl, Or.inl ⟨D, _, _, .ref a, rfl, rfl, SqL.of eD, rfl, a, st.1.map wGo, rfl, SqL.of ea, by omega, fun y hy => ?_, fun y hy hx => (go_words hg ⟨y, hy, hx⟩).c rfl, fun D2 us2 H2 hD2 s2 eD2 W2 => ⟨D2, rfl, ⟨_, SqL.of eD2⟩, comp_listI (xs := us2.map V.ref) (fun G i ys H' => ∃ ts : List Addr, Same H2 H' ∧ H' G = some (.lst ys) ∧ ys = ts.map V.ref ∧ GT H' ts (st.1.take i))
      (fun G hG => ⟨[], same_new hG, upd_same, rfl, by rw [List.take_zero]; exact GT.nil⟩) (fun G i ys H' ⟨_, s3, _⟩ => SqL.of (s3 _ _ eD2)) (fun G i x ys H3 R hG0 hx hv k => ?_) (fun G ys H3 hG0 hv => ?_)⟩⟩⟩
    · obtain ⟨p, _, rfl⟩ := List.mem_map.mp hy
      rfl
    · obtain ⟨ts, s3, eG, rfl, T⟩ := hv
      rw [List.getElem?_map] at hx
      obtain ⟨u, hu, rfl⟩ := Option.map_eq_some_iff.mp hx
      have hil : i < st.1.length := by
        have := W2.len
        rw [List.length_map] at this
        rw [← this]; exact (List.getElem?_eq_some_iff.mp hu).1
      have hp := List.getElem?_eq_getElem hil
      have eu := s3 _ _ (W2.at_ i u (wGo st.1[i]) hu (by rw [List.getElem?_map, hp]; rfl))
      obtain ⟨ok, n0, n9⟩ := hg _ (List.mem_of_getElem? hp)
      refine ⟨u, _, rfl, SqL.of eu, rfl, _, _, rfl, _, _, rfl, rfl, ?_⟩
      refine ⟨_, rfl, _, rfl, ok, _, rfl, _, rfl, n0, n9, fun H4 s4 => ⟨two_le, fun z hz => ?_⟩⟩
      have s5 := s4.trans (same_new (o := .tup [.str st.1[i].1, .int st.1[i].2]) hz)
      have ez : (upd H4 z (.tup [.str st.1[i].1, .int st.1[i].2])) z = some (.tup [.str st.1[i].1, .int st.1[i].2]) := upd_same
      generalize upd H4 z (.tup [.str st.1[i].1, .int st.1[i].2]) = H5 at s5 ez ⊢
      have eG5 := s5 _ _ eG
      have lts : ts.length ≤ 8 := by rw [T.len, List.length_take]; omega
      refine k _ _ eG5 (by rw [List.length_map]; exact small1000 (by omega)) ⟨ts ++ [z], fun b o e => ?_, upd_same, by rw [List.map_append]; rfl, ?_⟩
      · rw [upd_ne (ne_of_none e hG0)]; exact s5 _ _ (s3 b o e)
      · rw [List.take_succ, hp]
        exact ((T.same s5).snoc ez).updL eG5
    · obtain ⟨ts, s3, eG, rfl, T⟩ := hv
      rw [List.length_map, W2.len, List.length_map, List.take_length] at T
      have s23 := s2.trans s3
      have eD3 := s23 _ _ eD
      have eb3 := s23 _ _ eb
      refine g_in ?_
      try dsimp only
      refine ⟨_, rfl, _, rfl, Or.inl ⟨D, _, _, .ref b, rfl, rfl, SqL.of eD3, rfl, b, rfl, ⟨_, SqL.of eb3⟩, comp_listI (xs := st.2.map V.str) (fun Ee i ys H' => Same H3 H' ∧ H' Ee = some (.lst ys) ∧ ys = (st.2.take i).map V.str) (fun Ee hEe => ⟨same_new hEe, upd_same, rfl⟩) (fun Ee i ys H' ⟨s4, _⟩ => SqL.of (s4 _ _ eb3)) (fun Ee i x ys H4 R hE0 hx hv k => ?_) (fun Ee ys H4 hE0 hv => ?_)⟩⟩
      · obtain ⟨s4, eE, rfl⟩ := hv
        rw [List.getElem?_map] at hx
        obtain ⟨y, hy, rfl⟩ := Option.map_eq_some_iff.mp hx
        have hil : i < st.2.length := (List.getElem?_eq_some_iff.mp hy).1
        refine ⟨_, rfl, _, rfl, he y (List.mem_of_getElem? hy), ?_⟩
        refine k _ _ eE (by rw [List.length_map, List.length_take]; exact small1000 (by omega)) ⟨fun b o e => ?_, upd_same, ?_⟩
        · rw [upd_ne (ne_of_none e hE0)]; exact s4 b o e
        · rw [List.take_succ, hy, List.map_append]; rfl
      · obtain ⟨s4, eE, rfl⟩ := hv
        rw [List.length_map, List.take_length] at eE
        refine ⟨two_le, fun t ht => ?_⟩
        have s5 := same_new (o := .tup [.ref G, .ref Ee]) ht
        have s15 := (s1.trans s23)
        have s35 := s4.trans s5
        have nGE : G ≠ Ee := fun z => by rw [z, hE0] at eG; cases eG
        exact q t G Ee ts _ ((s15.trans s4).free ht) ((s1.trans s2).free hG0) (s15.free hE0) nGE (s15.trans s35) upd_same (s35 _ _ eG) (T.same s35) (s5 _ _ eE)
theorem call_read_state {f : Addr} {fd : FuncData} (B : Blt mg) (ER : Ers K mg) (c_parted : Callee P w K mg base "parted" 1 ["words", "sign"] (sp_parted K)) (c_read_twos : Callee P w K mg base "read_twos" 2 ["words"] (sp_read_twos K)) (c_read_label : Callee P w K mg base "read_label" 1 ["word"] (sp_read_label K)) (c_read_number : Callee P w K mg base "read_number" 1 ["word"] (sp_read_number K)) (F : Fun K "read_state" "read_state" s_read_state f fd) (hm : mg "read_state" = some (.ref f)) : Callee P w K mg base "read_state" 3 ["words"] (sp_read_state K) :=
  ⟨f, fd, ok_read_state B ER c_parted c_read_twos c_read_label c_read_number F, hm, F.kp, F.binds fun _ _ _ _ _ _ us hl => (by obtain ⟨x0, rfl⟩ := len_1 hl; rfl)⟩
theorem three_of {α : Type} {l : List α} (h : l.length = 3) : ∃ a b c, l = [a, b, c] := by
  match l, h with
  | [a, b, c], _ => exact ⟨a, b, c, rfl⟩

def sp_read_table (K : PySem.W.Frag) : Sp := fun vs H Q _ => ∃ (ss : List Stt) (n : Int) (ps : List (Str × Str)), vs = [.str (Txt.join (" " : Str) (tW ss n ps))] ∧ TOkW ss n ps ∧ (∀ x ∈ labelsOf ss ++ labelsP ps, nameB x = true) ∧ n < ss.length ∧ (∀ s ∈ ss, ∀ g ∈ s.1, 0 ≤ g.2 ∧ g.2 < ss.length) ∧ (∀ s ∈ ss, (s.1.map (·.1)).Nodup ∧ s.2.Nodup) ∧ (∀ x, ¬ Path ps x x) ∧
  ∀ (t : Addr) (rs : List Stt) (ord : List (Str × Str)) (H' : Hp), rs.length = ss.length → (∀ (i : Nat) (s r : Stt), ss[i]? = some s → rs[i]? = some r → SrtOf s r) → OrdOf ps ord → H t = none → Same H H' → Tab K (fun x => H x = none) H' t rs n ord → Q (.ref t) H'
set_option maxHeartbeats 4000000 in
seal L2.PE L2.PA L2.PS L2.PSs L2.PT L2.PW L2.PC L2.PG L2.PGs L2.PI L2.PF L2.PSet L2.OpR L2.UnR L2.CallR L2.MtR L2.IxR L2.SlR L2.PO in
theorem ok_read_table {f : Addr} {fd : FuncData} (B : Blt mg) (ER : Ers K mg) (c_parted : Callee P w K mg base "parted" 1 ["words", "sign"] (sp_parted K)) (c_read_state : Callee P w K mg base "read_state" 3 ["words"] (sp_read_state K)) (c_read_number : Callee P w K mg base "read_number" 1 ["word"] (sp_read_number K)) (c_read_twos : Callee P w K mg base "read_twos" 2 ["words"] (sp_read_twos K)) (c_read_label : Callee P w K mg base "read_label" 1 ["word"] (sp_read_label K)) (c_table_of : Callee P w K mg base "table_of" 4 ["states", "inner", "pairs"] (sp_table_of K)) (F : Fun K "read_table" "read_table" s_read_table f fd) : FnOk P w K mg base CX0 5 f fd ["text"] (sp_read_table K) := by
  refine F.ok sc_read_table (fun vs H Q E h => ?_) (fun cdv A outer s H vs Q E hr h => ?_)
  · obtain ⟨ss, n, ps, rfl, _⟩ := h
    rfl
  · obtain ⟨ss, n, ps, rfl, TW, hN, n1, hG, hT, hR, q⟩ := h
    have wl := tW_len (n := n) TW.fit (Nat.le_trans TW.pl (by decide))
    have tl := text_len (fun x hx => (tW_words TW x hx).2)
    have hn8 := TW.fit.n
    have pl := TW.pl
    have l1 := sts_len TW.fit
    have l2 := pr_len (gs := ps)
    have lp : (ps.map wPr).length = ps.length := List.length_map ..
    refine ⟨_, (pss_cons (ps_if (pt_not (pt_val (pe_callB call_isi B.b_isinstance (pa_cons (pv 0) (pa_cons (pe_ty "str" rfl B.b_str (by decide +kernel)) pa_nil))))) (pss_one ps_never) pss_nil)
      (pss_cons (ps_set (i := 1) sc_read_table.nd (pe_fn c_parted (pa_cons (pe_bm PySem.F.plainAttrs_str PySem.F.slot_str_split PySem.F.type_str_split mt_split (pv 0) (pa_cons pe_str pa_nil)) (pa_cons pe_str pa_nil))))
      (pss_cons (ps_if (PW.pt (pw_or (pt_cmpR op_ne (pe_callB call_len B.b_len (pa_cons (pv 1) pa_nil)) pe_int (nomark _)) (pw_or1 (pt_cmpR op_ne (pe_callB call_len B.b_len (pa_cons (pe_ix ix_seq (pv 1) pe_int) pa_nil)) pe_int (nomark _))))) (pss_one ps_never) pss_nil)
      (pss_cons (ps_setC (i := 2) sc_read_table.nd rfl (Or.inl rfl) rfl read_table_cs1 (pi_list (pe_fn c_parted (pa_cons (pe_ix ix_seq (pv 1) pe_int) (pa_cons pe_str pa_nil)))) (fun _ _ _ _ _ => (pg_name (i := 0) read_table_cs1.nd)) (fun _ _ _ _ _ => pf_nil) (fun _ _ _ _ _ => (pe_fn c_read_state (pa_cons (pv 0) pa_nil))))
      (pss_cons (ps_set (i := 3) sc_read_table.nd (pe_fn c_read_number (pa_cons (pe_ix ix_seq (pe_ix ix_seq (pv 1) pe_int) pe_int) pa_nil)))
      (pss_cons (ps_setC (i := 4) sc_read_table.nd rfl (Or.inl rfl) (g := gLst K 2 (gCons (gName 0) (gCons (gName 1) gNil))) rfl read_table_cs2 (pi_list (pe_fn c_read_twos (pa_cons (pe_ix ix_seq (pv 1) pe_int) pa_nil))) (fun _ _ _ _ _ => (pg_lst (n := 2) rfl (pgs_cons (pg_name (i := 0) read_table_cs2.nd) (pgs_cons (pg_name (i := 1) read_table_cs2.nd) pgs_nil)))) (fun _ _ _ _ _ => pf_nil) (fun _ _ _ _ _ => (pe_tup (pa_cons (pe_fn c_read_label (pa_cons (pv 0) pa_nil)) (pa_cons (pe_fn c_read_label (pa_cons (pv 1) pa_nil)) pa_nil)))))
      (pss_one (ps_ret (pe_fn c_table_of (pa_cons (pv 2) (pa_cons (pv 3) (pa_cons (pv 4) pa_nil)))))))))))), ?_⟩
    refine ⟨_, rfl, _, .str, .str, rfl, .str _, _, rfl, iteF ?_⟩
    refine ⟨_, rfl, rfl, _, " ", rfl, rfl, rfl, by omega, fun S hS => ?_⟩
    rw [split_blank tW_ne fun x hx => (tW_words TW x hx).1]
    have s0 := same_new (o := .lst ((tW ss n ps).map V.str)) hS
    have eS : (upd H S (.lst ((tW ss n ps).map V.str))) S = some (.lst ((tW ss n ps).map V.str)) := upd_same
    generalize upd H S (.lst ((tW ss n ps).map V.str)) = H0 at s0 eS ⊢
    refine ⟨S, _, "|", rfl, SqL.of eS, by omega, fun D us H1 hD s1 eD W => ?_⟩
    rw [prt_all TW] at W
    obtain ⟨a1, a2, a3, rfl⟩ := three_of W.len
    have e1 := W.at_ 0 a1 _ rfl rfl
    have e2 := W.at_ 1 a2 _ rfl rfl
    have e3 := W.at_ 2 a3 _ rfl rfl
    have s01 := s0.trans s1
    refine g_in ?_
    try dsimp only
    refine ⟨_, rfl, _, _, rfl, Or.inl ⟨_, SqL.of eD, rfl⟩, rfl, _, rfl, iteNS rfl ?_⟩
    refine ⟨_, rfl, Or.inl ⟨D, _, _, .ref a2, rfl, rfl, SqL.of eD, rfl, _, _, rfl, Or.inl ⟨_, SqL.of e2, rfl⟩, rfl, _, rfl, iteNS rfl ?_⟩⟩
    refine ⟨_, rfl, Or.inl ⟨D, _, _, .ref a1, rfl, rfl, SqL.of eD, rfl, a1, _, "/", rfl, SqL.of e1, by omega, fun D2 us2 H2 hD2 s2 eD2 W2 => ?_⟩⟩
    rw [prt_sts TW] at W2
    have lu2 : us2.length = ss.length := by rw [W2.len, List.length_map]
    refine ⟨D2, rfl, ⟨_, SqL.of eD2⟩, comp_listI (xs := us2.map V.ref) (fun St i ys H' => ∃ ts : List Addr, Same H2 H' ∧ H' St = some (.lst ys) ∧ ys = ts.map V.ref ∧ StRows K (fun _ => True) H' St ts (ss.take i))
      (fun St hSt => ⟨[], same_new hSt, upd_same, rfl, by rw [List.take_zero]; exact StRows.nil⟩) (fun St i ys H' ⟨_, s3, _⟩ => SqL.of (s3 _ _ eD2)) (fun St i x ys H3 R hSt0 hx hv k => ?_) (fun St ys H3 hSt0 hv => ?_)⟩
    · obtain ⟨ts, s3, eSt, rfl, SR⟩ := hv
      rw [List.getElem?_map] at hx
      obtain ⟨u, hu, rfl⟩ := Option.map_eq_some_iff.mp hx
      have hil : i < ss.length := by rw [← lu2]; exact (List.getElem?_eq_some_iff.mp hu).1
      have hs := List.getElem?_eq_getElem hil
      have hms := List.mem_of_getElem? hs
      have eu := s3 _ _ (W2.at_ i u (wSt ss[i]) hu (by rw [List.getElem?_map, hs]; rfl))
      have lts : ts.length ≤ 8 := by rw [SR.len, List.length_take]; omega
      refine ⟨_, rfl, u, ss[i], rfl, SqL.of eu, TW.fit.gs _ hms, TW.fit.es _ hms, TW.go _ hms, TW.en _ hms, fun t g e gt H4 ht hg he nge s4 et eg GTs ee => ?_⟩
      have eSt4 := s4 _ _ eSt
      have ng : g ≠ St := fun z => by rw [z, eSt] at hg; cases hg
      have ne : e ≠ St := fun z => by rw [z, eSt] at he; cases he
      refine k _ _ eSt4 (by rw [List.length_map]; exact small1000 (by omega)) ⟨ts ++ [t], fun b o e => ?_, upd_same, by rw [List.map_append]; rfl, ?_⟩
      · rw [upd_ne (ne_of_none e hSt0)]; exact s4 _ _ (s3 b o e)
      · rw [List.take_succ, hs]
        exact ((SR.same s4).snoc et ⟨_, SqL.of eg, GTs.dts⟩ eg ee ng ne True.intro True.intro).updL eSt4
    obtain ⟨sts, s3, eSt, rfl, SR⟩ := hv
    rw [List.length_map, lu2, List.take_length] at SR
    have s13 := s2.trans s3
    refine g_in ?_
    try dsimp only
    refine ⟨_, rfl, Or.inl ⟨D, _, _, .ref a2, rfl, rfl, SqL.of (s13 _ _ eD), rfl, Or.inl ⟨a2, _, _, .str (nS n), rfl, rfl, SqL.of (s13 _ _ e2), rfl, n, rfl, TW.n0, TW.n9, fun H4 s4 => ?_⟩⟩⟩
    have s14 := s13.trans s4
    refine g_in ?_
    try dsimp only
    refine ⟨_, rfl, Or.inl ⟨D, _, _, .ref a3, rfl, rfl, SqL.of (s14 _ _ eD), rfl, a3, ps.map wPr, rfl, SqL.of (s14 _ _ e3), by omega, fun y hy => ?_, fun y hy hx => (pr_words TW.pr ⟨y, hy, hx⟩).c rfl, fun D5 us5 H5 hD5 s5 eD5 W5 => ?_⟩⟩
    · obtain ⟨p, _, rfl⟩ := List.mem_map.mp hy
      rfl
    have lu5 : us5.length = ps.length := by rw [W5.len, List.length_map]
    refine ⟨D5, rfl, ⟨_, SqL.of eD5⟩, comp_listI (xs := us5.map V.ref) (fun G i ys H' => ∃ ts : List Addr, Same H5 H' ∧ H' G = some (.lst ys) ∧ ys = ts.map V.ref ∧ Tups H' ts (ps.take i))
      (fun G hG => ⟨[], same_new hG, upd_same, rfl, by rw [List.take_zero]; exact Tups.nil⟩) (fun G i ys H' ⟨_, s6, _⟩ => SqL.of (s6 _ _ eD5)) (fun G i x ys H6 R hG0 hx hv k => ?_) (fun G ys H6 hG0 hv => ?_)⟩
    · obtain ⟨ts, s6, eG, rfl, T⟩ := hv
      rw [List.getElem?_map] at hx
      obtain ⟨u, hu, rfl⟩ := Option.map_eq_some_iff.mp hx
      have hil : i < ps.length := by rw [← lu5]; exact (List.getElem?_eq_some_iff.mp hu).1
      have hp := List.getElem?_eq_getElem hil
      have eu := s6 _ _ (W5.at_ i u (wPr ps[i]) hu (by rw [List.getElem?_map, hp]; rfl))
      obtain ⟨ok1, ok2⟩ := TW.pr _ (List.mem_of_getElem? hp)
      refine ⟨u, _, rfl, SqL.of eu, rfl, _, _, rfl, _, _, rfl, rfl, ?_⟩
      refine ⟨_, rfl, _, rfl, ok1, _, rfl, _, rfl, ok2, two_le, fun z hz => ?_⟩
      have s7 := same_new (o := .tup [.str ps[i].1, .str ps[i].2]) hz
      have T7 := (T.same s7).snoc (p := ps[i]) (t := z) upd_same
      have eG7 := s7 _ _ eG
      have lts : ts.length ≤ 40 := by rw [T.len, List.length_take]; omega
      refine k _ _ eG7 (by rw [List.length_map]; exact small1000 (by omega)) ⟨ts ++ [z], fun b o e => ?_, upd_same, by rw [List.map_append]; rfl, ?_⟩
      · rw [upd_ne (ne_of_none e hG0)]; exact s7 _ _ (s6 b o e)
      · rw [List.take_succ, hp]
        exact T7.upd (T7.ne eG7)
    obtain ⟨pts, s6, eG, rfl, T⟩ := hv
    rw [List.length_map, lu5, List.take_length] at T
    have s36 := (s4.trans s5).trans s6
    have s06 := (s01.trans s13).trans s36
    refine g_in ?_
    try dsimp only
    refine ⟨_, rfl, _, rfl, _, rfl, St, G, ss, ps, n, rfl, (SR.same s36).stE (s36 _ _ eSt), (SR.same s36).stts (s36 _ _ eSt), TW.fit, T.prs eG, TW.pl, hN, TW.n0, n1, hG, hT, hR, fun t rs ord H7 hrl hso hO ht s7 TB => ?_⟩
    exact q t rs ord H7 hrl hso hO (s06.free ht) (s06.trans s7) (TB.mono fun x hx => s06.free hx)
theorem call_read_table {f : Addr} {fd : FuncData} (B : Blt mg) (ER : Ers K mg) (c_parted : Callee P w K mg base "parted" 1 ["words", "sign"] (sp_parted K)) (c_read_state : Callee P w K mg base "read_state" 3 ["words"] (sp_read_state K)) (c_read_number : Callee P w K mg base "read_number" 1 ["word"] (sp_read_number K)) (c_read_twos : Callee P w K mg base "read_twos" 2 ["words"] (sp_read_twos K)) (c_read_label : Callee P w K mg base "read_label" 1 ["word"] (sp_read_label K)) (c_table_of : Callee P w K mg base "table_of" 4 ["states", "inner", "pairs"] (sp_table_of K)) (F : Fun K "read_table" "read_table" s_read_table f fd) (hm : mg "read_table" = some (.ref f)) : Callee P w K mg base "read_table" 5 ["text"] (sp_read_table K) :=
  ⟨f, fd, ok_read_table B ER c_parted c_read_state c_read_number c_read_twos c_read_label c_table_of F, hm, F.kp, F.binds fun _ _ _ _ _ _ us hl => (by obtain ⟨x0, rfl⟩ := len_1 hl; rfl)⟩

def sp__law_kinds (K : PySem.W.Frag) : Sp := fun vs H Q _ => ∃ (t : Addr) (rs : List Stt) (n : Int) (ord : List (Str × Str)) (F : Addr → Prop), vs = [.ref t] ∧ Tab K F H t rs n ord ∧ Q (.bl true) H
set_option maxHeartbeats 4000000 in
seal L2.PE L2.PA L2.PS L2.PSs L2.PT L2.PW L2.PC L2.PG L2.PGs L2.PI L2.PF L2.PSet L2.OpR L2.UnR L2.CallR L2.MtR L2.IxR L2.SlR L2.PO in
theorem ok__law_kinds {f : Addr} {fd : FuncData} (B : Blt mg) (ER : Ers K mg)  (F : Fun K "_law_kinds" "_law_kinds" s__law_kinds f fd) : FnOk P w K mg base CX0 1 f fd ["_law_table"] (sp__law_kinds K) := by
  refine F.ok sc__law_kinds (fun vs H Q E h => ?_) (fun cdv A outer s H vs Q E hr h => ?_)
  · obtain ⟨t, rs, n, ord, F, rfl, _⟩ := h
    rfl
  · obtain ⟨t, rs, n, ord, Fr, rfl, ⟨a, o, us, ts, et, _, _, nao, ea, SR, eo, TO⟩, q⟩ := h
    have hT : SqT K H t [.ref a, .int n, .ref o] := SqT.of et
    refine ⟨_, (pss_cons (ps_if (PW.pt (pw_or (pt_not (pt_val (pe_callB call_isi B.b_isinstance (pa_cons (pv 0) (pa_cons (pe_ty "tuple" rfl B.b_tuple (by decide +kernel)) pa_nil))))) (pw_or (pt_cmpR op_ne (pe_callB call_len B.b_len (pa_cons (pv 0) pa_nil)) pe_int (nomark _)) (pw_or1 (pt_not (pt_val (pe_callB call_isi B.b_isinstance (pa_cons (pe_ix ix_seq (pv 0) pe_int) (pa_cons (pe_ty "list" rfl B.b_list (by decide +kernel)) pa_nil))))))))) (pss_one (ps_ret pe_bl)) pss_nil)
      (pss_cons (ps_for PassesOwn.never rfl (pi_list (pe_ix ix_seq (pv 0) pe_int)) (pg_name (i := 1) sc__law_kinds.nd) (pss_cons (ps_if (PW.pt (pw_or (pt_not (pt_val (pe_callB call_isi B.b_isinstance (pa_cons (pv 1) (pa_cons (pe_ty "tuple" rfl B.b_tuple (by decide +kernel)) pa_nil))))) (pw_or (pt_not (pt_val (pe_callB call_isi B.b_isinstance (pa_cons (pe_ix ix_seq (pv 1) pe_int) (pa_cons (pe_ty "list" rfl B.b_list (by decide +kernel)) pa_nil))))) (pw_or1 (pt_not (pt_val (pe_callB call_isi B.b_isinstance (pa_cons (pe_ix ix_seq (pv 1) pe_int) (pa_cons (pe_ty "list" rfl B.b_list (by decide +kernel)) pa_nil))))))))) (pss_one (ps_ret pe_bl)) pss_nil)
        (pss_one (ps_for PassesOwn.never rfl (pi_list (pe_ix ix_seq (pv 1) pe_int)) (pg_name (i := 2) sc__law_kinds.nd) (pss_one (ps_if (PW.pt (pw_or (pt_not (pt_val (pe_callB call_isi B.b_isinstance (pa_cons (pv 2) (pa_cons (pe_ty "tuple" rfl B.b_tuple (by decide +kernel)) pa_nil))))) (pw_or1 (pt_val (pe_callB call_isi B.b_isinstance (pa_cons (pe_ix ix_seq (pv 2) (pe_un un_neg pe_int)) (pa_cons (pe_ty "bool" rfl B.b_bool (by decide +kernel)) pa_nil))))))) (pss_one (ps_ret pe_bl)) pss_nil))))))
      (pss_one (ps_ret (pe_and (pe_callB call_isi B.b_isinstance (pa_cons (pe_ix ix_seq (pv 0) pe_int) (pa_cons (pe_ty "list" rfl B.b_list (by decide +kernel)) pa_nil))) (pe_one (pe_not (pe_callB call_isi B.b_isinstance (pa_cons (pe_ix ix_seq (pv 0) pe_int) (pa_cons (pe_ty "bool" rfl B.b_bool (by decide +kernel)) pa_nil)))))))))), ?_⟩
    refine ⟨_, rfl, _, .tup, .tup, rfl, .tup hT, _, rfl, iteF ?_⟩
    refine ⟨_, rfl, _, _, rfl, Or.inr ⟨_, hT, rfl⟩, rfl, _, rfl, iteNS rfl ?_⟩
    refine ⟨_, rfl, Or.inr (Or.inl ⟨t, _, _, .ref a, rfl, rfl, hT, rfl, _, .lst, .lst, rfl, .lst (SqL.of ea), _, rfl, iteF ?_⟩)⟩
    refine ⟨_, rfl, Or.inr (Or.inl ⟨t, _, _, .ref a, rfl, rfl, hT, rfl, a, rfl, ⟨_, SqL.of ea⟩, ?_⟩)⟩
    refine for_list (xs := us.map V.ref) (fun j σ H' => ∃ u1 u2, σ = [some (.ref t), u1, u2] ∧ H' = H) ⟨_, _, rfl, rfl⟩ (fun i σ H' _ ⟨_, _, _, e⟩ => by rw [e]; exact SqL.of ea) ?_ ?_
    · rintro i x σ H2 hx ⟨u1, u2, rfl, rfl⟩
      rw [List.getElem?_map] at hx
      obtain ⟨u, hu, rfl⟩ := Option.map_eq_some_iff.mp hx
      have hir : i < rs.length := by rw [← SR.len]; exact (List.getElem?_eq_some_iff.mp hu).1
      obtain ⟨G, E1, xs, b1, ⟨Gv, hG, hGd⟩, b3, b4, _⟩ := SR.at_ i u _ hu (List.getElem?_eq_getElem hir)
      have hu' : SqT K H2 u [.ref G, .ref E1] := SqT.of b1
      refine ⟨_, rfl, _, .tup, .tup, rfl, .tup hu', _, rfl, iteF ?_⟩
      refine ⟨_, rfl, Or.inr (Or.inl ⟨u, _, _, .ref G, rfl, rfl, hu', rfl, _, .lst, .lst, rfl, .lst hG, _, rfl, iteF ?_⟩)⟩
      refine ⟨_, rfl, Or.inr (Or.inl ⟨u, _, _, .ref E1, rfl, rfl, hu', rfl, _, .lst, .lst, rfl, .lst (SqL.of b4), _, rfl, iteF ?_⟩)⟩
      refine ⟨_, rfl, Or.inr (Or.inl ⟨u, _, _, .ref G, rfl, rfl, hu', rfl, G, rfl, ⟨_, hG⟩, ?_⟩)⟩
      refine for_list (xs := Gv) (fun j σ H' => ∃ u2, σ = [some (.ref t), some (.ref u), u2] ∧ H' = H2) ⟨_, rfl, rfl⟩ (fun i σ H' _ ⟨_, _, e⟩ => by rw [e]; exact hG) ?_ ?_
      · rintro n z σ H4 hz ⟨u2, rfl, rfl⟩
        obtain ⟨p, t', hp, rfl, ht'⟩ := hGd.goes_get hz
        refine ⟨_, rfl, _, .tup, .tup, rfl, .tup ht', _, rfl, iteF ?_⟩
        refine ⟨_, rfl, _, rfl, Or.inr (Or.inl ⟨t', _, _, .int p.2, rfl, rfl, ht', rfl, _, .bool, .int, rfl, .int _, _, rfl, iteF ?_⟩)⟩
        exact ⟨_, rfl, rfl⟩
      · rintro σ H4 ⟨u2, rfl, rfl⟩
        exact ⟨_, _, rfl, rfl⟩
    · rintro σ H2 ⟨u1, u2, rfl, rfl⟩
      refine ⟨_, rfl, Or.inr (Or.inl ⟨t, _, _, .ref o, rfl, rfl, hT, rfl, _, .lst, .lst, rfl, .lst (SqL.of eo), _, rfl, iteT ?_⟩)⟩
      exact ⟨_, rfl, Or.inr (Or.inl ⟨t, _, _, .int n, rfl, rfl, hT, rfl, _, .bool, .int, rfl, .int _, _, rfl, q⟩)⟩
theorem call__law_kinds {f : Addr} {fd : FuncData} (B : Blt mg) (ER : Ers K mg)  (F : Fun K "_law_kinds" "_law_kinds" s__law_kinds f fd) (hm : mg "_law_kinds" = some (.ref f)) : Callee P w K mg base "_law_kinds" 1 ["_law_table"] (sp__law_kinds K) :=
  ⟨f, fd, ok__law_kinds B ER  F, hm, F.kp, F.binds fun _ _ _ _ _ _ us hl => (by obtain ⟨x0, rfl⟩ := len_1 hl; rfl)⟩
theorem path_up {ls : List Str} {ps : List (Str × Str)} (nd : ls.Nodup) (h : ∀ x ∈ ps, UpPair ls x) {a b : Str} (p : Path ps a b) : UpPair ls (a, b) := by
  induction p with
  | one e => exact h _ e
  | snoc _ e ih =>
    obtain ⟨i, j, hij, h1, h2⟩ := ih
    obtain ⟨i', j', hij', h1', h2'⟩ := h _ e
    have ej : j = i' := by
      obtain ⟨q1, e1⟩ := List.getElem?_eq_some_iff.mp h2
      obtain ⟨q2, e2⟩ := List.getElem?_eq_some_iff.mp h1'
      exact (List.getElem_inj nd).mp (e1.trans e2.symm)
    subst ej
    exact ⟨i, j', by omega, h1, h2'⟩
theorem up_ac {ls : List Str} {ps : List (Str × Str)} (nd : ls.Nodup) (h : ∀ x ∈ ps, UpPair ls x) (a : Str) : ¬ Path ps a a := fun p => by
  obtain ⟨i, j, hij, h1, h2⟩ := path_up nd h p
  obtain ⟨q1, e1⟩ := List.getElem?_eq_some_iff.mp h1
  obtain ⟨q2, e2⟩ := List.getElem?_eq_some_iff.mp h2
  have := (List.getElem_inj nd).mp (e1.trans e2.symm)
  omega
theorem ltP_irrefl (p : Str × Str) : ¬ ltP p p := fun h => by
  rcases h with h | ⟨_, h⟩
  · exact ltS_irrefl _ h
  · exact ltS_irrefl _ h
theorem ltP_asymm {p q : Str × Str} (h : ltP p q) (k : ltP q p) : False := by
  rcases h with h | ⟨e, h⟩ <;> rcases k with k | ⟨e', k⟩
  · exact ltS_irrefl _ (ltS_trans h k)
  · rw [e'] at h; exact ltS_irrefl _ h
  · rw [e] at k; exact ltS_irrefl _ k
  · exact ltS_irrefl _ (ltS_trans h k)
theorem sorted_same : ∀ {l m : List (Str × Str)}, l.Pairwise ltP → m.Pairwise ltP → (∀ x, x ∈ l ↔ x ∈ m) → l = m
  | [], [], _, _, _ => rfl
  | [], y :: m, _, _, h => absurd ((h y).mpr List.mem_cons_self) (by simp)
  | x :: l, [], _, _, h => absurd ((h x).mp List.mem_cons_self) (by simp)
  | x :: l, y :: m, hl, hm, h => by
    obtain ⟨a1, a2⟩ := List.pairwise_cons.mp hl
    obtain ⟨b1, b2⟩ := List.pairwise_cons.mp hm
    have exy : x = y := by
      rcases List.mem_cons.mp ((h x).mp List.mem_cons_self) with e | h1
      · exact e
      · rcases List.mem_cons.mp ((h y).mpr List.mem_cons_self) with e | h2
        · exact e.symm
        · exact (ltP_asymm (a1 y h2) (b1 x h1)).elim
    subst exy
    have : l = m := sorted_same a2 b2 fun z => by
      constructor
      · intro hz
        rcases List.mem_cons.mp ((h z).mp (List.mem_cons_of_mem _ hz)) with e | h1
        · rw [e] at hz; exact absurd (a1 x hz) (ltP_irrefl x)
        · exact h1
      · intro hz
        rcases List.mem_cons.mp ((h z).mpr (List.mem_cons_of_mem _ hz)) with e | h1
        · rw [e] at hz; exact absurd (b1 x hz) (ltP_irrefl x)
        · exact h1
    rw [this]
theorem OrdOf.same {ps o1 o2 : List (Str × Str)} (h : OrdOf ps o1) (k : OrdOf ps o2) : o1 = o2 := sorted_same h.srt k.srt fun ⟨a, b⟩ => (h.mem a b).trans (k.mem a b).symm
theorem low_name {x : Str} (h : LowS x) : nameB x = true := by
  obtain ⟨h1, h2, h3⟩ := h
  unfold nameB
  rw [decide_eq_true h1, decide_eq_true h2, Bool.true_and, Bool.true_and, List.all_eq_true]
  intro c hc
  unfold signB
  rw [decide_eq_true (h3 c hc).1, decide_eq_true (h3 c hc).2]; rfl
theorem ord_of {ps ord : List (Str × Str)} (hm : ∀ a b, (a, b) ∈ ord ↔ Path ps a b) (nd : ord.Nodup) (hs : ord.Pairwise (lexO strO strO).kle) : OrdOf ps ord :=
  ⟨hm, (hs.and nd).imp fun h => pair_kle h.1 h.2⟩
theorem seq_hide {t u : TS} {D : Ends} {σ : L2.St} {H : Hp} (h : ∀ u', u' = u → tSeq t u' D σ H) : tSeq t u D σ H := h u rfl
theorem low_ok {x : Str} (h : LowS x) : OkW x := by
  obtain ⟨h1, h2, h3⟩ := h
  have ne : ∀ y : Str, (∃ c ∈ y.cps.toList, c < 97 ∨ 122 < c) → x ≠ y := fun y ⟨c, hc, hb⟩ z => by
    have := h3 c (by rw [z]; exact hc)
    omega
  exact ⟨ne _ (by decide +kernel), ne _ (by decide +kernel), ne _ (by decide +kernel), ne _ (by decide +kernel), fun z => by have := h3 32 z; omega, h2⟩
theorem st_drawn {ls : List Str} {m : Int} {s r : Stt} (h : Drawn ls m s) (p1 : r.1.Perm s.1) (p2 : r.2.Perm s.2) : Drawn ls m r :=
  ⟨by rw [p1.length_eq]; exact h.gl, by rw [p2.length_eq]; exact h.el, ((p1.map _).nodup_iff).mpr h.gn, p2.nodup_iff.mpr h.en, fun g hg => h.gm g (p1.mem_iff.mp hg), fun x hx => h.em x (p2.mem_iff.mp hx)⟩
/-! the pairs with nothing between tell the whole order -/
noncomputable def cntB (ord : List (Str × Str)) (a b : Str) : Nat := ((ord.map (·.2)).filter fun x => dec ((a, x) ∈ ord ∧ (x, b) ∈ ord)).length
theorem cnt_lt {U : List Str} {p q : Str → Bool} (h : ∀ x ∈ U, p x = true → q x = true) {l : Str} (hl : l ∈ U) (h1 : q l = true) (h2 : ¬ p l = true) : (U.filter p).length < (U.filter q).length := by
  have e : U.filter p = (U.filter q).filter p := by
    rw [List.filter_filter]
    refine List.filter_congr fun x hx => ?_
    cases e : p x with
    | false => rfl
    | true => rw [h x hx e]; rfl
  rw [e, List.length_filter_lt_length_iff_exists]
  exact ⟨l, List.mem_filter.mpr ⟨hl, h1⟩, h2⟩
theorem bare_path {ps ord : List (Str × Str)} (hO : OrdOf ps ord) (ac : ∀ x, ¬ Path ps x x) : ∀ (k : Nat) (a b : Str), cntB ord a b < k → (a, b) ∈ ord → Path (bareOf ord) a b
  | 0, a, b, hk, hab => absurd hk (Nat.not_lt_zero _)
  | k + 1, a, b, hk, hab => by
    by_cases hx : ∃ l, (a, l) ∈ ord ∧ (l, b) ∈ ord
    · obtain ⟨l, h1, h2⟩ := hx
      have tr : ∀ x y z, (x, y) ∈ ord → (y, z) ∈ ord → (x, z) ∈ ord := fun x y z q1 q2 => (hO.mem x z).mpr (((hO.mem x y).mp q1).trans ((hO.mem y z).mp q2))
      have ir : ∀ x, (x, x) ∉ ord := fun x q => ac x ((hO.mem x x).mp q)
      have hl : l ∈ ord.map (·.2) := List.mem_map.mpr ⟨_, h1, rfl⟩
      have s1 : cntB ord a l < cntB ord a b := cnt_lt (l := l) (fun x _ q => dec_true ⟨(dec_iff.mp q).1, tr _ _ _ (dec_iff.mp q).2 h2⟩) hl (dec_true ⟨h1, h2⟩) fun q => ir l (dec_iff.mp q).2
      have s2 : cntB ord l b < cntB ord a b := cnt_lt (l := l) (fun x _ q => dec_true ⟨tr _ _ _ h1 (dec_iff.mp q).1, (dec_iff.mp q).2⟩) hl (dec_true ⟨h1, h2⟩) fun q => ir l (dec_iff.mp q).1
      exact (bare_path hO ac k a l (by omega) h1).trans (bare_path hO ac k l b (by omega) h2)
    · refine .one (List.mem_filter.mpr ⟨hab, ?_⟩)
      unfold bareB
      rw [Bool.not_eq_true', ← Bool.not_eq_true, dec_iff]
      exact hx
theorem bare_ord {ps ord : List (Str × Str)} (hO : OrdOf ps ord) (ac : ∀ x, ¬ Path ps x x) : OrdOf (bareOf ord) ord := by
  refine ⟨fun a b => ⟨fun h => bare_path hO ac _ a b (Nat.lt_succ_self _) h, fun h => ?_⟩, hO.srt⟩
  have sub : ∀ p ∈ bareOf ord, p ∈ ord := fun p hp => (List.mem_filter.mp hp).1
  have key : Path ps a b := by
    induction h with
    | one e => exact (hO.mem _ _).mp (sub _ e)
    | snoc _ e ih => exact ih.trans ((hO.mem _ _).mp (sub _ e))
  exact (hO.mem a b).mpr key
/-! how many pairs there may be -/
def upsL : List Str → List (Str × Str)
  | [] => []
  | a :: r => r.map (fun b => (a, b)) ++ upsL r
def triN : Nat → Nat
  | 0 => 0
  | n + 1 => n + triN n
theorem ups_len : ∀ l : List Str, (upsL l).length = triN l.length
  | [] => rfl
  | a :: r => by
    show (r.map (fun b => (a, b)) ++ upsL r).length = r.length + triN r.length
    rw [List.length_append, List.length_map, ups_len r]
theorem ups_mem : ∀ {l : List Str} {p : Str × Str}, UpPair l p → p ∈ upsL l
  | [], p, ⟨i, j, _, h1, _⟩ => by simp at h1
  | a :: r, p, ⟨i, j, hij, h1, h2⟩ => by
    cases j with
    | zero => omega
    | succ j =>
      have h2 : r[j]? = some p.2 := by simpa using h2
      cases i with
      | zero =>
        have h1 : a = p.1 := by simpa using h1
        exact List.mem_append_left _ (List.mem_map.mpr ⟨p.2, List.mem_of_getElem? h2, by rw [h1]⟩)
      | succ i => exact List.mem_append_right _ (ups_mem ⟨i, j, by omega, by simpa using h1, h2⟩)
theorem ord_len {ls : List Str} {ord : List (Str × Str)} (h8 : ls.length ≤ 8) (nd : ord.Nodup) (h : ∀ p ∈ ord, UpPair ls p) : ord.length ≤ 28 := by
  have h1 := Ord.nodup_sub_length nd fun p hp => ups_mem (h p hp)
  rw [ups_len] at h1
  have h2 : ∀ n, n ≤ 8 → triN n ≤ 28 := by decide
  have := h2 _ h8
  omega
/-- what is asked of a text of a table, and what it tells -/
structure RdT (ss : List Stt) (n : Int) (ps : List (Str × Str)) (rs : List Stt) (ord : List (Str × Str)) : Prop where
  tw : TOkW ss n ps
  nm : ∀ x ∈ labelsOf ss ++ labelsP ps, nameB x = true
  n1 : n < ss.length
  pl : ∀ s ∈ ss, ∀ g ∈ s.1, 0 ≤ g.2 ∧ g.2 < ss.length
  nd : ∀ s ∈ ss, (s.1.map (·.1)).Nodup ∧ s.2.Nodup
  ac : ∀ x, ¬ Path ps x x
  un : ∀ (rs' : List Stt) (ord' : List (Str × Str)), rs'.length = ss.length → (∀ (i : Nat) (s r : Stt), ss[i]? = some s → rs'[i]? = some r → SrtOf s r) → OrdOf ps ord' → rs' = rs ∧ ord' = ord
theorem srt_all {ss rs rs' : List Stt} (h1 : rs.length = ss.length) (h2 : rs'.length = ss.length) (k1 : ∀ (i : Nat) (s r : Stt), ss[i]? = some s → rs[i]? = some r → SrtOf s r) (k2 : ∀ (i : Nat) (s r : Stt), ss[i]? = some s → rs'[i]? = some r → SrtOf s r) : rs' = rs := by
  refine List.ext_getElem (by omega) fun i q1 q2 => ?_
  have qs : i < ss.length := by omega
  have a := k1 i _ _ (List.getElem?_eq_getElem qs) (List.getElem?_eq_getElem q2)
  have b := k2 i _ _ (List.getElem?_eq_getElem qs) (List.getElem?_eq_getElem q1)
  exact Prod.ext (srt_uniq (O := lexO strO intO) (b.pg.trans a.pg.symm) b.og a.og) (srt_uniq (O := strO) (b.pe.trans a.pe.symm) b.oe a.oe)
theorem RdT.of {ls : List Str} {m n : Int} {ss rs : List Stt} {ps ord : List (Str × Str)} (dr : ∀ s ∈ ss, Drawn ls m s) (hm1 : 1 ≤ m) (hm8 : m ≤ 8) (hl : ss.length = m.toNat) (n0 : 0 ≤ n) (n1 : n < m) (hup : ∀ p ∈ ps, UpPair ls p) (hpl : ps.length ≤ 40) (hnd : ls.Nodup) (hlw : ∀ x ∈ ls, LowS x)
    (hrl : rs.length = ss.length) (hso : ∀ (i : Nat) (s r : Stt), ss[i]? = some s → rs[i]? = some r → SrtOf s r) (hO : OrdOf ps ord) : RdT ss n ps rs ord := by
  have inL : ∀ q ∈ ps, q.1 ∈ ls ∧ q.2 ∈ ls := fun q hq => by
    obtain ⟨i, j, _, h1, h2⟩ := hup q hq
    exact ⟨List.mem_of_getElem? h1, List.mem_of_getElem? h2⟩
  refine ⟨⟨fun s hs g hg => ?_, fun s hs x hx => low_ok (hlw x ((dr s hs).em x hx)), fun p hp => ⟨low_ok (hlw _ (inL p hp).1), low_ok (hlw _ (inL p hp).2)⟩, n0, by omega, fun z => ?_, ⟨by omega, fun s hs => (dr s hs).gl, fun s hs => (dr s hs).el⟩, hpl⟩, fun x hx => ?_, by omega, fun s hs g hg => ?_, fun s hs => ⟨(dr s hs).gn, (dr s hs).en⟩, up_ac hnd hup, fun rs' ord' q1 q2 q3 => ⟨srt_all hrl q1 hso q2, OrdOf.same q3 hO⟩⟩
  · obtain ⟨h1, h2, h3⟩ := (dr s hs).gm g hg
    exact ⟨low_ok (hlw _ h1), h2, by omega⟩
  · rw [z] at hl
    simp at hl
    omega
  · refine low_name (hlw x ?_)
    rcases List.mem_append.mp hx with hx | hx
    · obtain ⟨s, hs, hx⟩ := List.mem_flatMap.mp hx
      rcases List.mem_append.mp hx with hx | hx
      · obtain ⟨g, hg, rfl⟩ := List.mem_map.mp hx
        exact ((dr s hs).gm g hg).1
      · exact (dr s hs).em x hx
    · obtain ⟨p, hp, hx⟩ := List.mem_flatMap.mp hx
      have := inL p hp
      simp at hx
      rcases hx with rfl | rfl
      · exact this.1
      · exact this.2
  · have := ((dr s hs).gm g hg).2
    omega
/-! a table and its like are compared -/
theorem cmp_prN {n : Nat} (p q : Str × Str) : Cmp (n + 1) (prD p) (prD q) := .tup (.cons (.str _ _) (.cons (.str _ _) (.nil _)))
theorem cmp_goN {n : Nat} (p q : Str × Int) : Cmp (n + 1) (goD p) (goD q) := .tup (.cons (.str _ _) (.cons (.int _ _) (.nil _)))
theorem cmp_stN {n : Nat} (s r : Stt) : Cmp (n + 3) (stD s) (stD r) := by
  refine .tup (.cons (.lst (Cmps.of fun d hd e he => ?_)) (.cons (.lst (Cmps.of fun d hd e he => ?_)) (.nil _)))
  · obtain ⟨p, _, rfl⟩ := List.mem_map.mp hd
    obtain ⟨q, _, rfl⟩ := List.mem_map.mp he
    exact cmp_goN p q
  · obtain ⟨p, _, rfl⟩ := List.mem_map.mp hd
    obtain ⟨q, _, rfl⟩ := List.mem_map.mp he
    exact .str _ _
abbrev tabD (rs : List Stt) (n : Int) (ord : List (Str × Str)) : Dt := .tup [.lst (rs.map stD), .int n, .lst (ord.map prD)]
theorem cmp_tab (rs : List Stt) (n : Int) (ord : List (Str × Str)) : Cmp 6 (tabD rs n ord) (tabD rs n ord) := by
  refine .tup (.cons (.lst (Cmps.of fun d hd e he => ?_)) (.cons (.int _ _) (.cons (.lst (Cmps.of fun d hd e he => ?_)) (.nil _))))
  · obtain ⟨p, _, rfl⟩ := List.mem_map.mp hd
    obtain ⟨q, _, rfl⟩ := List.mem_map.mp he
    exact cmp_stN p q
  · obtain ⟨p, _, rfl⟩ := List.mem_map.mp hd
    obtain ⟨q, _, rfl⟩ := List.mem_map.mp he
    exact cmp_prN p q
theorem Tab.dt {K : PySem.W.Frag} {F : Addr → Prop} {H : Hp} {t : Addr} {rs : List Stt} {n : Int} {ord : List (Str × Str)} (h : Tab K F H t rs n ord) : IsDt K H (.ref t) (tabD rs n ord) := by
  obtain ⟨a, o, us, ts, et, _, _, _, ea, SR, eo, TO⟩ := h.ex
  exact .tup (SqT.of et) (.cons (.lst (SqL.of ea) SR.dts) (.cons (.int _) (.cons (.lst (SqL.of eo) TO.dts) .nil)))

def sp_law (K : PySem.W.Frag) : Sp := fun vs H Q _ => ∃ (a : Addr) (ns : List Int), vs = [.ref a] ∧ SqL K H a (ns.map V.int) ∧ ns.length ≤ 63 ∧ ∀ H', Q (.bl true) H'
set_option maxHeartbeats 4000000 in
seal L2.PE L2.PA L2.PS L2.PSs L2.PT L2.PW L2.PC L2.PG L2.PGs L2.PI L2.PF L2.PSet L2.OpR L2.UnR L2.CallR L2.MtR L2.IxR L2.SlR L2.PO in
theorem ok_law {f : Addr} {fd : FuncData} (B : Blt mg) (ER : Ers K mg) (c__law_cell_at : Callee P w K mg base "_law_cell_at" 1 ["_law_script", "_law_k"] (sp__law_cell_at K)) (c__law_names : Callee P w K mg base "_law_names" 1 ["_law_cell", "_law_many"] (sp__law_names K)) (c__law_state : Callee P w K mg base "_law_state" 2 ["_law_script", "_law_start", "_law_labels", "_law_many", "_law_full"] (sp__law_state K)) (c__law_pairs : Callee P w K mg base "_law_pairs" 1 ["_law_cells", "_law_labels"] (sp__law_pairs K)) (c__law_joined : Callee P w K mg base "_law_joined" 1 ["_law_pairs_here", "_law_labels"] (sp__law_joined K)) (c__law_words : Callee P w K mg base "_law_words" 2 ["_law_states", "_law_inner", "_law_pairs_here"] (sp__law_words K)) (c__law_bare : Callee P w K mg base "_law_bare" 1 ["_law_order"] (sp__law_bare K)) (c_show_table : Callee P w K mg base "show_table" 3 ["table"] (sp_show_table K)) (c_table_of : Callee P w K mg base "table_of" 4 ["states", "inner", "pairs"] (sp_table_of K)) (c__law_turned : Callee P w K mg base "_law_turned" 1 ["_law_some", "_law_cell"] (sp__law_turned K)) (c_read_table : Callee P w K mg base "read_table" 5 ["text"] (sp_read_table K)) (c__law_kinds : Callee P w K mg base "_law_kinds" 1 ["_law_table"] (sp__law_kinds K)) (F : Fun K "law" "law" s_law f fd) : FnOk P w K mg base CX0 6 f fd ["_law_script"] (sp_law K) := by
  refine F.ok sc_law (fun vs H Q E h => ?_) (fun cdv A outer s H vs Q E hr h => ?_)
  · obtain ⟨a, ns, rfl, _⟩ := h
    rfl
  · obtain ⟨a, ns, rfl, hS, hlen, kq⟩ := h
    refine ⟨_, (pss_cons (ps_set (i := 1) sc_law.nd (pe_cmpR op_eq (pe_op op_mod (pe_fn c__law_cell_at (pa_cons (pv 0) (pa_cons pe_int pa_nil))) pe_int) pe_int (nomark _)))
      (pss_cons (ps_set (i := 2) sc_law.nd (pe_op op_add pe_int (pe_op op_mod (pe_op op_fdiv (pe_fn c__law_cell_at (pa_cons (pv 0) (pa_cons pe_int pa_nil))) pe_int) pe_int)))
      (pss_cons (ps_set (i := 3) sc_law.nd (pe_op op_add pe_int (pe_op op_mod (pe_op op_fdiv (pe_fn c__law_cell_at (pa_cons (pv 0) (pa_cons pe_int pa_nil))) pe_int) pe_int)))
      (pss_cons (ps_if (pt_val (pv 1)) (pss_cons (ps_set (i := 2) sc_law.nd pe_int)
        (pss_one (ps_set (i := 3) sc_law.nd pe_int))) pss_nil)
      (pss_cons (ps_set (i := 4) sc_law.nd (pe_fn c__law_names (pa_cons (pe_fn c__law_cell_at (pa_cons (pv 0) (pa_cons pe_int pa_nil))) (pa_cons (pv 3) pa_nil))))
      (pss_cons (ps_setC (i := 5) sc_law.nd rfl (Or.inl rfl) rfl law_cs1 (pi_range1 rfl B.b_range (pa_cons (pv 2) pa_nil)) (fun _ _ _ _ _ => (pg_name (i := 0) law_cs1.nd)) (fun _ _ _ _ _ => pf_nil) (fun _ _ _ _ _ => (pe_fn c__law_state (pa_cons (pv 1) (pa_cons (pe_op op_add pe_int (pe_op op_mul (pv 0) (pv 5))) (pa_cons (pv 2) (pa_cons (pv 3) (pa_cons (pv 4) pa_nil))))))))
      (pss_cons (ps_set (i := 6) sc_law.nd (pe_fn c__law_pairs (pa_cons (pe_slice sl_list (pe_slice sl_list (pv 0) (po_some (pe_op op_add pe_int (pe_op op_fdiv (pe_op op_mul (pv 2) (pv 3)) pe_int))) po_none) po_none (po_some pe_int)) (pa_cons (pv 4) pa_nil))))
      (pss_cons (ps_set (i := 7) sc_law.nd (pe_op op_mod (pe_op op_fdiv (pe_fn c__law_cell_at (pa_cons (pv 0) (pa_cons pe_int pa_nil))) pe_int) (pv 2)))
      (pss_cons (ps_set (i := 8) sc_law.nd (pe_fn c__law_joined (pa_cons (pv 6) (pa_cons (pv 4) pa_nil))))
      (pss_cons (ps_setC (i := 9) sc_law.nd rfl (Or.inl rfl) (g := gTup K 2 (gCons (gName 0) (gCons (gName 1) gNil))) (te := tTup (tCons (tCB (rSortPK K strC intC) (tCons (tVar 0) tNil)) (tCons (tCB (rSortSK K) (tCons (tVar 1) tNil)) tNil))) rfl law_cs2 (pi_list (pv 5)) (fun _ _ _ _ _ => (pg_tup (n := 2) rfl (pgs_cons (pg_name (i := 0) law_cs2.nd) (pgs_cons (pg_name (i := 1) law_cs2.nd) pgs_nil)))) (fun _ _ _ _ _ => pf_nil) (fun _ _ _ _ _ => (pe_tup (pa_cons (pe_callB (call_sortPK strC intC) B.b_sorted (pa_cons (pv 0) pa_nil)) (pa_cons (pe_callB call_sortSK B.b_sorted (pa_cons (pv 1) pa_nil)) pa_nil)))))
      (pss_cons (ps_set (i := 10) sc_law.nd (pe_bm PySem.F.plainAttrs_str PySem.F.slot_str_join PySem.F.type_str_join mt_join pe_str (pa_cons (pe_fn c__law_words (pa_cons (pv 9) (pa_cons (pv 7) (pa_cons (pe_fn c__law_bare (pa_cons (pv 8) pa_nil)) pa_nil)))) pa_nil)))
      (pss_cons (ps_set (i := 11) sc_law.nd (pe_fn c_show_table (pa_cons (pe_fn c_table_of (pa_cons (pv 5) (pa_cons (pv 7) (pa_cons (pv 6) pa_nil)))) pa_nil)))
      (pss_cons (ps_if (PW.pt (pw_or (pt_not (pt_val (pe_callB call_isi B.b_isinstance (pa_cons (pv 11) (pa_cons (pe_ty "str" rfl B.b_str (by decide +kernel)) pa_nil))))) (pw_or1 (pt_cmpR op_ne (pv 11) (pv 10) (nomark _))))) (pss_one (ps_ret pe_bl)) pss_nil)
      (pss_cons (ps_set (i := 12) sc_law.nd (pe_op op_mod (pe_fn c__law_cell_at (pa_cons (pv 0) (pa_cons pe_int pa_nil))) pe_int))
      (pss_cons (ps_setC (i := 13) sc_law.nd rfl (Or.inl rfl) (g := gTup K 2 (gCons (gName 0) (gCons (gName 1) gNil))) rfl law_cs3 (pi_list (pv 5)) (fun _ _ _ _ _ => (pg_tup (n := 2) rfl (pgs_cons (pg_name (i := 0) law_cs3.nd) (pgs_cons (pg_name (i := 1) law_cs3.nd) pgs_nil)))) (fun _ _ _ _ _ => pf_nil) (fun _ _ _ _ _ => (pe_tup (pa_cons (pe_fn c__law_turned (pa_cons (pv 0) (pa_cons (pv 2) pa_nil))) (pa_cons (pe_fn c__law_turned (pa_cons (pv 1) (pa_cons (pe_op op_fdiv (pv 2) pe_int) pa_nil))) pa_nil)))))
      (pss_cons (ps_for PassesOwn.never rfl (pi_list (pe_lst (pa_cons (pv 10) (pa_cons (pe_bm PySem.F.plainAttrs_str PySem.F.slot_str_join PySem.F.type_str_join mt_join pe_str (pa_cons (pe_fn c__law_words (pa_cons (pv 13) (pa_cons (pv 7) (pa_cons (pv 6) pa_nil)))) pa_nil)) pa_nil)))) (pg_name (i := 14) sc_law.nd) (pss_cons (ps_set (i := 15) sc_law.nd (pe_fn c_read_table (pa_cons (pv 14) pa_nil)))
        (pss_cons (ps_if (PW.pt (pw_or (pt_not (pt_val (pe_fn c__law_kinds (pa_cons (pv 15) pa_nil)))) (pw_or1 (pt_cmpR (op_neD hr.units) (pv 15) (pe_tup (pa_cons (pv 9) (pa_cons (pv 7) (pa_cons (pv 8) pa_nil)))) (nomark _))))) (pss_one (ps_ret pe_bl)) pss_nil)
        (pss_cons (ps_expr (pe_bm0 PySem.F.plainAttrs_list PySem.F.slot_list_clear PySem.F.type_list_clear mr_clear (pe_ix ix_seq (pv 15) pe_int)))
        (pss_cons (ps_expr (pe_bm PySem.F.plainAttrs_list PySem.F.slot_list_append PySem.F.type_list_append mr_append (pe_ix ix_seq (pv 15) pe_int) (pa_cons (pe_tup (pa_cons pe_str (pa_cons pe_str pa_nil))) pa_nil)))
        (pss_cons (ps_set (i := 15) sc_law.nd (pe_fn c_read_table (pa_cons (pv 14) pa_nil)))
        (pss_one (ps_if (PW.pt (pw_or (pt_not (pt_val (pe_fn c__law_kinds (pa_cons (pv 15) pa_nil)))) (pw_or1 (pt_cmpR (op_neD hr.units) (pv 15) (pe_tup (pa_cons (pv 9) (pa_cons (pv 7) (pa_cons (pv 8) pa_nil)))) (nomark _))))) (pss_one (ps_ret pe_bl)) pss_nil))))))))
      (pss_one (ps_ret pe_bl)))))))))))))))))), ?_⟩
    refine seq_hide fun v1 hv1 => ?_
    refine ⟨_, rfl, a, ns, 1, rfl, by decide, hS, _, _, rfl, rfl, (by show (0 : Int) < 5; decide), rfl, ?_⟩
    try dsimp only
    generalize decide (V.int (cellAt ns 1 % 5) = V.int 1) = b
    refine g_in ?_
    try dsimp only
    subst hv1
    refine seq_hide fun v2 hv2 => ?_
    refine ⟨_, rfl, a, ns, 1, rfl, by decide, hS, _, _, rfl, rfl, ⟨by decide, by decide⟩, _, _, rfl, rfl, (by show (0 : Int) < 4; decide), _, _, rfl, rfl, ?_⟩
    try dsimp only
    have z0 := Int.emod_nonneg (cellAt ns 1 / 5) (by decide : (4 : Int) ≠ 0)
    have z1 := Int.emod_lt_of_pos (cellAt ns 1 / 5) (by decide : (0 : Int) < 4)
    generalize cellAt ns 1 / 5 % 4 = m0 at z0 z1 ⊢
    refine g_in ?_
    try dsimp only
    subst hv2
    refine seq_hide fun v3 hv3 => ?_
    refine ⟨_, rfl, a, ns, 1, rfl, by decide, hS, _, _, rfl, rfl, ⟨by decide, by decide⟩, _, _, rfl, rfl, (by show (0 : Int) < 5; decide), _, _, rfl, rfl, ?_⟩
    try dsimp only
    have y0 := Int.emod_nonneg (cellAt ns 1 / 20) (by decide : (5 : Int) ≠ 0)
    have y1 := Int.emod_lt_of_pos (cellAt ns 1 / 20) (by decide : (0 : Int) < 5)
    generalize cellAt ns 1 / 20 % 5 = w0 at y0 y1 ⊢
    refine g_in ?_
    try dsimp only
    subst hv3
    refine seq_cut (fun σ' H' => ∃ m z : Int, 1 ≤ m ∧ m ≤ 8 ∧ 1 ≤ z ∧ z ≤ 8 ∧ σ' = [some (.ref a), some (.bl b), some (.int m), some (.int z), none, none, none, none, none, none, none, none, none, none, none, none] ∧ H' = H) ?_ (fun N hN => ?_)
    case refine_2 =>
      refine ⟨_, rfl, _, rfl, ?_⟩
      refine ite2 (fun _ => ?_) (fun _ => ?_)
      · exact hN _ _ ⟨8, 8, by decide, by decide, by decide, by decide, rfl, rfl⟩
      · exact hN _ _ ⟨1 + m0, 1 + w0, by omega, by omega, by omega, by omega, rfl, rfl⟩
    rintro σ' H' ⟨m, z, hm1, hm8, hz1, hz8, rfl, rfl⟩
    refine seq_hide fun v4 hv4 => ?_
    refine ⟨_, rfl, a, ns, 0, rfl, by decide, hS, _, rfl, _, _, rfl, by omega, by omega, fun ls L H2 lls hnd hlw hL s2 eL => ?_⟩
    refine g_in ?_
    try dsimp only
    subst hv4
    refine seq_hide fun u1 hu1 => ?_
    -- the states
    refine ⟨_, rfl, _, rfl, by omega, by omega, comp_rangeI (fun D i ys H' => ∃ (us : List Addr) (sts : List Stt), us.length = i ∧ Same H2 H' ∧ H' D = some (.lst ys) ∧ ys = us.map V.ref ∧ StRows K (fun x => H2 x = none) H' D us sts ∧ ∀ s ∈ sts, Drawn ls m s)
      (fun D hD => ⟨[], [], rfl, same_new hD, upd_same, rfl, StRows.nil, fun s hs => by simp at hs⟩) (fun D i ys H3 R hD0 hi hv k => ?_) (fun D ys H3 hD0 hv => ?_)⟩
    · obtain ⟨us, sts, hus, s3, eD, rfl, SR, dr⟩ := hv
      have s23 := s2.trans s3
      refine ⟨_, rfl, _, rfl, _, rfl, _, _, rfl, rfl, Or.inr ⟨by omega, by omega⟩, _, _, rfl, rfl, _, rfl, _, rfl, _, rfl, a, L, ns, _, ls, m, b, rfl, s23.seq hS, hlen, ?_, SqL.of (s3 _ _ eL), by omega, hnd, by omega, hm8, fun t g e s gt H6 ds ht hg he nge s6 et eg gG ee => ?_⟩
      · have := Int.mul_nonneg (show 0 ≤ 0 + (i : Int) by omega) (show 0 ≤ z by omega)
        omega
      have eD6 := s6 _ _ eD
      have nG : g ≠ D := fun y => by rw [y, eD] at hg; cases hg
      have nE : e ≠ D := fun y => by rw [y, eD] at he; cases he
      refine k _ _ eD6 (by rw [List.length_map, hus]; exact small1000 (by omega)) ⟨us ++ [t], sts ++ [s], by rw [List.length_append, hus]; rfl, fun x o e => ?_, upd_same, by rw [List.map_append]; rfl, ((SR.same s6).snoc et gG eg ee nG nE (s3.free hg) (s3.free he)).updL eD6, fun y hy => ?_⟩
      · rw [upd_ne (ne_of_none e hD0)]; exact s6 _ _ (s3 x o e)
      · rcases List.mem_append.mp hy with hy | hy
        · exact dr y hy
        · rw [List.mem_singleton.mp hy]; exact ds
    obtain ⟨us, sts, hus, s3, eD, rfl, SR, dr⟩ := hv
    have hsl : sts.length = m.toNat := by rw [← SR.len, hus]
    have s03 := s2.trans s3
    have hDH : H2 D = none := hD0
    refine g_in ?_
    try dsimp only
    subst hu1
    refine seq_hide fun u2 hu2 => ?_
    -- the pairs
    obtain ⟨kn, ekn⟩ : ∃ kn : Nat, 2 + m * z / 2 = (kn : Int) := by
      have h1 := Int.mul_nonneg (show 0 ≤ m by omega) (show 0 ≤ z by omega)
      exact ⟨(2 + m * z / 2).toNat, by omega⟩
    refine ⟨_, rfl, _, rfl, _, rfl, _, _, rfl, rfl, Or.inl ⟨by omega, by omega⟩, _, _, rfl, rfl, ⟨by decide, by decide⟩, _, _, rfl, rfl, _, rfl, a, _, rfl, s03.seq hS, fun p1 h1 => ?_⟩
    rw [ekn, cutV_drop, ← List.map_drop]
    refine ⟨_, rfl, p1, _, rfl, SqL.of upd_same, fun p2 h2 => ?_⟩
    rw [show cutV ((ns.drop kn).map V.int) none (some 40) = ((ns.drop kn).take 40).map V.int by rw [List.map_take]; exact cutV_take _ 40]
    obtain ⟨cells, ecells⟩ : ∃ cells, cells = (ns.drop kn).take 40 := ⟨_, rfl⟩
    rw [← ecells]
    have lcells : cells.length ≤ 40 := by rw [ecells, List.length_take]; omega
    have s4 := (same_new (o := .lst ((ns.drop kn).map V.int)) h1).trans (same_new (o := .lst (cells.map V.int)) h2)
    have ep2 : (upd (upd H3 p1 (.lst ((ns.drop kn).map V.int))) p2 (.lst (cells.map V.int))) p2 = some (.lst (cells.map V.int)) := upd_same
    generalize upd (upd H3 p1 (.lst ((ns.drop kn).map V.int))) p2 (.lst (cells.map V.int)) = H4 at s4 ep2 ⊢
    have s24 := s3.trans s4
    refine ⟨_, rfl, p2, L, cells, ls, rfl, SqL.of ep2, SqL.of (s24 _ _ eL), by omega, lcells, fun ts ps P H5 hup hpl hP s5 eP T => ?_⟩
    have s35 := s4.trans s5
    have s05 := s03.trans s35
    have ac := up_ac hnd hup
    refine g_in ?_
    try dsimp only
    subst hu2
    refine seq_hide fun u3 hu3 => ?_
    -- inner
    refine ⟨_, rfl, a, ns, 0, rfl, by decide, s05.seq hS, _, _, rfl, rfl, ⟨by decide, by decide⟩, _, rfl, _, _, rfl, rfl, (by show (0 : Int) < m; omega), ?_⟩
    try dsimp only
    have i0 := Int.emod_nonneg (cellAt ns 0 / 7) (show m ≠ 0 by omega)
    have i1 := Int.emod_lt_of_pos (cellAt ns 0 / 7) (show 0 < m by omega)
    generalize cellAt ns 0 / 7 % m = inn at i0 i1 ⊢
    refine g_in ?_
    try dsimp only
    subst hu3
    refine seq_hide fun u4 hu4 => ?_
    -- the order
    have inL : ∀ q ∈ ps, q.1 ∈ ls ∧ q.2 ∈ ls := fun q hq => by
      obtain ⟨i, j, _, h1, h2⟩ := hup q hq
      exact ⟨List.mem_of_getElem? h1, List.mem_of_getElem? h2⟩
    have eL5 := (s24.trans s5) _ _ eL
    refine ⟨_, rfl, _, rfl, P, L, ps, ls, rfl, T.prs eP, SqL.of eL5, by omega, hnd, inL, ac, fun J us3 ord H6 hJ s6 eJ dts3 mem3 nd3 srt3 => ?_⟩
    have hO : OrdOf ps ord := ord_of mem3 nd3 srt3
    have hol : ord.length ≤ 28 := ord_len (ls := ls) (by omega) nd3 fun q hq => path_up hnd hup ((mem3 q.1 q.2).mp hq)
    have hbl : (bareOf ord).length ≤ 28 := Nat.le_trans (List.length_filter_le _ _) hol
    have hbu : ∀ q ∈ bareOf ord, UpPair ls q := fun q hq => path_up hnd hup ((mem3 q.1 q.2).mp (List.mem_filter.mp hq).1)
    have s36 := s35.trans s6
    have SR6 := SR.same s36
    have eD6 := s36 _ _ eD
    refine g_in ?_
    try dsimp only
    subst hu4
    refine seq_hide fun u5 hu5 => ?_
    -- the sides
    refine ⟨_, rfl, D, rfl, ⟨_, SqL.of eD6⟩, comp_listI (xs := us.map V.ref) (fun Sd i ys H' => ∃ (vs : List Addr) (rs : List Stt), vs.length = i ∧ Same H6 H' ∧ H' Sd = some (.lst ys) ∧ ys = vs.map V.ref ∧ StRows K (fun _ => True) H' Sd vs rs ∧ ∀ (n : Nat) (s r : Stt), sts[n]? = some s → rs[n]? = some r → SrtOf s r)
      (fun Sd hSd => ⟨[], [], rfl, same_new hSd, upd_same, rfl, StRows.nil, fun n s r _ h => by simp at h⟩) (fun Sd i ys H' ⟨_, _, _, s7, _⟩ => SqL.of (s7 _ _ eD6)) (fun Sd i x ys H7 R hSd0 hx hv k => ?_) (fun Sd ys H7 hSd0 hv => ?_)⟩
    · obtain ⟨vs, rs, hvs, s7, eSd, rfl, SV, hso⟩ := hv
      rw [List.getElem?_map] at hx
      obtain ⟨u, hu, rfl⟩ := Option.map_eq_some_iff.mp hx
      have his : i < sts.length := by rw [← SR.len]; exact (List.getElem?_eq_some_iff.mp hu).1
      have hs := List.getElem?_eq_getElem his
      have dri := dr _ (List.mem_of_getElem? hs)
      have g8 := dri.gl
      have e8 := dri.el
      obtain ⟨G, E1, xs, b1, ⟨gv, b2, b2'⟩, b3, b4, _⟩ := (SR6.same s7).at_ i u _ hu hs
      generalize sts[i] = st at *
      obtain ⟨zs, z1, z2, z3⟩ := goes_rows b2'
      have lzs : zs.length = st.1.length := by rw [← z2, List.length_map]
      refine ⟨u, _, rfl, SqT.of b1, rfl, _, _, rfl, _, _, rfl, rfl, ?_⟩
      refine ⟨_, rfl, G, zs, rfl, by rw [z1]; exact b2, by omega, z3, fun D1 zs' hp hw hD1 => ?_⟩
      have t1 := same_new (o := .lst (zs'.map (·.1))) hD1
      have eD1 : (upd H7 D1 (.lst (zs'.map (·.1)))) D1 = some (.lst (zs'.map (·.1))) := upd_same
      generalize upd H7 D1 (.lst (zs'.map (·.1))) = H8 at t1 eD1 ⊢
      refine ⟨_, rfl, E1, st.2, rfl, SqL.of (t1 _ _ b4), by omega, fun D2 es hpe hwe hD2 => ?_⟩
      have t2 := same_new (o := .lst (es.map V.str)) hD2
      have eD2 : (upd H8 D2 (.lst (es.map V.str))) D2 = some (.lst (es.map V.str)) := upd_same
      generalize upd H8 D2 (.lst (es.map V.str)) = H9 at t2 eD2 ⊢
      refine ⟨two_le, fun D3 hD3 => ?_⟩
      have t3 := same_new (o := .tup [.ref D1, .ref D2]) hD3
      have eD3 : (upd H9 D3 (.tup [.ref D1, .ref D2])) D3 = some (.tup [.ref D1, .ref D2]) := upd_same
      generalize upd H9 D3 (.tup [.ref D1, .ref D2]) = H10 at t3 eD3 ⊢
      have t13 := (t1.trans t2).trans t3
      have t23 := t2.trans t3
      have eSd10 := t13 _ _ eSd
      have n1 : D1 ≠ Sd := fun y => by rw [y, eSd] at hD1; cases hD1
      have n2 : D2 ≠ Sd := fun y => by rw [y, t1 _ _ eSd] at hD2; cases hD2
      have z10 : ∀ z ∈ zs', RowGo K H10 z := fun z hz => by
        obtain ⟨t, a1, a2⟩ := z3 z (hp.mem_iff.mp hz)
        exact ⟨t, a1, t13.seqT a2⟩
      have gG : Goes K H10 D1 (zs'.map (·.2)) := ⟨_, SqL.of (t23 _ _ eD1), rows_dts zs' z10⟩
      have so : SrtOf st (zs'.map (·.2), es) := ⟨by rw [← z2]; exact hp.map _, hpe, hw, hwe⟩
      refine k _ _ eSd10 (by rw [List.length_map, hvs]; exact small1000 (by omega)) ⟨vs ++ [D3], rs ++ [(zs'.map (·.2), es)], by rw [List.length_append, hvs]; rfl, fun x o e => ?_, upd_same, by rw [List.map_append]; rfl, ((SV.same t13).snoc (r := (zs'.map (·.2), es)) eD3 gG (t23 _ _ eD1) (t3 _ _ eD2) n1 n2 True.intro True.intro).updL eSd10, fun n s' r' q1 q2 => ?_⟩
      · rw [upd_ne (ne_of_none e hSd0)]; exact t13 _ _ (s7 x o e)
      · rcases Nat.lt_or_ge n rs.length with hlt | hge
        · rw [List.getElem?_append_left hlt] at q2
          exact hso n s' r' q1 q2
        · have hn1 : n < (rs ++ [(zs'.map (·.2), es)]).length := (List.getElem?_eq_some_iff.mp q2).1
          rw [List.length_append, List.length_singleton] at hn1
          have hrl := SV.len
          obtain rfl : n = i := by omega
          rw [hs] at q1; cases q1
          rw [List.getElem?_append_right hge, show n - rs.length = 0 by omega] at q2
          cases q2
          exact so
    obtain ⟨vs, rsd, hvs, s7, eSd, rfl, SV, hso⟩ := hv
    have hrl : rsd.length = sts.length := by rw [← SV.len, hvs, List.length_map, SR.len]
    have hso2 : ∀ (i : Nat) (s r : Stt), rsd[i]? = some s → rsd[i]? = some r → SrtOf s r := fun i s r q1 q2 => by
      rw [q1] at q2; cases q2
      have hi : i < sts.length := by rw [← hrl]; exact (List.getElem?_eq_some_iff.mp q1).1
      have := hso i _ s (List.getElem?_eq_getElem hi) q1
      exact ⟨List.Perm.refl _, List.Perm.refl _, this.og, this.oe⟩
    have drr : ∀ r ∈ rsd, Drawn ls m r := fun r hr => by
      obtain ⟨i, hi, e⟩ := List.getElem_of_mem hr
      have hi2 : i < sts.length := by omega
      have := hso i _ _ (List.getElem?_eq_getElem hi2) (List.getElem?_eq_getElem hi)
      rw [e] at this
      exact st_drawn (dr _ (List.getElem_mem hi2)) this.pg this.pe
    have R1 : RdT rsd inn (bareOf ord) rsd ord := RdT.of drr hm1 hm8 (by rw [hrl, hsl]) i0 i1 hbu (by omega) hnd hlw rfl hso2 (bare_ord hO ac)
    have R0 : RdT sts inn ps rsd ord := RdT.of dr hm1 hm8 hsl i0 i1 hup (by omega) hnd hlw hrl hso hO
    refine g_in ?_
    try dsimp only
    subst hu5
    refine seq_hide fun u6 hu6 => ?_
    -- the text
    have eJ7 := s7 _ _ eJ
    refine ⟨rfl, _, rfl, _, rfl, _, rfl, J, ord, rfl, ⟨us3, SqL.of eJ7, dts3.same s7⟩, by omega, fun Bb bts H8 hBb s8 eBb TBb => ?_⟩
    refine ⟨Sd, Bb, vs, bts, rsd, inn, bareOf ord, _, Sd, rfl, SqL.of (s8 _ _ eSd), SV.same s8, R1.tw, SqL.of eBb, TBb, fun W1 H9 hW1 s9 eW1 => ?_⟩
    refine ⟨_, W1, _, rfl, rfl, SqL.of eW1, join_ok (fun x hx => (tW_words R1.tw x hx).2) (Nat.le_trans (tW_len R1.tw.fit (by omega)) (by decide)), ?_⟩
    have s79 := s8.trans s9
    refine g_in ?_
    try dsimp only
    subst hu6
    refine seq_hide fun u7 hu7 => ?_
    -- as it is shown
    have s69 := s7.trans s79
    have SR9 := SR6.same s69
    have eD9 := s69 _ _ eD6
    have s59 := s6.trans s69
    refine ⟨_, rfl, _, rfl, _, rfl, D, P, sts, ps, inn, rfl, SR9.stE eD9, SR9.stts eD9, R0.tw.fit, (T.same s59).prs (s59 _ _ eP), by omega, R0.nm, i0, R0.n1, R0.pl, R0.nd, ac, fun t rs ord' H10 q1 q2 q3 ht s10 TB => ?_⟩
    obtain ⟨rfl, rfl⟩ := R0.un rs ord' q1 q2 q3
    refine ⟨t, rs, inn, ord', _, rfl, TB, R1.tw, by omega, srt3, fun H11 s11 => ?_⟩
    refine g_in ?_
    try dsimp only
    subst hu7
    refine seq_hide fun u8 hu8 => ?_
    refine ⟨_, rfl, _, .str, .str, rfl, .str _, _, rfl, iteF ?_⟩
    refine ⟨_, rfl, _, rfl, rfl, _, rfl, iteNS rfl ?_⟩
    subst hu8
    refine nx_in ?_
    try dsimp only
    refine seq_hide fun u9 hu9 => ?_
    -- turned about
    have s911 := s10.trans s11
    have s011 := (s05.trans s59).trans s911
    refine ⟨_, rfl, a, ns, 2, rfl, by decide, s011.seq hS, _, _, rfl, rfl, (by show (0 : Int) < 72; decide), ?_⟩
    try dsimp only
    generalize cellAt ns 2 % 72 = c
    refine g_in ?_
    try dsimp only
    subst hu9
    refine seq_hide fun u10 hu10 => ?_
    have SR11 := SR9.same s911
    have eD11 := s911 _ _ eD9
    refine ⟨_, rfl, D, rfl, ⟨_, SqL.of eD11⟩, comp_listI (xs := us.map V.ref) (fun Od i ys H' => ∃ (ws : List Addr) (os : List Stt), ws.length = i ∧ Same H11 H' ∧ H' Od = some (.lst ys) ∧ ys = ws.map V.ref ∧ StRows K (fun _ => True) H' Od ws os ∧ ∀ (n : Nat) (s r : Stt), sts[n]? = some s → os[n]? = some r → r.1.Perm s.1 ∧ r.2.Perm s.2)
      (fun Od hOd => ⟨[], [], rfl, same_new hOd, upd_same, rfl, StRows.nil, fun n s r _ h => by simp at h⟩) (fun Od i ys H' ⟨_, _, _, s7, _⟩ => SqL.of (s7 _ _ eD11)) (fun Od i x ys H12 R hOd0 hx hv k => ?_) (fun Od ys H12 hOd0 hv => ?_)⟩
    · obtain ⟨ws, os, hws, s12, eOd, rfl, SW, hpm⟩ := hv
      rw [List.getElem?_map] at hx
      obtain ⟨u, hu, rfl⟩ := Option.map_eq_some_iff.mp hx
      have his : i < sts.length := by rw [← SR.len]; exact (List.getElem?_eq_some_iff.mp hu).1
      have hs := List.getElem?_eq_getElem his
      have dri := dr _ (List.mem_of_getElem? hs)
      have g8 := dri.gl
      have e8 := dri.el
      obtain ⟨G, E1, xs, b1, ⟨gv, b2, b2'⟩, b3, b4, _⟩ := (SR11.same s12).at_ i u _ hu hs
      generalize sts[i] = st at *
      have lgv := b2'.len_map
      refine ⟨u, _, rfl, SqT.of b1, rfl, _, _, rfl, _, _, rfl, rfl, ?_⟩
      refine ⟨_, rfl, _, rfl, G, c, gv, rfl, b2, by omega, fun n1 g H13 hg s13 eg => ?_⟩
      refine ⟨_, rfl, _, rfl, _, _, rfl, rfl, ⟨by decide, by decide⟩, E1, c / 8, _, rfl, SqL.of (s13 _ _ b4), by rw [List.length_map]; exact e8, fun n2 e H14 he s14 ee => ?_⟩
      refine ⟨two_le, fun D3 hD3 => ?_⟩
      have t3 := same_new (o := .tup [.ref g, .ref e]) hD3
      have eD3 : (upd H14 D3 (.tup [.ref g, .ref e])) D3 = some (.tup [.ref g, .ref e]) := upd_same
      generalize upd H14 D3 (.tup [.ref g, .ref e]) = H15 at t3 eD3 ⊢
      have t13 := (s13.trans s14).trans t3
      have eOd15 := t13 _ _ eOd
      have n1' : g ≠ Od := fun y => by rw [y, eOd] at hg; cases hg
      have n2' : e ≠ Od := fun y => by rw [y, s13 _ _ eOd] at he; cases he
      have eq2 : (st.2.map V.str).drop n2 ++ (st.2.map V.str).take n2 = (st.2.drop n2 ++ st.2.take n2).map V.str := by rw [List.map_append, List.map_drop, List.map_take]
      rw [eq2] at ee
      have gD : IsDts K H12 (gv.drop n1 ++ gv.take n1) ((st.1.drop n1 ++ st.1.take n1).map goD) := by
        rw [List.map_append, List.map_drop, List.map_take]
        exact (b2'.drop n1).append (b2'.take n1)
      have eg15 := t3 _ _ (s14 _ _ eg)
      have gG : Goes K H15 g (st.1.drop n1 ++ st.1.take n1) := ⟨_, SqL.of eg15, gD.same t13⟩
      have p1 : (st.1.drop n1 ++ st.1.take n1).Perm st.1 := by
        have := List.perm_append_comm (l₁ := st.1.drop n1) (l₂ := st.1.take n1)
        rwa [List.take_append_drop] at this
      have p2 : (st.2.drop n2 ++ st.2.take n2).Perm st.2 := by
        have := List.perm_append_comm (l₁ := st.2.drop n2) (l₂ := st.2.take n2)
        rwa [List.take_append_drop] at this
      refine k _ _ eOd15 (by rw [List.length_map, hws]; exact small1000 (by omega)) ⟨ws ++ [D3], os ++ [(st.1.drop n1 ++ st.1.take n1, st.2.drop n2 ++ st.2.take n2)], by rw [List.length_append, hws]; rfl, fun x o e => ?_, upd_same, by rw [List.map_append]; rfl, ((SW.same t13).snoc (r := (st.1.drop n1 ++ st.1.take n1, st.2.drop n2 ++ st.2.take n2)) eD3 gG eg15 (t3 _ _ ee) n1' n2' True.intro True.intro).updL eOd15, fun n s' r' q1 q2 => ?_⟩
      · rw [upd_ne (ne_of_none e hOd0)]; exact t13 _ _ (s12 x o e)
      · rcases Nat.lt_or_ge n os.length with hlt | hge
        · rw [List.getElem?_append_left hlt] at q2
          exact hpm n s' r' q1 q2
        · have hn1 : n < (os ++ [(st.1.drop n1 ++ st.1.take n1, st.2.drop n2 ++ st.2.take n2)]).length := (List.getElem?_eq_some_iff.mp q2).1
          rw [List.length_append, List.length_singleton] at hn1
          have hrl := SW.len
          obtain rfl : n = i := by omega
          rw [hs] at q1; cases q1
          rw [List.getElem?_append_right hge, show n - os.length = 0 by omega] at q2
          cases q2
          exact ⟨p1, p2⟩
    obtain ⟨ws, os, hws, s12, eOd, rfl, SW, hpm⟩ := hv
    have hol2 : os.length = sts.length := by rw [← SW.len, hws, List.length_map, SR.len]
    have dro : ∀ r ∈ os, Drawn ls m r := fun r hr => by
      obtain ⟨i, hi, e⟩ := List.getElem_of_mem hr
      have hi2 : i < sts.length := by omega
      have := hpm i _ _ (List.getElem?_eq_getElem hi2) (List.getElem?_eq_getElem hi)
      rw [e] at this
      exact st_drawn (dr _ (List.getElem_mem hi2)) this.1 this.2
    have hso3 : ∀ (i : Nat) (s r : Stt), os[i]? = some s → rs[i]? = some r → SrtOf s r := fun i s r q1 q2 => by
      have hi : i < sts.length := by rw [← hol2]; exact (List.getElem?_eq_some_iff.mp q1).1
      have a1 := hpm i _ s (List.getElem?_eq_getElem hi) q1
      have a2 := hso i _ r (List.getElem?_eq_getElem hi) q2
      exact ⟨a2.pg.trans a1.1.symm, a2.pe.trans a1.2.symm, a2.og, a2.oe⟩
    have R2 : RdT os inn ps rs ord' := RdT.of dro hm1 hm8 (by rw [hol2, hsl]) i0 i1 hup (by omega) hnd hlw (by rw [hrl, hol2]) hso3 hO
    refine g_in ?_
    try dsimp only
    subst hu10
    refine seq_hide fun u11 hu11 => ?_
    -- both texts
    have s512 := (s59.trans s911).trans s12
    have eP12 := s512 _ _ eP
    refine ⟨_, rfl, rfl, _, rfl, _, rfl, _, rfl, Od, P, ws, ts, os, inn, ps, _, Od, rfl, SqL.of eOd, SW, R2.tw, SqL.of eP12, T.same s512, fun W2 H13 hW2 s13 eW2 => ?_⟩
    refine ⟨_, W2, _, rfl, rfl, SqL.of eW2, join_ok (fun x hx => (tW_words R2.tw x hx).2) (Nat.le_trans (tW_len R2.tw.fit (by omega)) (by decide)), two_le, fun Lw hLw => ?_⟩
    have sw := same_new (o := .lst [.str (Txt.join (" " : Str) (tW rs inn (bareOf ord'))), .str (Txt.join (" " : Str) (tW os inn ps))]) hLw
    have eLw : (upd H13 Lw (.lst [.str (Txt.join (" " : Str) (tW rs inn (bareOf ord'))), .str (Txt.join (" " : Str) (tW os inn ps))])) Lw = some (.lst [.str (Txt.join (" " : Str) (tW rs inn (bareOf ord'))), .str (Txt.join (" " : Str) (tW os inn ps))]) := upd_same
    generalize upd H13 Lw (.lst [.str (Txt.join (" " : Str) (tW rs inn (bareOf ord'))), .str (Txt.join (" " : Str) (tW os inn ps))]) = H14 at sw eLw ⊢
    have s714 := (((s79.trans s911).trans s12).trans s13).trans sw
    have SV14 := SV.same s714
    have eSd14 := s714 _ _ eSd
    have eJ14 := s714 _ _ eJ7
    have dJ14 := (dts3.same s7).same s714
    refine ⟨Lw, rfl, ⟨_, SqL.of eLw⟩, for_list (xs := [.str (Txt.join (" " : Str) (tW rs inn (bareOf ord'))), .str (Txt.join (" " : Str) (tW os inn ps))]) (fun i σ H' => ∃ u14 u15, σ = [some (.ref a), some (.bl b), some (.int m), some (.int z), some (.ref L), some (.ref D), some (.ref P), some (.int inn), some (.ref J), some (.ref Sd), some (.str (Txt.join (" " : Str) (tW rs inn (bareOf ord')))), some (.str (Txt.join (" " : Str) (tW rs inn (bareOf ord')))), some (.int c), some (.ref Od), u14, u15] ∧ Same H14 H') ⟨none, none, rfl, Same.refl _⟩ (fun i σ H' _ ⟨_, _, _, e⟩ => SqL.of (e _ _ eLw)) ?_ ?_⟩
    · rintro i x σ H15 hx ⟨u14, u15, rfl, s15⟩
      obtain ⟨ss', ps', rfl, RR⟩ : ∃ ss' ps', x = .str (Txt.join (" " : Str) (tW ss' inn ps')) ∧ RdT ss' inn ps' rs ord' := by
        match i, hx with
        | 0, hx => cases hx; exact ⟨rs, bareOf ord', rfl, R1⟩
        | 1, hx => cases hx; exact ⟨os, ps, rfl, R2⟩
        | n + 2, hx => simp at hx
      refine seq_hide fun w1 hw1 => ?_
      refine ⟨_, rfl, ss', inn, ps', rfl, RR.tw, RR.nm, RR.n1, RR.pl, RR.nd, RR.ac, fun t2 rs2 ord2 H16 r1 r2 r3 ht2 s16 TB2 => ?_⟩
      rw [(RR.un rs2 ord2 r1 r2 r3).1, (RR.un rs2 ord2 r1 r2 r3).2] at TB2
      clear r1 r2 r3
      refine g_in ?_
      try dsimp only
      subst hw1
      refine seq_hide fun w2 hw2 => ?_
      refine ⟨_, rfl, t2, rs, inn, ord', _, rfl, TB2, _, rfl, iteF ?_⟩
      refine ⟨_, rfl, _, rfl, _, rfl, _, rfl, three_le, fun T2 hT2 => ?_⟩
      have s17 := same_new (o := .tup [.ref Sd, .int inn, .ref J]) hT2
      have eT2 : (upd H16 T2 (.tup [.ref Sd, .int inn, .ref J])) T2 = some (.tup [.ref Sd, .int inn, .ref J]) := upd_same
      generalize upd H16 T2 (.tup [.ref Sd, .int inn, .ref J]) = H17 at s17 eT2 ⊢
      have s1417 := (s15.trans s16).trans s17
      have TB17 := TB2.same s17
      have dt2 : IsDt K H17 (.ref T2) (tabD rs inn ord') := .tup (SqT.of eT2) (.cons (.lst (SqL.of (s1417 _ _ eSd14)) (SV14.same s1417).dts) (.cons (.int _) (.cons (.lst (SqL.of (s1417 _ _ eJ14)) (dJ14.same s1417)) .nil)))
      refine ⟨6, _, _, cmp_tab rs inn ord', by decide, Tab.dt TB17, dt2, _, rfl, ?_⟩
      rw [dec_true rfl]
      refine iteF ?_
      subst hw2
      refine nx_in ?_
      try dsimp only
      refine seq_hide fun w3 hw3 => ?_
      obtain ⟨a', o', us', ts', et, fa, fo, nao, ea, SRA, eo, TO⟩ := TB17.ex
      refine ⟨_, rfl, Or.inr (Or.inl ⟨t2, _, _, .ref a', rfl, rfl, SqT.of et, rfl, Or.inl ⟨rfl, _, SqL.of ea⟩, a', _, rfl, rfl, ea, ?_⟩)⟩
      have et18 : (upd H17 a' (.lst [])) t2 = some (.tup [.ref a', .int inn, .ref o']) := by rw [upd_ne (ne_of et ea (fun z => nomatch z))]; exact et
      have eo18 : (upd H17 a' (.lst [])) o' = some (.lst (ts'.map V.ref)) := by rw [upd_ne nao.symm]; exact eo
      have s18 : Same H14 (upd H17 a' (.lst [])) := fun x u e => by
        have e15 := s15 x u e
        rw [upd_ne (ne_of_none e15 fa)]; exact s1417 x u e
      generalize upd H17 a' (.lst []) = H18 at et18 eo18 s18 ⊢
      subst hw3
      refine nx_in ?_
      try dsimp only
      refine seq_hide fun w4 hw4 => ?_
      refine ⟨_, rfl, Or.inr (Or.inl ⟨t2, _, _, .ref o', rfl, rfl, SqT.of et18, rfl, Or.inl ⟨rfl, _, SqL.of eo18⟩, two_le, fun T3 hT3 => ?_⟩)⟩
      have s19 := same_new (o := .tup [.str "a", .str "b"]) hT3
      have eo19 := s19 _ _ eo18
      have s1419 := s18.trans s19
      generalize upd H18 T3 (.tup [.str "a", .str "b"]) = H19 at s19 eo19 s1419 ⊢
      refine ⟨o', _, _, rfl, rfl, eo19, by rw [List.length_map, TO.len]; exact small1000 (by omega), ?_⟩
      have s20 : Same H14 (upd H19 o' (.lst (ts'.map V.ref ++ [.ref T3]))) := fun x u e => by
        rw [upd_ne (ne_of_none (s15 x u e) fo)]; exact s1419 x u e
      generalize upd H19 o' (.lst (ts'.map V.ref ++ [.ref T3])) = H20 at s20 ⊢
      subst hw4
      refine nx_in ?_
      try dsimp only
      refine seq_hide fun w5 hw5 => ?_
      refine ⟨_, rfl, ss', inn, ps', rfl, RR.tw, RR.nm, RR.n1, RR.pl, RR.nd, RR.ac, fun t3 rs3 ord3 H21 r1 r2 r3 ht3 s21 TB3 => ?_⟩
      rw [(RR.un rs3 ord3 r1 r2 r3).1, (RR.un rs3 ord3 r1 r2 r3).2] at TB3
      clear r1 r2 r3
      refine g_in ?_
      try dsimp only
      subst hw5
      refine ⟨_, rfl, t3, rs, inn, ord', _, rfl, TB3, _, rfl, iteF ?_⟩
      refine ⟨_, rfl, _, rfl, _, rfl, _, rfl, three_le, fun T4 hT4 => ?_⟩
      have s22 := same_new (o := .tup [.ref Sd, .int inn, .ref J]) hT4
      have eT4 : (upd H21 T4 (.tup [.ref Sd, .int inn, .ref J])) T4 = some (.tup [.ref Sd, .int inn, .ref J]) := upd_same
      generalize upd H21 T4 (.tup [.ref Sd, .int inn, .ref J]) = H22 at s22 eT4 ⊢
      have s1422 := (s20.trans s21).trans s22
      have dt4 : IsDt K H22 (.ref T4) (tabD rs inn ord') := .tup (SqT.of eT4) (.cons (.lst (SqL.of (s1422 _ _ eSd14)) (SV14.same s1422).dts) (.cons (.int _) (.cons (.lst (SqL.of (s1422 _ _ eJ14)) (dJ14.same s1422)) .nil)))
      refine ⟨6, _, _, cmp_tab rs inn ord', by decide, Tab.dt (TB3.same s22), dt4, _, rfl, ?_⟩
      rw [dec_true rfl]
      exact iteF ⟨_, _, rfl, s1422⟩
    · rintro σ H15 ⟨u14, u15, rfl, s15⟩
      subst hu11
      exact kq _
theorem call_law {f : Addr} {fd : FuncData} (B : Blt mg) (ER : Ers K mg) (c__law_cell_at : Callee P w K mg base "_law_cell_at" 1 ["_law_script", "_law_k"] (sp__law_cell_at K)) (c__law_names : Callee P w K mg base "_law_names" 1 ["_law_cell", "_law_many"] (sp__law_names K)) (c__law_state : Callee P w K mg base "_law_state" 2 ["_law_script", "_law_start", "_law_labels", "_law_many", "_law_full"] (sp__law_state K)) (c__law_pairs : Callee P w K mg base "_law_pairs" 1 ["_law_cells", "_law_labels"] (sp__law_pairs K)) (c__law_joined : Callee P w K mg base "_law_joined" 1 ["_law_pairs_here", "_law_labels"] (sp__law_joined K)) (c__law_words : Callee P w K mg base "_law_words" 2 ["_law_states", "_law_inner", "_law_pairs_here"] (sp__law_words K)) (c__law_bare : Callee P w K mg base "_law_bare" 1 ["_law_order"] (sp__law_bare K)) (c_show_table : Callee P w K mg base "show_table" 3 ["table"] (sp_show_table K)) (c_table_of : Callee P w K mg base "table_of" 4 ["states", "inner", "pairs"] (sp_table_of K)) (c__law_turned : Callee P w K mg base "_law_turned" 1 ["_law_some", "_law_cell"] (sp__law_turned K)) (c_read_table : Callee P w K mg base "read_table" 5 ["text"] (sp_read_table K)) (c__law_kinds : Callee P w K mg base "_law_kinds" 1 ["_law_table"] (sp__law_kinds K)) (F : Fun K "law" "law" s_law f fd) (hm : mg "law" = some (.ref f)) : Callee P w K mg base "law" 6 ["_law_script"] (sp_law K) :=
  ⟨f, fd, ok_law B ER c__law_cell_at c__law_names c__law_state c__law_pairs c__law_joined c__law_words c__law_bare c_show_table c_table_of c__law_turned c_read_table c__law_kinds F, hm, F.kp, F.binds fun _ _ _ _ _ _ us hl => (by obtain ⟨x0, rfl⟩ := len_1 hl; rfl)⟩
end
abbrev Fin (K : PySem.W.Frag) (mg : Str → Option Value) (x : Str) (st : Stmt) : Prop := ∃ f fd, Fun K x x st f fd ∧ mg x = some (.ref f)
theorem fin_mk {K : PySem.W.Frag} {h : Heap} {mg : Str → Option Value} (X : K.In h) (G : h.Ns mainGlobals mg) {x : Str} {st : Stmt} {f : Addr} {oc : Value} {od an : Option Addr} {osl : Array (Option Value)} {kV doc pm cdv ct : Value} (a : PySem.W.nsIn K mainGlobals x = some (some (.ref f))) (l : K.lookup f = some ⟨oc, od, .func (PySem.W.fnOf x x (defArgs st) (defBody st) (defScope st) .none kV doc pm an cdv ct), osl⟩)
    (c : PySem.W.codeIn K cdv x = true) (k : PySem.W.keepIn K (.ref f) = true) : Fin K mg x st := ⟨f, _, fun_mk l c k, PySem.W.mg_of X G a⟩
theorem all_mk {l : PySem.W.OpenLaw} {w : World} {K : PySem.W.Frag} {h : Heap} {mg : Str → Option Value} {fa : Addr} (X : K.In h) (G : h.Ns mainGlobals mg) (hfa : mg "law" = some (.ref fa))
    {f36 : Addr} {od36 an36 : Option Addr} {sl36 : Array (Option Value)} {oc36 kV36 dc36 pm36 cd36 ct36 : Value}
    {tc_LONGEST_NAME : Tok}
    {tc_MOST_ENDS : Tok}
    {tc_MOST_FIGURES : Tok}
    {tc_MOST_GOES : Tok}
    {tc_MOST_PAIRS : Tok}
    {tc_MOST_STATES : Tok}
    (q0 : Fin K mg "_law_cell_at" s__law_cell_at)
    (q1 : Fin K mg "_law_names" s__law_names)
    (q2 : Fin K mg "_law_state" s__law_state)
    (q3 : Fin K mg "_law_pairs" s__law_pairs)
    (q4 : Fin K mg "_law_joined" s__law_joined)
    (q5 : Fin K mg "_law_comma" s__law_comma)
    (q6 : Fin K mg "_law_words" s__law_words)
    (q7 : Fin K mg "_law_bare" s__law_bare)
    (q8 : Fin K mg "with_between" s_with_between)
    (q9 : Fin K mg "words_of_state" s_words_of_state)
    (q10 : Fin K mg "next_pairs" s_next_pairs)
    (q11 : Fin K mg "show_table" s_show_table)
    (q12 : Fin K mg "refuse_too_great" s_refuse_too_great)
    (q13 : Fin K mg "labels_of" s_labels_of)
    (q14 : Fin K mg "labels_told" s_labels_told)
    (q15 : Fin K mg "is_name" s_is_name)
    (q16 : Fin K mg "refuse_no_names" s_refuse_no_names)
    (q17 : Fin K mg "is_whole" s_is_whole)
    (q18 : Fin K mg "is_place" s_is_place)
    (q19 : Fin K mg "refuse_no_places" s_refuse_no_places)
    (q20 : Fin K mg "is_one_twice" s_is_one_twice)
    (q21 : Fin K mg "refuse_twice" s_refuse_twice)
    (q22 : Fin K mg "worse_by_better" s_worse_by_better)
    (q23 : Fin K mg "reached" s_reached)
    (q24 : Fin K mg "all_that_follows" s_all_that_follows)
    (q25 : Fin K mg "order_of" s_order_of)
    (q26 : Fin K mg "sorted_state" s_sorted_state)
    (q27 : Fin K mg "table_of" s_table_of)
    (q28 : Fin K mg "_law_turned" s__law_turned)
    (q29 : Fin K mg "parted" s_parted)
    (q30 : Fin K mg "read_twos" s_read_twos)
    (q31 : Fin K mg "read_label" s_read_label)
    (q32 : Fin K mg "read_number" s_read_number)
    (q33 : Fin K mg "read_state" s_read_state)
    (q34 : Fin K mg "read_table" s_read_table)
    (q35 : Fin K mg "_law_kinds" s__law_kinds)
    (a36 : PySem.W.nsIn K mainGlobals "law" = some (some (.ref f36))) (l36 : K.lookup f36 = some ⟨oc36, od36, .func (PySem.W.fnOf "law" "law" (defArgs s_law) (defBody s_law) (defScope s_law) .none kV36 dc36 pm36 an36 cd36 ct36), sl36⟩) (c36 : PySem.W.codeIn K cd36 "law" = true) (k36 : PySem.W.keepIn K (.ref f36) = true)
    (z_all : PySem.W.nsIn K mainGlobals "all" = some none)
    (z_any : PySem.W.nsIn K mainGlobals "any" = some none)
    (z_bool : PySem.W.nsIn K mainGlobals "bool" = some none)
    (z_dict : PySem.W.nsIn K mainGlobals "dict" = some none)
    (z_enumerate : PySem.W.nsIn K mainGlobals "enumerate" = some none)
    (z_int : PySem.W.nsIn K mainGlobals "int" = some none)
    (z_isinstance : PySem.W.nsIn K mainGlobals "isinstance" = some none)
    (z_len : PySem.W.nsIn K mainGlobals "len" = some none)
    (z_list : PySem.W.nsIn K mainGlobals "list" = some none)
    (z_range : PySem.W.nsIn K mainGlobals "range" = some none)
    (z_set : PySem.W.nsIn K mainGlobals "set" = some none)
    (z_sorted : PySem.W.nsIn K mainGlobals "sorted" = some none)
    (z_str : PySem.W.nsIn K mainGlobals "str" = some none)
    (z_tuple : PySem.W.nsIn K mainGlobals "tuple" = some none)
    (y_LONGEST_NAME : PySem.W.nsIn K mainGlobals "LONGEST_NAME" = some (some (.int 8 tc_LONGEST_NAME)))
    (y_MOST_ENDS : PySem.W.nsIn K mainGlobals "MOST_ENDS" = some (some (.int 8 tc_MOST_ENDS)))
    (y_MOST_FIGURES : PySem.W.nsIn K mainGlobals "MOST_FIGURES" = some (some (.int 4 tc_MOST_FIGURES)))
    (y_MOST_GOES : PySem.W.nsIn K mainGlobals "MOST_GOES" = some (some (.int 8 tc_MOST_GOES)))
    (y_MOST_PAIRS : PySem.W.nsIn K mainGlobals "MOST_PAIRS" = some (some (.int 40 tc_MOST_PAIRS)))
    (y_MOST_STATES : PySem.W.nsIn K mainGlobals "MOST_STATES" = some (some (.int 8 tc_MOST_STATES)))
    {T_SIGNS : Addr} {od_SIGNS : Option Addr} {tn_SIGNS : Nat} {sl_SIGNS : Array (Option Value)} {tk0_SIGNS tk1_SIGNS tk2_SIGNS tk3_SIGNS : Tok} (g_SIGNS : PySem.W.nsIn K mainGlobals "SIGNS" = some (some (.ref T_SIGNS))) (tl_SIGNS : K.lookup T_SIGNS = some ⟨.type "tuple", od_SIGNS, .seq #[.str "/" tk0_SIGNS, .str "|" tk1_SIGNS, .str "," tk2_SIGNS, .str ":" tk3_SIGNS] tn_SIGNS, sl_SIGNS⟩)
    : ∃ fd : FuncData, (∀ (s : Shared) (v : Value), BindsTo s fd ⟨[v], []⟩ [("_law_script", v)]) ∧ ∀ base : Heap, K.In base → base.Ns mainGlobals mg → FnOk l.prog w K mg base CX0 6 fa fd ["_law_script"] (sp_law K) := by
  have e := hfa.symm.trans (PySem.W.mg_of X G a36)
  cases e
  have B : Blt mg := ⟨PySem.W.mg_none_of X G z_all, PySem.W.mg_none_of X G z_any, PySem.W.mg_none_of X G z_bool, PySem.W.mg_none_of X G z_dict, PySem.W.mg_none_of X G z_enumerate, PySem.W.mg_none_of X G z_int, PySem.W.mg_none_of X G z_isinstance, PySem.W.mg_none_of X G z_len, PySem.W.mg_none_of X G z_list, PySem.W.mg_none_of X G z_range, PySem.W.mg_none_of X G z_set, PySem.W.mg_none_of X G z_sorted, PySem.W.mg_none_of X G z_str, PySem.W.mg_none_of X G z_tuple, ⟨_, PySem.W.mg_of X G y_LONGEST_NAME⟩, ⟨_, PySem.W.mg_of X G y_MOST_ENDS⟩, ⟨_, PySem.W.mg_of X G y_MOST_FIGURES⟩, ⟨_, PySem.W.mg_of X G y_MOST_GOES⟩, ⟨_, PySem.W.mg_of X G y_MOST_PAIRS⟩, ⟨_, PySem.W.mg_of X G y_MOST_STATES⟩⟩
  have e_SIGNS : clsA K "SIGNS" = T_SIGNS := clsA_of g_SIGNS
  have ER : Ers K mg := ⟨by rw [e_SIGNS]; exact PySem.W.mg_of X G g_SIGNS, fun H => by rw [e_SIGNS]; exact .inr ⟨_, _, _, tl_SIGNS, rfl, rfl, (show 4 ≤ sizeLine by decide), (.cons ⟨_, rfl⟩ (.cons ⟨_, rfl⟩ (.cons ⟨_, rfl⟩ (.cons ⟨_, rfl⟩ .nil))))⟩⟩
  obtain ⟨_, _, F0, m0⟩ := q0
  obtain ⟨_, _, F1, m1⟩ := q1
  obtain ⟨_, _, F2, m2⟩ := q2
  obtain ⟨_, _, F3, m3⟩ := q3
  obtain ⟨_, _, F4, m4⟩ := q4
  obtain ⟨_, _, F5, m5⟩ := q5
  obtain ⟨_, _, F6, m6⟩ := q6
  obtain ⟨_, _, F7, m7⟩ := q7
  obtain ⟨_, _, F8, m8⟩ := q8
  obtain ⟨_, _, F9, m9⟩ := q9
  obtain ⟨_, _, F10, m10⟩ := q10
  obtain ⟨_, _, F11, m11⟩ := q11
  obtain ⟨_, _, F12, m12⟩ := q12
  obtain ⟨_, _, F13, m13⟩ := q13
  obtain ⟨_, _, F14, m14⟩ := q14
  obtain ⟨_, _, F15, m15⟩ := q15
  obtain ⟨_, _, F16, m16⟩ := q16
  obtain ⟨_, _, F17, m17⟩ := q17
  obtain ⟨_, _, F18, m18⟩ := q18
  obtain ⟨_, _, F19, m19⟩ := q19
  obtain ⟨_, _, F20, m20⟩ := q20
  obtain ⟨_, _, F21, m21⟩ := q21
  obtain ⟨_, _, F22, m22⟩ := q22
  obtain ⟨_, _, F23, m23⟩ := q23
  obtain ⟨_, _, F24, m24⟩ := q24
  obtain ⟨_, _, F25, m25⟩ := q25
  obtain ⟨_, _, F26, m26⟩ := q26
  obtain ⟨_, _, F27, m27⟩ := q27
  obtain ⟨_, _, F28, m28⟩ := q28
  obtain ⟨_, _, F29, m29⟩ := q29
  obtain ⟨_, _, F30, m30⟩ := q30
  obtain ⟨_, _, F31, m31⟩ := q31
  obtain ⟨_, _, F32, m32⟩ := q32
  obtain ⟨_, _, F33, m33⟩ := q33
  obtain ⟨_, _, F34, m34⟩ := q34
  obtain ⟨_, _, F35, m35⟩ := q35
  have F36 := fun_mk (st := s_law) l36 c36 k36
  refine ⟨PySem.W.fnOf "law" "law" (defArgs s_law) (defBody s_law) (defScope s_law) .none kV36 dc36 pm36 an36 cd36 ct36, fun s v => .of_eq rfl, fun base _ _ => ?_⟩
  have K__law_cell_at : Callee l.prog w K mg base "_law_cell_at" 1 ["_law_script", "_law_k"] (sp__law_cell_at K) := call__law_cell_at B ER  F0 m0
  have K__law_names : Callee l.prog w K mg base "_law_names" 1 ["_law_cell", "_law_many"] (sp__law_names K) := call__law_names B ER  F1 m1
  have K__law_state : Callee l.prog w K mg base "_law_state" 2 ["_law_script", "_law_start", "_law_labels", "_law_many", "_law_full"] (sp__law_state K) := call__law_state B ER K__law_cell_at F2 m2
  have K__law_pairs : Callee l.prog w K mg base "_law_pairs" 1 ["_law_cells", "_law_labels"] (sp__law_pairs K) := call__law_pairs B ER  F3 m3
  have K__law_joined : Callee l.prog w K mg base "_law_joined" 1 ["_law_pairs_here", "_law_labels"] (sp__law_joined K) := call__law_joined B ER  F4 m4
  have K__law_comma : Callee l.prog w K mg base "_law_comma" 1 ["_law_rows"] (sp__law_comma K) := call__law_comma B ER  F5 m5
  have K__law_words : Callee l.prog w K mg base "_law_words" 2 ["_law_states", "_law_inner", "_law_pairs_here"] (sp__law_words K) := call__law_words B ER K__law_comma F6 m6
  have K__law_bare : Callee l.prog w K mg base "_law_bare" 1 ["_law_order"] (sp__law_bare K) := call__law_bare B ER  F7 m7
  have K_with_between : Callee l.prog w K mg base "with_between" 1 ["groups", "sign"] (sp_with_between K) := call_with_between B ER  F8 m8
  have K_words_of_state : Callee l.prog w K mg base "words_of_state" 2 ["goes", "ends"] (sp_words_of_state K) := call_words_of_state B ER K_with_between F9 m9
  have K_next_pairs : Callee l.prog w K mg base "next_pairs" 1 ["order"] (sp_next_pairs K) := call_next_pairs B ER  F10 m10
  have K_show_table : Callee l.prog w K mg base "show_table" 3 ["table"] (sp_show_table K) := call_show_table B ER K_with_between K_words_of_state K_next_pairs F11 m11
  have K_refuse_too_great : Callee l.prog w K mg base "refuse_too_great" 1 ["states", "pairs"] (sp_refuse_too_great K) := call_refuse_too_great B ER  F12 m12
  have K_labels_of : Callee l.prog w K mg base "labels_of" 1 ["goes"] (sp_labels_of K) := call_labels_of B ER  F13 m13
  have K_labels_told : Callee l.prog w K mg base "labels_told" 2 ["states", "pairs"] (sp_labels_told K) := call_labels_told B ER K_labels_of F14 m14
  have K_is_name : Callee l.prog w K mg base "is_name" 1 ["thing"] (sp_is_name K) := call_is_name B ER  F15 m15
  have K_refuse_no_names : Callee l.prog w K mg base "refuse_no_names" 3 ["states", "pairs"] (sp_refuse_no_names K) := call_refuse_no_names B ER K_labels_told K_is_name F16 m16
  have K_is_whole : Callee l.prog w K mg base "is_whole" 1 ["thing"] (sp_is_whole K) := call_is_whole B ER  F17 m17
  have K_is_place : Callee l.prog w K mg base "is_place" 2 ["number", "many"] (sp_is_place K) := call_is_place B ER K_is_whole F18 m18
  have K_refuse_no_places : Callee l.prog w K mg base "refuse_no_places" 3 ["states", "inner"] (sp_refuse_no_places K) := call_refuse_no_places B ER K_is_place F19 m19
  have K_is_one_twice : Callee l.prog w K mg base "is_one_twice" 1 ["labels"] (sp_is_one_twice K) := call_is_one_twice B ER  F20 m20
  have K_refuse_twice : Callee l.prog w K mg base "refuse_twice" 2 ["states"] (sp_refuse_twice K) := call_refuse_twice B ER K_is_one_twice K_labels_of F21 m21
  have K_worse_by_better : Callee l.prog w K mg base "worse_by_better" 1 ["pairs"] (sp_worse_by_better K) := call_worse_by_better B ER  F22 m22
  have K_reached : Callee l.prog w K mg base "reached" 1 ["worse_labels", "start"] (sp_reached K) := call_reached B ER  F23 m23
  have K_all_that_follows : Callee l.prog w K mg base "all_that_follows" 2 ["pairs"] (sp_all_that_follows K) := call_all_that_follows B ER K_worse_by_better K_reached F24 m24
  have K_order_of : Callee l.prog w K mg base "order_of" 3 ["pairs"] (sp_order_of K) := call_order_of B ER K_all_that_follows F25 m25
  have K_sorted_state : Callee l.prog w K mg base "sorted_state" 1 ["goes", "ends"] (sp_sorted_state K) := call_sorted_state B ER  F26 m26
  have K_table_of : Callee l.prog w K mg base "table_of" 4 ["states", "inner", "pairs"] (sp_table_of K) := call_table_of B ER K_refuse_too_great K_refuse_no_names K_refuse_no_places K_refuse_twice K_order_of K_sorted_state F27 m27
  have K__law_turned : Callee l.prog w K mg base "_law_turned" 1 ["_law_some", "_law_cell"] (sp__law_turned K) := call__law_turned B ER  F28 m28
  have K_parted : Callee l.prog w K mg base "parted" 1 ["words", "sign"] (sp_parted K) := call_parted B ER  F29 m29
  have K_read_twos : Callee l.prog w K mg base "read_twos" 2 ["words"] (sp_read_twos K) := call_read_twos B ER K_parted F30 m30
  have K_read_label : Callee l.prog w K mg base "read_label" 1 ["word"] (sp_read_label K) := call_read_label B ER  F31 m31
  have K_read_number : Callee l.prog w K mg base "read_number" 1 ["word"] (sp_read_number K) := call_read_number B ER  F32 m32
  have K_read_state : Callee l.prog w K mg base "read_state" 3 ["words"] (sp_read_state K) := call_read_state B ER K_parted K_read_twos K_read_label K_read_number F33 m33
  have K_read_table : Callee l.prog w K mg base "read_table" 5 ["text"] (sp_read_table K) := call_read_table B ER K_parted K_read_state K_read_number K_read_twos K_read_label K_table_of F34 m34
  have K__law_kinds : Callee l.prog w K mg base "_law_kinds" 1 ["_law_table"] (sp__law_kinds K) := call__law_kinds B ER  F35 m35
  exact ok_law B ER K__law_cell_at K__law_names K__law_state K__law_pairs K__law_joined K__law_words K__law_bare K_show_table K_table_of K__law_turned K_read_table K__law_kinds F36
theorem walk {l : PySem.W.OpenLaw} {q : Program} {loose : List Str} {XP : (Str → Option Value) → Heap → Prop} {YP : World → Heap → Prop} {d : DefRec} {K : Params → PySem.W.Frag} (hn : l.most = some 63) (hdf : d.params.defaults = [])
    (hY : ∀ (w : World) (h : Heap), YP w h → (K w.params).In h)
    (F : ∀ (w : World) (mg : Str → Option Value) (fa : Addr) (h : Heap), (K w.params).In h → h.Ns mainGlobals mg → mg d.name = some (.ref fa) →
      ∃ fd : FuncData, (∀ (s : Shared) (u : Value), BindsTo s fd ⟨[u], []⟩ [("_law_script", u)]) ∧ ∀ base : Heap, (K w.params).In base → base.Ns mainGlobals mg → FnOk l.prog w (K w.params) mg base CX0 6 fa fd ["_law_script"] (sp_law (K w.params))) :
    PySem.W.WalkO q loose XP YP l.row.toRowW d [] (fun f vs => PySem.call f vs) :=
  L2.walk_of (n := 63) (k := 6) (x := "_law_script") (CX := fun _ => CX0) (sp := fun w => sp_law (K w.params)) hn (by decide) hdf ⟨rfl, by decide, by decide, rfl⟩ hY F (fun _ _ a ns hl _ hS => ⟨a, ns, rfl, hS, hl, fun _ => rfl⟩) fun _ _ _ _ _ z => z
end K75
namespace L2
open PySem PySem.W PySem.W.Fast in
theorem left_of {p q : Program} {loose : List Str} {Xt : Shared → Bool} {α : Type} {Yf : Shared → α} {Ya : World → α} {N : Nat}
    (h : ∀ w : World, Option.map (fun s => (tw4187177175401517315 q loose (tw5923862056798008813 p.main.body) Xt true s, Yf s)) (((tw10274390034422433532 tw14364793385576792824 (opening p) w N (PySem.start (opening p)).1 (PySem.start (opening p)).2).bind (tw14289696077712309145 p)).bind fun s₀ =>
      match s₀.heap.isNs mainGlobals && s₀.gens.size == 0 with
      | true => (tw14082659384304107361 tw14364793385576792824 p w s₀.heap.objs.size (s₀.heap.nsMap mainGlobals "__annotations__") N s₀ (topStub p)).bind fun s₁ => match staticsOk (tw5923862056798008813 p.main.body) s₀.heap s₁.heap && namesBound p s₁.heap && gensDone s₁ && laidKept s₀.heap s₁.heap with
        | true => some s₁
        | false => none
      | false => none) = some (openGood q loose, Ya w)) : LeftO p q loose Xt Yf Ya N := by
  intro w
  have h := h w
  rw [← te14082659384304107361, ← te10274390034422433532, ← te14364793385576792824, ← te4187177175401517315, ← te5923862056798008813, ← te14289696077712309145] at h
  exact h
end L2
namespace K75
open PySem
def own : Stmt → Bool
  | .Assign [.Name x _] _ _ => x != "__name__"
  | _ => true
def view : Program := { PySem.Challenge.pw_namepaths_k75_tables_written with main := { PySem.Challenge.pw_namepaths_k75_tables_written.main with body := PySem.Challenge.pw_namepaths_k75_tables_written.main.body.filter own } }
end K75
open PySem PySem.W PyProof.Rows
local macro_rules | `(tactic| o_head $H:term) => `(tactic| refine holds_open (q := K75.view) (loose := []) (Xt := fun s => xlAt K75.view [] s && recOk [] s) (XP := XL K75.view []) (Yf := Hook.obs $H) (Ya := Hook.val $H) (YP := Hook.says $H) (N := 40000) ?hl (Hook.of $H) (Hook.keeps $H) (fun s e => xl_of s (Bool.and_eq_true_iff.mp e).1) XL.keeps (by rfl) (by rfl) (by rfl) (fun s e => recFacts_of (Bool.and_eq_true_iff.mp e).2) (by rfl) (by first | assumption | decide +kernel) (by decide +kernel) ⟨rfl, rfl, rfl, rfl, rfl, by decide +kernel⟩ ?hw ?hc)
open PySem PySem.W PyProof.Rows
set_option maxRecDepth 100000 in
set_option maxHeartbeats 0 in
theorem PySem.Challenge.cw_namepaths_k75_tables_written_holds : PySem.Challenge.rw_namepaths_k75_tables_written.Holds := by
  w_on; o_law; k_head
  case hl =>
    refine L2.left_of fun w => ?_
    kernel_rfl
  case hw => w_witness2
  k_fill
  refine K75.walk (l := PySem.Challenge.rw_namepaths_k75_tables_written) rfl rfl (fun w h Y => PySem.W.kIn_of Y) ?F
  case F =>
    intro w mg fa h KX G hmg
    refine' K75.all_mk KX G hmg (K75.fin_mk KX G ?a0 ?l0 ?c0 ?k0) (K75.fin_mk KX G ?a1 ?l1 ?c1 ?k1) (K75.fin_mk KX G ?a2 ?l2 ?c2 ?k2) (K75.fin_mk KX G ?a3 ?l3 ?c3 ?k3) (K75.fin_mk KX G ?a4 ?l4 ?c4 ?k4) (K75.fin_mk KX G ?a5 ?l5 ?c5 ?k5) (K75.fin_mk KX G ?a6 ?l6 ?c6 ?k6) (K75.fin_mk KX G ?a7 ?l7 ?c7 ?k7) (K75.fin_mk KX G ?a8 ?l8 ?c8 ?k8) (K75.fin_mk KX G ?a9 ?l9 ?c9 ?k9) (K75.fin_mk KX G ?a10 ?l10 ?c10 ?k10) (K75.fin_mk KX G ?a11 ?l11 ?c11 ?k11) (K75.fin_mk KX G ?a12 ?l12 ?c12 ?k12) (K75.fin_mk KX G ?a13 ?l13 ?c13 ?k13) (K75.fin_mk KX G ?a14 ?l14 ?c14 ?k14) (K75.fin_mk KX G ?a15 ?l15 ?c15 ?k15) (K75.fin_mk KX G ?a16 ?l16 ?c16 ?k16) (K75.fin_mk KX G ?a17 ?l17 ?c17 ?k17) (K75.fin_mk KX G ?a18 ?l18 ?c18 ?k18) (K75.fin_mk KX G ?a19 ?l19 ?c19 ?k19) (K75.fin_mk KX G ?a20 ?l20 ?c20 ?k20) (K75.fin_mk KX G ?a21 ?l21 ?c21 ?k21) (K75.fin_mk KX G ?a22 ?l22 ?c22 ?k22) (K75.fin_mk KX G ?a23 ?l23 ?c23 ?k23) (K75.fin_mk KX G ?a24 ?l24 ?c24 ?k24) (K75.fin_mk KX G ?a25 ?l25 ?c25 ?k25) (K75.fin_mk KX G ?a26 ?l26 ?c26 ?k26) (K75.fin_mk KX G ?a27 ?l27 ?c27 ?k27) (K75.fin_mk KX G ?a28 ?l28 ?c28 ?k28) (K75.fin_mk KX G ?a29 ?l29 ?c29 ?k29) (K75.fin_mk KX G ?a30 ?l30 ?c30 ?k30) (K75.fin_mk KX G ?a31 ?l31 ?c31 ?k31) (K75.fin_mk KX G ?a32 ?l32 ?c32 ?k32) (K75.fin_mk KX G ?a33 ?l33 ?c33 ?k33) (K75.fin_mk KX G ?a34 ?l34 ?c34 ?k34) (K75.fin_mk KX G ?a35 ?l35 ?c35 ?k35) ?a36 ?l36 ?c36 ?k36 ?z_all ?z_any ?z_bool ?z_dict ?z_enumerate ?z_int ?z_isinstance ?z_len ?z_list ?z_range ?z_set ?z_sorted ?z_str ?z_tuple ?y_LONGEST_NAME ?y_MOST_ENDS ?y_MOST_FIGURES ?y_MOST_GOES ?y_MOST_PAIRS ?y_MOST_STATES ?g_SIGNS ?tl_SIGNS
    case a0 | l0 | c0 | k0 | a1 | l1 | c1 | k1 | a2 | l2 | c2 | k2 | a3 | l3 | c3 | k3 | a4 | l4 | c4 | k4 | a5 | l5 | c5 | k5 | a6 | l6 | c6 | k6 | a7 | l7 | c7 | k7 | a8 | l8 | c8 | k8 | a9 | l9 | c9 | k9 | a10 | l10 | c10 | k10 | a11 | l11 | c11 | k11 | a12 | l12 | c12 | k12 | a13 | l13 | c13 | k13 | a14 | l14 | c14 | k14 | a15 | l15 | c15 | k15 | a16 | l16 | c16 | k16 | a17 | l17 | c17 | k17 | a18 | l18 | c18 | k18 | a19 | l19 | c19 | k19 | a20 | l20 | c20 | k20 | a21 | l21 | c21 | k21 | a22 | l22 | c22 | k22 | a23 | l23 | c23 | k23 | a24 | l24 | c24 | k24 | a25 | l25 | c25 | k25 | a26 | l26 | c26 | k26 | a27 | l27 | c27 | k27 | a28 | l28 | c28 | k28 | a29 | l29 | c29 | k29 | a30 | l30 | c30 | k30 | a31 | l31 | c31 | k31 | a32 | l32 | c32 | k32 | a33 | l33 | c33 | k33 | a34 | l34 | c34 | k34 | a35 | l35 | c35 | k35 | a36 | l36 | c36 | k36 | z_all | z_any | z_bool | z_dict | z_enumerate | z_int | z_isinstance | z_len | z_list | z_range | z_set | z_sorted | z_str | z_tuple | y_LONGEST_NAME | y_MOST_ENDS | y_MOST_FIGURES | y_MOST_GOES | y_MOST_PAIRS | y_MOST_STATES | g_SIGNS | tl_SIGNS => k_is
