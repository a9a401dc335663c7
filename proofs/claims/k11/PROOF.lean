import PyProof.Rows.All
import Wide.All
import OpenK.AllK
import Wide.FinOn
import Lean
import PyProof.EqAt
import PyProof.EqKinds
import PyProof.TupleCall
import PySem.Challenge.RW_namepaths_k11_where_a_step_goes
set_option Elab.async false
set_option linter.all false
set_option maxRecDepth 100000
set_option maxHeartbeats 1000000
set_option Elab.async false
set_option linter.all false
set_option maxRecDepth 100000
/-! THE HAND LAYER, for ints, bools, texts, own classes, LISTS and tuples (index, slices, in, append, pop ..), calls, loops. Paste it whole ahead of your own text; what your proof does not reach may be deleted. -/
namespace L2
open PySem PySem.Spec PyProof.Rows

/-- a key: an int or a str -/
abbrev Key := Sum Int Str
def keyIs : Key → Value → Bool
  | .inl k, v => Value.isInt k v
  | .inr x, v => Value.isStrOf x v
def keyH (w : World) : Key → Int
  | .inl k => hashInt k
  | .inr x => hashStr w x
theorem keyIs_shape : ∀ {k : Key} {v : Value}, keyIs k v = true → (∃ i t, k = Sum.inl i ∧ v = Value.int i t) ∨ (∃ x t, k = Sum.inr x ∧ v = Value.str x t)
  | .inl i, v, h => by
    obtain ⟨t, e⟩ := Value.isInt_shape (k := i) (v := v) h
    exact .inl ⟨i, t, rfl, e⟩
  | .inr x, v, h => by
    obtain ⟨t, e⟩ := Value.isStrOf_shape (x := x) (v := v) h
    exact .inr ⟨x, t, rfl, e⟩
theorem keyIs_int (i : Int) (t : Tok) : keyIs (.inl i) (.int i t) = true := by simp [keyIs, Value.isInt]
theorem keyIs_str (x : Str) (t : Tok) : keyIs (.inr x) (.str x t) = true := by simp [keyIs, Value.isStrOf]
theorem key_ll (a b : Int) : decide ((Sum.inl a : Key) = Sum.inl b) = (a == b) := by
  by_cases e : a = b
  · subst e; simp
  · have h : ¬ (Sum.inl a : Key) = Sum.inl b := fun q => e (Sum.inl.inj q)
    rw [decide_eq_false h]
    exact (beq_eq_false_iff_ne.mpr e).symm
theorem key_rr (a b : Str) : decide ((Sum.inr a : Key) = Sum.inr b) = decide (a = b) := by
  by_cases e : a = b
  · subst e; simp
  · have h : ¬ (Sum.inr a : Key) = Sum.inr b := fun q => e (Sum.inr.inj q)
    rw [decide_eq_false h, decide_eq_false e]
theorem key_lr (a : Int) (b : Str) : decide ((Sum.inl a : Key) = Sum.inr b) = false := decide_eq_false (fun q => nomatch q)
theorem key_rl (a : Str) (b : Int) : decide ((Sum.inr a : Key) = Sum.inl b) = false := decide_eq_false (fun q => nomatch q)

def mixKind (prog : Program) (w : World) : PySem.KeyKind prog w Key where
  is := keyIs
  hash := keyH w
  inj := fun v a b ha hb => by
    rcases keyIs_shape ha with ⟨i, t, rfl, rfl⟩ | ⟨x, t, rfl, rfl⟩
    · rcases keyIs_shape hb with ⟨j, u, rfl, e⟩ | ⟨y, u, rfl, e⟩
      · injection e with e1 _; rw [e1]
      · exact nomatch e
    · rcases keyIs_shape hb with ⟨j, u, rfl, e⟩ | ⟨y, u, rfl, e⟩
      · exact nomatch e
      · injection e with e1 _; rw [e1]
  byValue := fun k v h => by
    rcases keyIs_shape h with ⟨i, t, rfl, rfl⟩ | ⟨x, t, rfl, rfl⟩ <;> rfl
  pyHash := fun hv h => by
    rcases keyIs_shape hv with ⟨i, t, rfl, rfl⟩ | ⟨x, t, rfl, rfl⟩
    · exact wpAny_pyHash_int h
    · exact wpAny_pyHash_str h
  eqBool := fun hu hv h => by
    rcases keyIs_shape hu with ⟨i, t, rfl, rfl⟩ | ⟨x, t, rfl, rfl⟩
    · rcases keyIs_shape hv with ⟨j, u, rfl, rfl⟩ | ⟨y, u, rfl, rfl⟩
      · rw [key_ll] at h; exact wpAny_eqBool_int h
      · rw [key_lr] at h; exact SeqAt.EqAt.int_str i t y u _ _ _ _ h
    · rcases keyIs_shape hv with ⟨j, u, rfl, rfl⟩ | ⟨y, u, rfl, rfl⟩
      · rw [key_rl] at h; exact SeqAt.EqAt.str_int x t j u _ _ _ _ h
      · rw [key_rr] at h; exact wpAny_eqBool_str h
  «strs» := fun k x t v h => by
    rcases keyIs_shape h with ⟨i, u, rfl, e⟩ | ⟨y, u, rfl, e⟩
    · exact nomatch e
    · injection e with e1 _
      subst e1
      cases v <;> rfl

theorem mixKind_is (prog : Program) (w : World) (k : Key) (v : Value) : (mixKind prog w).is k v = keyIs k v := rfl
theorem mixKind_int (prog : Program) (w : World) (i : Int) (t : Tok) : (mixKind prog w).is (.inl i) (.int i t) = true := keyIs_int i t
theorem mixKind_str (prog : Program) (w : World) (x : Str) (t : Tok) : (mixKind prog w).is (.inr x) (.str x t) = true := keyIs_str x t
end L2

namespace L2
open PySem PySem.Spec PyProof.Rows

/-- a value, without the heap -/
inductive V where
  | non | bl (b : Bool) | int (i : Int) | str (x : Str) | byt (b : Array UInt8) | flt (b : UInt64) | ref (a : Addr) | ty (n : String)
  deriving DecidableEq

def RelV : V → Value → Prop
  | .non, u => u = Value.none
  | .bl b, u => u = Value.bool b
  | .int i, u => ∃ t, u = Value.int i t
  | .str x, u => ∃ t, u = Value.str x t
  | .byt b, u => ∃ t, u = Value.bytes b t
  | .flt b, u => ∃ t, u = Value.float b t
  | .ref a, u => u = Value.ref a
  | .ty n, u => u = Value.type n

abbrev Vals : List V → List Value → Prop := Paired RelV
theorem Vals.length {xs : List V} {us : List Value} (r : Vals xs us) : xs.length = us.length := Paired.length r
theorem Vals.get : ∀ {xs : List V} {us : List Value} {i : Nat} {x : V}, Vals xs us → xs[i]? = some x → ∃ u, us[i]? = some u ∧ RelV x u
  | _, _, _, _, .nil, e => by simp at e
  | _, _, 0, _, .cons r _, e => by simp at e; subst e; exact ⟨_, rfl, r⟩
  | _, _, i + 1, x, .cons _ t, e => by
    obtain ⟨u, h1, h2⟩ := Vals.get (i := i) (x := x) t (by simpa using e)
    exact ⟨u, by simpa using h1, h2⟩
theorem Vals.set {x : V} {u : Value} (r : RelV x u) : ∀ {xs : List V} {us : List Value} (i : Nat), Vals xs us → Vals (xs.set i x) (us.set i u)
  | _, _, _, .nil => .nil
  | _, _, 0, .cons _ t => .cons r t
  | _, _, i + 1, .cons q t => .cons q (Vals.set r i t)
theorem Vals.append : ∀ {xs ys : List V} {us ws : List Value}, Vals xs us → Vals ys ws → Vals (xs ++ ys) (us ++ ws)
  | _, _, _, _, .nil, s => s
  | _, _, _, _, .cons r t, s => .cons r (Vals.append t s)
theorem Vals.take : ∀ {xs : List V} {us : List Value} (n : Nat), Vals xs us → Vals (xs.take n) (us.take n)
  | _, _, 0, _ => .nil
  | _, _, _ + 1, .nil => .nil
  | _, _, n + 1, .cons r t => .cons r (Vals.take n t)
theorem Vals.drop : ∀ {xs : List V} {us : List Value} (n : Nat), Vals xs us → Vals (xs.drop n) (us.drop n)
  | _, _, 0, r => r
  | _, _, _ + 1, .nil => .nil
  | _, _, n + 1, .cons _ t => Vals.drop n t
theorem Vals.none_of : ∀ {xs : List V} {us : List Value} {i : Nat}, Vals xs us → xs[i]? = none → us[i]? = none := fun {xs us i} r e => by
  have h1 := r.length
  have h2 : xs.length ≤ i := List.getElem?_eq_none_iff.mp e
  exact List.getElem?_eq_none_iff.mpr (by omega)

def RelO : Option V → Option Value → Prop
  | some v, some u => RelV v u
  | none, none => True
  | _, _ => False
def KV {κ : Type} : List (κ × V) → List (κ × Value) → Prop := Paired fun (p : κ × V) (q : κ × Value) => p.1 = q.1 ∧ RelV p.2 q.2

/-- a key of a dict (00_mix): an int or a text -/
def kV : Key → V
  | .inl i => .int i
  | .inr x => .str x

/-- what stands at a tracked address -/
inductive HO where
  /-- a list -/
  | lst (xs : List V)
  /-- a tuple (never changes) -/
  | tup (xs : List V)
  /-- a dict whose keys are ints and texts; one whose keys are tuples of ints and texts (the empty one is both) -/
  | dK (kvs : List (Key × V)) | dT (kvs : List (List Key × V))
  /-- a set of ints: its members, its size -/
  | set (S : Int → Bool) (n : Nat)
  /-- an instance of the class at C, its dict at dx, its attributes -/
  | ins (C dx : Addr) (fs : List (Str × V))
  /-- the dict of the instance at x -/
  | own (x : Addr)
  /-- the dict of an exception -/
  | xd (fs : List (Str × V))
  /-- a bound method, f of x -/
  | met (f x : Addr)
  /-- a range object lo, lo + 1, .. below hi -/
  | rng (lo hi : Int)
  /-- a thing that is known to the object (the script; a dict while a loop walks it): read, never written while it is so -/
  | frz (o : Obj) (u : HO)
  /-- a code object's table -/
  | tbl (ps : Array Value)
  /-- any other thing, by what is true of its one object (a def of one's own: SetO a S n := HO.ext fun h => ..) -/
  | ext (φ : Heap → Prop)

abbrev Hp := Addr → Option HO
def upd (H : Hp) (a : Addr) (o : HO) : Hp := fun b => if b = a then some o else H b
theorem upd_same {H : Hp} {a : Addr} {o : HO} : upd H a o a = some o := by unfold upd; rw [if_pos rfl]
theorem upd_ne {H : Hp} {a b : Addr} {o : HO} (h : b ≠ a) : upd H a o b = H b := by unfold upd; rw [if_neg h]
theorem upd_upd {H : Hp} {a : Addr} {o u : HO} : upd (upd H a o) a u = upd H a u := by
  funext b; unfold upd; split <;> rfl
/-- two objects of different content stand apart -/
theorem ne_of {H : Hp} {a b : Addr} {o u : HO} (h : H a = some o) (h' : H b = some u) (d : o ≠ u) : a ≠ b := by
  intro e; subst e; rw [h] at h'; exact d (Option.some.inj h')
theorem ne_of_none {H : Hp} {a b : Addr} {o : HO} (h : H a = some o) (h' : H b = none) : a ≠ b := by
  intro e; subst e; rw [h] at h'; cases h'

section
variable (P : Program) (w : World)
def ObjOk (H : Hp) (h : Heap) (a : Addr) : HO → Prop
  | .lst xs => xs.length ≤ sizeLine ∧ ∃ (its : List Value) (n : Nat), Vals xs its ∧ h.get? a = some { cls := .type "list", data := .seq its.toArray n }
  | .tup xs => xs.length ≤ sizeLine ∧ ∃ its : List Value, Vals xs its ∧ IsTup h a its.toArray
  | .dK kvs => kvs.length ≤ sizeLine ∧ (a == sysModules) = false ∧ ∃ vs, KV kvs vs ∧ h.DictOf (mixKind P w) a vs
  | .dT kvs => kvs.length ≤ sizeLine ∧ (a == sysModules) = false ∧ ∃ xs : List (List Key × Addr × Value),
      Paired (fun (p : List Key × V) (q : List Key × Addr × Value) => p.1 = q.1 ∧ H q.2.1 = some (.tup (p.1.map kV)) ∧ RelV p.2 q.2.2) kvs xs ∧
      ∃ o es ep, h.get? a = some o ∧ o.ExactDict ∧ o.data = .dict es ep ∧ es.toList = xs.map (entryOfKey (tupleKind (mixKind P w))) ∧ (xs.map (·.1)).Nodup
  | .set S n => h.SetOf (intKind P w) a S n
  | .ins C dx fs => H dx = some (.own a) ∧ fs.length ≤ 1000 ∧ dx ≠ a ∧ h.get? a = some (PySem.W.instObj C dx) ∧
      ∃ mA, h.Ns1 dx mA ∧ (∀ f, RelO (fs.lookup f) (mA f)) ∧ PySem.Within mA (fs.map (·.1))
  | .own _ => ∃ o, h.get? a = some o
  | .xd fs => ∃ mA, h.Ns1 a mA ∧ ∀ f, RelO (fs.lookup f) (mA f)
  | .rng lo hi => ∃ t u v, h.get? a = some { cls := .type "range", data := .fields #[.int lo t, .int hi u, .int 1 v] }
  | .frz o u => h.get? a = some o ∧ ObjOk H h a u
  | .tbl ps => h.get? a = some { cls := .none, data := .fields ps }
  | .met f x => h.get? a = some (PySem.W.methodObj (.ref f) (.ref x))
  | .ext φ => φ h ∧ (∃ o, h.get? a = some o) ∧ ∀ h1 h2 : Heap, φ h1 → (∀ o, h1.get? a = some o → h2.get? a = some o) → φ h2
/-- the abstract heap is held -/
def HOk (H : Hp) (h : Heap) : Prop := ∀ a o, H a = some o → ObjOk P w H h a o
end

section
variable {P : Program} {w : World} {H H' : Hp} {h h' : Heap} {a : Addr} {o : HO}
theorem ObjOk.lt (x : ObjOk P w H h a o) : a < h.objs.size := by
  cases o with
  | lst xs => obtain ⟨_, _, _, _, e⟩ := x; exact Heap.lt_size e
  | tup xs => obtain ⟨_, _, _, p⟩ := x; exact p.lt
  | dK kvs => obtain ⟨_, _, _, _, o, _, _, e, _⟩ := x; exact Heap.lt_size e
  | dT kvs => obtain ⟨_, _, _, _, o, _, _, e, _⟩ := x; exact Heap.lt_size e
  | set S n => obtain ⟨o, _, _, _, e, _⟩ := x; exact Heap.lt_size e
  | ins C dx fs => obtain ⟨_, _, _, e, _⟩ := x; exact Heap.lt_size e
  | own y => obtain ⟨_, e⟩ := x; exact Heap.lt_size e
  | xd fs => obtain ⟨_, ⟨_, _, _, e, _⟩, _⟩ := x; exact Heap.lt_size e
  | rng lo hi => obtain ⟨_, _, _, e⟩ := x; exact Heap.lt_size e
  | frz ob u => obtain ⟨e, _⟩ := x; exact Heap.lt_size e
  | tbl ps => exact Heap.lt_size (show h.get? a = some _ from x)
  | met f y => exact Heap.lt_size (show h.get? a = some _ from x)
  | ext φ => obtain ⟨_, ⟨_, e⟩, _⟩ := x; exact Heap.lt_size e
theorem Paired.mapP {α β : Type} {F G : α → β → Prop} : ∀ {l₁ : List α} {l₂ : List β}, Paired F l₁ l₂ → (∀ a b, F a b → G a b) → Paired G l₁ l₂
  | _, _, .nil, _ => .nil
  | _, _, .cons r t, f => .cons (f _ _ r) (Paired.mapP t f)
theorem Paired.imp' {α β : Type} {F G : α → β → Prop} (f : ∀ a b, F a b → G a b) {l₁ : List α} {l₂ : List β} (r : Paired F l₁ l₂) : Paired G l₁ l₂ := Paired.mapP r f
/-- what an object's description leans on: its own object, its own dict, the tuples -/
theorem ObjOk.stay (x : ObjOk P w H h a o) (k : ∀ b u, (b = a ∨ H b = some (.own a)) → h.get? b = some u → h'.get? b = some u)
    (ho : ∀ b, H b = some (.own a) → H' b = some (.own a)) (ht : ∀ b xs, H b = some (.tup xs) → H' b = some (.tup xs)) : ObjOk P w H' h' a o := by
  induction o with
  | lst xs => obtain ⟨z, its, n, r, e⟩ := x; exact ⟨z, its, n, r, k _ _ (.inl rfl) e⟩
  | tup xs => obtain ⟨z, its, r, ob, e, c⟩ := x; exact ⟨z, its, r, ob, k _ _ (.inl rfl) e, c⟩
  | dK kvs => obtain ⟨z, y, vs, r, ob, es, ep, e, c⟩ := x; exact ⟨z, y, vs, r, ob, es, ep, k _ _ (.inl rfl) e, c⟩
  | dT kvs =>
    obtain ⟨z, y, xs, r, ob, es, ep, e, c⟩ := x
    exact ⟨z, y, xs, Paired.mapP r fun p q z => ⟨z.1, ht _ _ z.2.1, z.2.2⟩, ob, es, ep, k _ _ (.inl rfl) e, c⟩
  | set S n => obtain ⟨ob, es, ep, t, e, c⟩ := x; exact ⟨ob, es, ep, t, k _ _ (.inl rfl) e, c⟩
  | ins C dx fs =>
    obtain ⟨d, z, ne, e, mA, ⟨od, es, ep, e2, c⟩, r⟩ := x
    exact ⟨ho _ d, z, ne, k _ _ (.inl rfl) e, mA, ⟨od, es, ep, k _ _ (.inr d) e2, c⟩, r⟩
  | own y => obtain ⟨ob, e⟩ := x; exact ⟨ob, k _ _ (.inl rfl) e⟩
  | xd fs => obtain ⟨mA, ⟨od, es, ep, e, c⟩, r⟩ := x; exact ⟨mA, ⟨od, es, ep, k _ _ (.inl rfl) e, c⟩, r⟩
  | rng lo hi => obtain ⟨t, u, v, e⟩ := x; exact ⟨t, u, v, k _ _ (.inl rfl) e⟩
  | frz ob u ih => obtain ⟨e, q⟩ := x; exact ⟨k _ _ (.inl rfl) e, ih q⟩
  | tbl ps =>
    have e : h.get? a = some { cls := .none, data := .fields ps } := x
    show h'.get? a = some { cls := .none, data := .fields ps }
    exact k a _ (.inl rfl) e
  | met f y =>
    have e : h.get? a = some (PySem.W.methodObj (.ref f) (.ref y)) := x
    show h'.get? a = some (PySem.W.methodObj (.ref f) (.ref y))
    exact k a _ (.inl rfl) e
  | ext φ => obtain ⟨p, ⟨o, e⟩, st⟩ := x; exact ⟨st _ _ p fun o q => k _ _ (.inl rfl) q, ⟨o, k _ _ (.inl rfl) e⟩, st⟩
theorem HOk.lt (x : HOk P w H h) (e : H a = some o) : a < h.objs.size := (x a o e).lt
theorem HOk.fresh (x : HOk P w H h) (e : h.objs.size ≤ a) : H a = none := by
  cases q : H a with
  | none => rfl
  | some u => exact absurd (Nat.lt_of_lt_of_le (x.lt q) e) (Nat.lt_irrefl _)
/-- every object of the heap is kept -/
theorem HOk.kept (x : HOk P w H h) (k : ∀ b u, h.get? b = some u → h'.get? b = some u) : HOk P w H h' := fun a o e =>
  (x a o e).stay (fun b u _ q => k b u q) (fun _ q => q) fun _ _ q => q
/-- a new object is laid and tracked -/
theorem HOk.laid (x : HOk P w H h) (k : ∀ b u, h.get? b = some u → h'.get? b = some u) (hp : h.objs.size ≤ a) (new : ObjOk P w (upd H a o) h' a o) : HOk P w (upd H a o) h' := fun b u e => by
  have hn := x.fresh hp
  by_cases hb : b = a
  · subst hb; rw [upd_same] at e; cases e; exact new
  · rw [upd_ne hb] at e
    exact (x b u e).stay (fun c v _ q => k c v q) (fun c q => by rw [upd_ne (ne_of_none q hn)]; exact q) fun c xs q => by rw [upd_ne (ne_of_none q hn)]; exact q
end

/-- what may be read as u: it is u, or a known u -/
def Rd (H : Hp) (a : Addr) (u : HO) : Prop := H a = some u ∨ ∃ o, H a = some (.frz o u)
theorem Rd.of {H : Hp} {a : Addr} {u : HO} (h : H a = some u) : Rd H a u := .inl h
theorem Rd.ok {P : Program} {w : World} {H : Hp} {h : Heap} {a : Addr} {u : HO} (r : Rd H a u) (x : HOk P w H h) : ObjOk P w H h a u := by
  rcases r with r | ⟨o, r⟩
  · exact x a u r
  · obtain ⟨_, q⟩ := x a _ r
    exact q
/-- what may be written -/
def Mut : Option HO → Prop
  | some (.lst _) => True
  | some (.dK _) => True
  | some (.dT _) => True
  | some (.set _ _) => True
  | some (.ins _ _ _) => True
  | some (.ext _) => True
  | _ => False
section
variable {P : Program} {w : World} {H : Hp} {h h' : Heap} {x e : Addr} {o' : HO}
/-- the object at e is changed: x itself, or the dict of the instance x -/
theorem HOk.write (ok : HOk P w H h) (mu : Mut (H x)) (he : e = x ∨ H e = some (.own x)) (k : ∀ b u, b ≠ e → h.get? b = some u → h'.get? b = some u) (heo : ∃ u, h'.get? e = some u)
    (new : ObjOk P w (upd H x o') h' x o') : HOk P w (upd H x o') h' := fun b u q => by
  have nown : ∀ c y, H c = some (.own y) → c ≠ x := fun c y r z => by subst z; rw [r] at mu; exact mu
  have ntup : ∀ c xs, H c = some (.tup xs) → c ≠ x := fun c xs r z => by subst z; rw [r] at mu; exact mu
  by_cases hb : b = x
  · subst hb; rw [upd_same] at q; cases q; exact new
  · rw [upd_ne hb] at q
    by_cases hbe : b = e
    · have q' : H b = some (.own x) := by
        rcases he with z | z
        · exact absurd (hbe.trans z) hb
        · rw [hbe]; exact z
      rw [q] at q'; cases q'
      obtain ⟨v, hv⟩ := heo
      exact ⟨v, by rw [hbe]; exact hv⟩
    · refine (ok b u q).stay (fun c v hc r => k c v ?_ r) (fun c r => by rw [upd_ne (nown c b r)]; exact r) fun c xs r => by rw [upd_ne (ntup c xs r)]; exact r
      rcases hc with rfl | hc
      · exact hbe
      · rintro rfl
        rcases he with z | z
        · exact nown c b hc z
        · rw [hc] at z; cases z; exact hb rfl
end

/-! ### kept unless tracked; of the frames at fs (the callers') the slots may change (an exception that passes writes there); of the records at ex (iterators) nothing is said -/
structure Un (fs ex : List Addr) (H H' : Hp) (h h' : Heap) : Prop where
  keep : ∀ b o, h.get? b = some o → H b = none → b ∉ fs → b ∉ ex → h'.get? b = some o
  slot : ∀ b o, h.get? b = some o → H b = none → b ∈ fs → b ∉ ex → ∃ sl, h'.get? b = some { o with slots := sl }
  free : ∀ b o, h.get? b = some o → H b = none → b ∉ ex → H' b = none
  there : ∀ b o, h.get? b = some o → b ∉ ex → ∃ o', h'.get? b = some o'
  tups : ∀ b xs, H b = some (.tup xs) → H' b = some (.tup xs)
  frzs : ∀ b o u, H b = some (.frz o u) → H' b = some (.frz o u)
  tbls : ∀ b ps, H b = some (.tbl ps) → ∃ more, H' b = some (.tbl (ps ++ more))
section
variable {fs fs' ex ex' : List Addr} {H H1 H2 : Hp} {h h1 h2 h' : Heap} {a x e : Addr} {o : HO}
theorem Un.any (u : Un fs ex H H1 h h1) {b : Addr} {ob : Obj} (q : h.get? b = some ob) (n : H b = none) (hx : b ∉ ex) : ∃ sl, h1.get? b = some { ob with slots := sl } := by
  by_cases hb : b ∈ fs
  · exact u.slot b ob q n hb hx
  · exact ⟨ob.slots, u.keep b ob q n hb hx⟩
theorem Un.trans (a : Un fs ex H H1 h h1) (b : Un fs ex H1 H2 h1 h2) : Un fs ex H H2 h h2 where
  keep := fun c ob q n hc hx => b.keep c ob (a.keep c ob q n hc hx) (a.free c ob q n hx) hc hx
  slot := fun c ob q n hc hx => by
    obtain ⟨sl, e1⟩ := a.slot c ob q n hc hx
    obtain ⟨sl', e2⟩ := b.slot c _ e1 (a.free c ob q n hx) hc hx
    exact ⟨sl', e2⟩
  free := fun c ob q n hx => by
    obtain ⟨o', e1⟩ := a.there c ob q hx
    exact b.free c o' e1 (a.free c ob q n hx) hx
  there := fun c ob q hx => by
    obtain ⟨o', e1⟩ := a.there c ob q hx
    exact b.there c o' e1 hx
  tups := fun c xs q => b.tups c xs (a.tups c xs q)
  frzs := fun c ob xs q => b.frzs c ob xs (a.frzs c ob xs q)
  tbls := fun c ps q => by
    obtain ⟨m1, e1⟩ := a.tbls c ps q
    obtain ⟨m2, e2⟩ := b.tbls c _ e1
    exact ⟨m1 ++ m2, by rw [e2, Array.append_assoc]⟩
theorem Un.kept (k : ∀ b u, h.get? b = some u → h'.get? b = some u) : Un fs ex H H h h' :=
  ⟨fun b ob q _ _ _ => k b ob q, fun b ob q _ _ _ => ⟨ob.slots, k b ob q⟩, fun _ _ _ n _ => n, fun b ob q _ => ⟨ob, k b ob q⟩, fun _ _ q => q, fun _ _ _ q => q, fun _ ps q => ⟨#[], by rw [q]; simp⟩⟩
theorem Un.refl : Un fs ex H H h h := Un.kept fun _ _ q => q
theorem Un.laid (k : ∀ b u, h.get? b = some u → h'.get? b = some u) (hp : h.objs.size ≤ a) (hn : H a = none) : Un fs ex H (upd H a o) h h' where
  keep := fun b u q _ _ _ => k b u q
  slot := fun b u q _ _ _ => ⟨u.slots, k b u q⟩
  free := fun b u q n _ => by rw [upd_ne (Nat.ne_of_lt (Nat.lt_of_lt_of_le (Heap.lt_size q) hp))]; exact n
  there := fun b u q _ => ⟨u, k b u q⟩
  tups := fun b xs q => by rw [upd_ne (ne_of_none q hn)]; exact q
  frzs := fun b u xs q => by rw [upd_ne (ne_of_none q hn)]; exact q
  tbls := fun b ps q => ⟨#[], by rw [upd_ne (ne_of_none q hn), q]; simp⟩
theorem Un.write (mu : Mut (H x)) (he : e = x ∨ H e = some (.own x)) (k : ∀ b u, b ≠ e → h.get? b = some u → h'.get? b = some u) (heo : ∃ u, h'.get? e = some u) : Un fs ex H (upd H x o) h h' := by
  have hx : ∀ b, H b = none → b ≠ x := fun b n z => by subst z; rw [n] at mu; exact mu
  have hb : ∀ b, H b = none → b ≠ e := fun b n z => by
    subst z
    rcases he with r | r
    · exact hx b n r
    · rw [n] at r; cases r
  have hm : ∀ b u, H b = some u → ¬ Mut (some u) → b ≠ x := fun b u q nm z => by subst z; rw [q] at mu; exact nm mu
  refine ⟨fun b u q n _ _ => k b u (hb b n) q, fun b u q n _ _ => ⟨u.slots, k b u (hb b n) q⟩, fun b u q n _ => by rw [upd_ne (hx b n)]; exact n, fun b u q _ => ?_,
    fun b xs q => by rw [upd_ne (hm b _ q fun z => z)]; exact q, fun b u xs q => by rw [upd_ne (hm b _ q fun z => z)]; exact q, fun b ps q => ⟨#[], by rw [upd_ne (hm b _ q fun z => z), q]; simp⟩⟩
  by_cases hbe : b = e
  · subst hbe; exact heo
  · exact ⟨u, k b u hbe q⟩
theorem Un.mono (u : Un fs ex H H1 h h1) (hs : ∀ b ∈ fs, b ∈ fs') (hx : ∀ b ∈ ex, b ∈ ex') : Un fs' ex' H H1 h h1 :=
  ⟨fun b ob q n hb he => u.keep b ob q n (fun z => hb (hs b z)) fun z => he (hx b z), fun _ _ q n _ he => u.any q n fun z => he (hx _ z), fun b ob q n he => u.free b ob q n fun z => he (hx b z), fun b ob q he => u.there b ob q fun z => he (hx b z), u.tups, u.frzs, u.tbls⟩
end

/-! ### the heap without what is tracked -/
def trk (h : Heap) (H : Hp) : List Addr := (List.range h.objs.size).filter fun a => (H a).isSome
def hidT (h : Heap) (H : Hp) : Heap := PySem.W.hideAll h (trk h H)
theorem hidT_size (h : Heap) (H : Hp) : (hidT h H).objs.size = h.objs.size := PySem.W.hideAll_size _ _
theorem hidT_get {h : Heap} {H : Hp} {b : Addr} {o : Obj} (e : h.get? b = some o) (n : H b = none) : (hidT h H).get? b = some o :=
  PySem.W.hideAll_get _ e fun hm => by
    have q : (H b).isSome = true := (List.mem_filter.mp hm).2
    rw [n] at q; simp at q
theorem of_hidT {h : Heap} {H : Hp} {b : Addr} {o : Obj} (e : (hidT h H).get? b = some o) : h.get? b = some o ∧ H b = none := by
  have e' : h.get? b = some o := PySem.W.of_hideAll (trk h H) e
  refine ⟨e', ?_⟩
  cases q : H b with
  | none => rfl
  | some x =>
    have hm : b ∈ trk h H := List.mem_filter.mpr ⟨List.mem_range.mpr (Heap.lt_size e'), by simp [q]⟩
    have z : (hidT h H).get? b = none := PySem.W.hideAll_none (trk h H) hm
    rw [z] at e; cases e

/-! ### OpenK's ledger, filled with every new object but one -/
def allNews (g h : Heap) (L : Addr) : List (Addr × Obj) := (List.range h.objs.size).filterMap fun a => if a = L ∨ (g.get? a).isSome = true then none else (h.get? a).map fun o => (a, o)
theorem mem_allNews {g h : Heap} {L a : Addr} {o : Obj} (h1 : a ≠ L) (h2 : g.get? a = none) (h3 : h.get? a = some o) : (a, o) ∈ allNews g h L :=
  List.mem_filterMap.mpr ⟨a, List.mem_range.mpr (Heap.lt_size h3), by simp [h1, h2, h3]⟩
theorem of_mem_allNews {g h : Heap} {L : Addr} {p : Addr × Obj} (hp : p ∈ allNews g h L) : p.1 ≠ L ∧ g.get? p.1 = none ∧ h.get? p.1 = some p.2 := by
  obtain ⟨b, _, e⟩ := List.mem_filterMap.mp hp
  split at e
  · cases e
  · rename_i hn
    cases q : h.get? b with
    | none => rw [q] at e; simp at e
    | some u =>
      rw [q] at e
      simp only [Option.map_some, Option.some.injEq] at e
      subst e
      refine ⟨fun z => hn (.inl z), ?_, q⟩
      show g.get? b = none
      cases r : g.get? b with
      | none => rfl
      | some v => exact (hn (.inr (by simp [r]))).elim
def rest (g h : Heap) (L d : Addr) : List (Addr × Obj) := (allNews g h L).filter fun p => decide (p.1 ≠ d)
theorem rest_ne {g h : Heap} {L d : Addr} : ∀ p ∈ rest g h L d, p.1 ≠ d := fun p hp => of_decide_eq_true (List.mem_filter.mp hp).2
theorem mem_rest {g h : Heap} {L d a : Addr} {o : Obj} (h1 : a ≠ L) (h2 : g.get? a = none) (h3 : h.get? a = some o) (h4 : a ≠ d) : (a, o) ∈ rest g h L d :=
  List.mem_filter.mpr ⟨mem_allNews h1 h2 h3, decide_eq_true h4⟩
theorem news_all {g h : Heap} {L : Addr} : News g L h (allNews g h L) := fun p hp => let ⟨a, b, c⟩ := of_mem_allNews hp; ⟨c, a, b⟩
theorem news_at {g h : Heap} {L d : Addr} {o : Obj} (h1 : d ≠ L) (h2 : g.get? d = none) (h3 : h.get? d = some o) : News g L h ((d, o) :: rest g h L d) := fun p hp => by
  rcases List.mem_cons.mp hp with rfl | hp
  · exact ⟨h3, h1, h2⟩
  · exact news_all p (List.mem_filter.mp hp).1
/-- behind a rule that changed d alone: all else but the frame is kept -/
theorem kept_of_news {g h h' : Heap} {L d : Addr} {m : Str → Option Value} (k : ∀ b o, g.get? b = some o → h.get? b = some o) (F : Fr g L h' m) (N : News g L h' (rest g h L d)) :
    ∀ b o, b ≠ L → b ≠ d → h.get? b = some o → h'.get? b = some o := fun b o h1 h2 e => by
  cases q : g.get? b with
  | some u =>
    have := k b u q
    rw [e] at this; cases this
    exact F.keep b _ q
  | none => exact (N (b, o) (mem_rest h1 q e h2)).1
end L2

namespace L2
open PySem PySem.Spec PyProof.Rows

/-- the module's facts, over the base: the heap at the law's entry without what is tracked there -/
structure Mod (K : PySem.W.Frag) (mg : Str → Option Value) (base : Heap) : Prop where
  kin : K.In base
  glob : base.Ns mainGlobals mg
  blt : ∃ mb, base.Ns builtinsNs mb ∧ ∀ x : Str, x ≠ "__name__" → mb x = bootBuiltins x
  nolimit : base.NoLimit

/-- the context: a def's body (or a comprehension's block) running. base: fixed through the whole law; s₀, H₀: the entry; outer: the frames whose slots others may change (a def's callers); stack: all frames that run;
   ex: iterators that were made ahead of the entry and are walked here (a comprehension's); fn: the names whose cells were made at the entry (a def: all; a comprehension's block: its own); calm: not within an except suite; pn: pins that every state bears; xe: what is wanted of an exception that leaves the code -/
structure Cx where
  prog : Program
  w : World
  K : PySem.W.Frag
  mg : Str → Option Value
  base : Heap
  A : Around
  N : List Str
  s₀ : Shared
  H₀ : Hp
  env : Env
  outer : List Env
  stack : List Env
  ex : List Addr
  fn : Str → Bool
  calm : Bool
  pn : List (Addr × Obj)
  xe : Value → Shared → Prop
/-- the callers' frames -/
def frs (l : List Env) : List Addr := l.filterMap (·.frame)
abbrev Cx.fs (X : Cx) : List Addr := frs X.outer

def Vis (sc : Scope) (x : Str) : Prop := sc.names.lookup x = some .local ∨ sc.names.lookup x = some .cell ∨ sc.names.lookup x = some .free
def Loc (sc : Scope) (x : Str) : Prop := sc.names.lookup x = some .local ∨ sc.names.lookup x = some .cell
def Look (env : Env) (h : Heap) (m : Str → Option Value) (x : Str) (u : Value) : Prop :=
  (env.kindOf x = some .local ∧ m x = some u) ∨ ((env.kindOf x = some .cell ∨ env.kindOf x = some .free) ∧ ∃ c, env.cells.lookup x = some c ∧ h.IsCell c (some u))

structure Cx.Ok (X : Cx) : Prop where
  mod : Mod X.K X.mg X.base
  kind : X.env.scope.kind = .function
  glob : X.env.globals = mainGlobals
  blt : X.env.builtins = builtinsNs
  above : X.s₀.heap.objs.size ≤ X.env.locals
  inj : ∀ x y c, X.env.cells.lookup x = some c → X.env.cells.lookup y = some c → x = y
  has : ∀ x, (X.env.kindOf x = some .cell ∨ X.env.kindOf x = some .free) → ∃ c, X.env.cells.lookup x = some c
  cab : ∀ x c, X.fn x = true → X.env.cells.lookup x = some c → X.s₀.heap.objs.size ≤ c
  hd : X.calm = true → X.A.handled = none
  frames : X.A.frames = some X.stack
  stk : X.stack = X.outer ∨ (X.stack = X.env :: X.outer ∧ X.env.frame = some X.env.locals)
  exf : ∀ b ∈ X.ex, b ≠ X.env.locals ∧ ∀ x c, X.env.cells.lookup x = some c → c ≠ b
  bs : ∀ b o, X.base.get? b = some o → X.s₀.heap.get? b = some o ∧ X.H₀ b = none
  bsz : X.base.objs.size ≤ X.s₀.heap.objs.size
  noex : ∀ b o, X.base.get? b = some o → b ∉ X.ex
  exfs : ∀ b ∈ X.ex, b ∉ X.fs
  funs : X.s₀.heap.FunFrames X.base X.outer
  frf : ∀ b ∈ X.fs, X.H₀ b = none

structure Inv (X : Cx) (pins : List (Addr × Obj)) (σ : List (Option V)) (H : Hp) (s : Shared) : Prop where
  ok : X.Ok
  os : s.os = X.s₀.os
  bare : AllBare s.gens
  base : Un X.fs X.ex X.H₀ H X.s₀.heap s.heap
  loc : ∃ m, s.heap.Ns X.env.locals m ∧ ∀ (i : Nat) (x : Str) (v : V), X.N[i]? = some x → σ[i]? = some (some v) → Vis X.env.scope x → ∃ u, RelV v u ∧ Look X.env s.heap m x u
  cell : ∀ x c, X.env.cells.lookup x = some c → ∃ v, s.heap.IsCell c v
  free : H X.env.locals = none
  freeC : ∀ x c, X.env.cells.lookup x = some c → H c = none
  pin : ∀ p ∈ X.pn ++ pins, s.heap.get? p.1 = some p.2 ∧ H p.1 = none ∧ p.1 ≠ X.env.locals ∧ p.1 ∉ X.fs ∧ ∀ v, p.2.data ≠ .cell v
  hok : HOk X.prog X.w H s.heap
  len : σ.length = X.N.length

section
variable {X : Cx} {pins : List (Addr × Obj)} {σ : List (Option V)} {H H' : Hp} {s : Shared} {h' : Heap}

theorem Cx.Ok.nofr (ok : X.Ok) {b : Addr} {o : Obj} (e : X.base.get? b = some o) : b ∉ X.fs := fun hb => by
  have := (ok.funs.mem hb).1
  rw [e] at this; cases this
theorem Inv.bs (I : Inv X pins σ H s) : ∀ b o, X.base.get? b = some o → s.heap.get? b = some o ∧ H b = none := fun b o e =>
  ⟨I.base.keep b o (I.ok.bs b o e).1 (I.ok.bs b o e).2 (I.ok.nofr e) (I.ok.noex b o e), I.base.free b o (I.ok.bs b o e).1 (I.ok.bs b o e).2 (I.ok.noex b o e)⟩
theorem Inv.bk (I : Inv X pins σ H s) : ∀ b o, X.base.get? b = some o → s.heap.get? b = some o := fun b o e => (I.bs b o e).1
theorem Inv.mod (I : Inv X pins σ H s) : Mod X.K X.mg X.base := I.ok.mod
theorem Inv.kIn (I : Inv X pins σ H s) : X.K.In s.heap := I.ok.mod.kin.keeps I.bk
theorem Inv.nolimit (I : Inv X pins σ H s) : s.heap.NoLimit := I.ok.mod.nolimit.keeps I.bk
/-- the frame over the base: for OpenK's rules (K.In X.base is I.mod.kin) -/
theorem Inv.fr (I : Inv X pins σ H s) : ∃ m, Fr X.base X.env.locals s.heap m :=
  let ⟨m, hn, _⟩ := I.loc
  ⟨m, hn, I.bk, Nat.le_trans I.ok.bsz I.ok.above⟩
theorem Inv.lt (I : Inv X pins σ H s) : X.env.locals < s.heap.objs.size := let ⟨_, hn, _⟩ := I.loc; hn.lt
theorem Inv.sz (I : Inv X pins σ H s) : X.s₀.heap.objs.size ≤ s.heap.objs.size := Nat.le_trans I.ok.above (Nat.le_of_lt I.lt)
theorem Inv.nofs (I : Inv X pins σ H s) {a : Addr} (h : s.heap.objs.size ≤ a) : a ∉ X.fs := fun hb => by
  obtain ⟨_, o, ho, _⟩ := I.ok.funs.mem hb
  exact absurd (Nat.lt_of_lt_of_le (Heap.lt_size ho) (Nat.le_trans I.sz h)) (Nat.lt_irrefl _)
theorem Inv.cne (I : Inv X pins σ H s) : ∀ x c, X.env.cells.lookup x = some c → c ≠ X.env.locals := fun x c e z => by
  obtain ⟨v, o, ho, hd⟩ := I.cell x c e
  obtain ⟨m, ⟨o', es, ep, ho', hd', _⟩, _⟩ := I.loc
  rw [z, ho'] at ho; cases ho; rw [hd'] at hd; cases hd
theorem Inv.funs (I : Inv X pins σ H s) : s.heap.FunFrames X.base X.outer := by
  have all : ∀ (l : List Env), (∀ b ∈ frs l, b ∈ X.fs) → X.s₀.heap.FunFrames X.base l → s.heap.FunFrames X.base l := by
    intro l
    induction l with
    | nil => intro _ _; trivial
    | cons env r ih =>
      intro hs hl
      obtain ⟨hk, ⟨L, o, hf, hn, ho, hd⟩, hr⟩ := hl
      have hL : L ∈ X.fs := hs L (by unfold frs; rw [List.filterMap_cons, hf]; exact List.mem_cons_self)
      obtain ⟨sl, e⟩ := I.base.slot L o ho (I.ok.frf L hL) hL fun z => I.ok.exfs L z hL
      exact ⟨hk, ⟨L, _, hf, hn, e, hd⟩, ih (fun b hb => hs b (by unfold frs; rw [List.filterMap_cons, hf]; exact List.mem_cons_of_mem _ hb)) hr⟩
  exact all X.outer (fun _ hb => hb) I.ok.funs

/-- the frames that run, for a call -/
theorem Inv.stack (I : Inv X pins σ H s) : s.heap.FunFrames X.base X.stack := by
  rcases I.ok.stk with e | ⟨e, hf⟩
  · rw [e]; exact I.funs
  · rw [e]
    obtain ⟨m, hn, _⟩ := I.loc
    refine .cons (by rw [I.ok.kind]; decide) hf hn ?_ I.funs
    exact Heap.get?_none_of_le (Nat.le_trans I.ok.bsz I.ok.above)
theorem Inv.stkSub (I : Inv X pins σ H s) : ∀ b ∈ frs X.stack, b ∈ X.env.locals :: X.fs := fun b hb => by
  rcases I.ok.stk with e | ⟨e, hf⟩
  · rw [e] at hb; exact List.mem_cons_of_mem _ hb
  · rw [e] at hb
    unfold frs at hb
    rw [List.filterMap_cons, hf] at hb
    exact hb
theorem Inv.stkFree (I : Inv X pins σ H s) : ∀ b ∈ frs X.stack, H b = none := fun b hb => by
  rcases List.mem_cons.mp (I.stkSub b hb) with e | hb
  · rw [e]; exact I.free
  · obtain ⟨_, o, ho, _⟩ := I.ok.funs.mem hb
    exact I.base.free b o ho (I.ok.frf b hb) fun z => I.ok.exfs b z hb

/-- THE STEP: the untracked objects but the frame and the records at ch are kept (the callers' frames up to slots), the frame's map is kept, the new abstract heap is held -/
theorem Inv.step {g' : Array GenState} {t' : Nat} {d' : Drawn} {ch : List Addr} (I : Inv X pins σ H s)
    (hch : ∀ b ∈ ch, (b ∈ X.ex ∨ X.s₀.heap.objs.size ≤ b) ∧ b ≠ X.env.locals ∧ (∀ x c, X.env.cells.lookup x = some c → c ≠ b) ∧ ∀ p ∈ X.pn ++ pins, p.1 ≠ b)
    (keep : ∀ b o, b ≠ X.env.locals → b ∉ X.fs → b ∉ ch → s.heap.get? b = some o → H b = none → h'.get? b = some o)
    (slot : ∀ b o, b ≠ X.env.locals → b ∈ X.fs → b ∉ ch → s.heap.get? b = some o → H b = none → ∃ sl, h'.get? b = some { o with slots := sl }) (free : ∀ b o, b ∉ ch → s.heap.get? b = some o → H b = none → H' b = none)
    (there : ∀ b o, b ∉ ch → s.heap.get? b = some o → ∃ o', h'.get? b = some o')
    (tups : ∀ b xs, H b = some (.tup xs) → H' b = some (.tup xs)) (frzs : ∀ b o u, H b = some (.frz o u) → H' b = some (.frz o u)) (tbls : ∀ b ps, H b = some (.tbl ps) → ∃ more, H' b = some (.tbl (ps ++ more)))
    (ns : ∀ m, s.heap.Ns X.env.locals m → h'.Ns X.env.locals m) (hok : HOk X.prog X.w H' h') (hg : AllBare g') :
    Inv X pins σ H' { s with heap := h', gens := g', drawn := d', toks := t' } := by
  have neL : ∀ b o, X.s₀.heap.get? b = some o → b ≠ X.env.locals := fun b o e => Nat.ne_of_lt (Nat.lt_of_lt_of_le (Heap.lt_size e) I.ok.above)
  have neC : ∀ b o, X.s₀.heap.get? b = some o → b ∉ X.ex → b ∉ ch := fun b o e hx hb => by
    rcases (hch b hb).1 with z | z
    · exact hx z
    · exact absurd (Nat.lt_of_lt_of_le (Heap.lt_size e) z) (Nat.lt_irrefl _)
  have cellK : ∀ x c, X.env.cells.lookup x = some c → ∀ v, s.heap.IsCell c v → h'.IsCell c v := fun x c e v ⟨o, ho, hd⟩ => by
    have nch : c ∉ ch := fun z => (hch c z).2.2.1 x c e rfl
    by_cases hc : c ∈ X.fs
    · obtain ⟨sl, q⟩ := slot c o (I.cne x c e) hc nch ho (I.freeC x c e)
      exact ⟨_, q, hd⟩
    · exact ⟨o, keep c o (I.cne x c e) hc nch ho (I.freeC x c e), hd⟩
  refine ⟨I.ok, I.os, hg, ⟨fun b o e n hb hx => ?_, fun b o e n hb hx => ?_, fun b o e n hx => ?_, fun b o e hx => ?_, fun b xs e => tups b xs (I.base.tups b xs e), fun b o xs e => frzs b o xs (I.base.frzs b o xs e), fun b ps e => ?_⟩, ?_, fun x c e => ?_, ?_, fun x c e => ?_, fun p hp => ?_, hok, I.len⟩
  · exact keep b o (neL b o e) hb (neC b o e hx) (I.base.keep b o e n hb hx) (I.base.free b o e n hx)
  · obtain ⟨sl, e1⟩ := I.base.slot b o e n hb hx
    obtain ⟨sl', e2⟩ := slot b _ (neL b o e) hb (neC b o e hx) e1 (I.base.free b o e n hx)
    exact ⟨sl', e2⟩
  · obtain ⟨o', e1⟩ := I.base.there b o e hx
    exact free b o' (neC b o e hx) e1 (I.base.free b o e n hx)
  · obtain ⟨o', e1⟩ := I.base.there b o e hx
    exact there b o' (neC b o e hx) e1
  · obtain ⟨m1, e1⟩ := I.base.tbls b ps e
    obtain ⟨m2, e2⟩ := tbls b _ e1
    exact ⟨m1 ++ m2, by rw [e2, Array.append_assoc]⟩
  · obtain ⟨m, hn, hl⟩ := I.loc
    refine ⟨m, ns m hn, fun i x v e1 e2 e3 => ?_⟩
    obtain ⟨u, r, l⟩ := hl i x v e1 e2 e3
    refine ⟨u, r, ?_⟩
    rcases l with l | ⟨k, c, e, z⟩
    · exact .inl l
    · exact .inr ⟨k, c, e, cellK x c e _ z⟩
  · obtain ⟨v, z⟩ := I.cell x c e
    exact ⟨v, cellK x c e v z⟩
  · obtain ⟨m, ⟨o, _, _, ho, _⟩, _⟩ := I.loc
    exact free _ o (fun z => (hch _ z).2.1 rfl) ho I.free
  · obtain ⟨v, o, ho, hd⟩ := I.cell x c e
    exact free c o (fun z => (hch c z).2.2.1 x c e rfl) ho (I.freeC x c e)
  · obtain ⟨e, n, ne, nf, d⟩ := I.pin p hp
    have nch : p.1 ∉ ch := fun z => (hch p.1 z).2.2.2 p hp rfl
    exact ⟨keep p.1 p.2 ne nf nch e n, free p.1 p.2 nch e n, ne, nf, d⟩
/-- .. where the frame's own object is kept too -/
theorem Inv.un {t' : Nat} (I : Inv X pins σ H s) (u : Un X.fs [] H H' s.heap h') (hok : HOk X.prog X.w H' h') : Inv X pins σ H' { s with heap := h', toks := t' } := by
  obtain ⟨m, ⟨o, es, ep, ho, r⟩, _⟩ := id I.loc
  obtain ⟨sl, hL⟩ := u.any ho I.free (by simp)
  exact I.step (g' := s.gens) (d' := s.drawn) (ch := []) (fun _ z => nomatch z) (fun b o _ hb _ e n => u.keep b o e n hb (by simp)) (fun b o _ hb _ e n => u.slot b o e n hb (by simp)) (fun b o _ e n => u.free b o e n (by simp)) (fun b o _ e => u.there b o e (by simp)) u.tups u.frzs u.tbls (fun m' hm => by
    obtain ⟨o', es', ep', ho', r'⟩ := hm
    rw [ho] at ho'; cases ho'
    exact ⟨_, es', ep', hL, r'⟩) hok I.bare
/-- behind a call (or a comprehension's block): the slots of this frame may have changed too, the records at ch may have turned -/
theorem Inv.call {g' : Array GenState} {t' : Nat} {d' : Drawn} {ch : List Addr} (I : Inv X pins σ H s) (u : Un (frs X.stack) ch H H' s.heap h') (hok : HOk X.prog X.w H' h') (hg : AllBare g')
    (hch : ∀ b ∈ ch, (b ∈ X.ex ∨ X.s₀.heap.objs.size ≤ b) ∧ b ≠ X.env.locals ∧ (∀ x c, X.env.cells.lookup x = some c → c ≠ b) ∧ ∀ p ∈ X.pn ++ pins, p.1 ≠ b) :
    Inv X pins σ H' { s with heap := h', gens := g', drawn := d', toks := t' } := by
  obtain ⟨m, ⟨o, es, ep, ho, r⟩, _⟩ := id I.loc
  obtain ⟨sl, hL⟩ := u.any ho I.free fun z => (hch _ z).2.1 rfl
  exact I.step (ch := ch) hch (fun b o hL hb hc e n => u.keep b o e n (fun z => (List.mem_cons.mp (I.stkSub b z)).elim hL hb) hc) (fun b o _ _ hc e n => u.any e n hc) (fun b o hc e n => u.free b o e n hc) (fun b o hc e => u.there b o e hc) u.tups u.frzs u.tbls (fun m' hm => by
    obtain ⟨o', es', ep', ho', r'⟩ := hm
    rw [ho] at ho'; cases ho'
    exact ⟨_, es', ep', hL, r'⟩) hok hg
/-- an untracked record of ours (an iterator) has turned -/
theorem Inv.turned {t' : Nat} {it : Addr} (I : Inv X pins σ H s) (k : ∀ b o, b ≠ it → s.heap.get? b = some o → h'.get? b = some o) (hn : H it = none) (hL : it ≠ X.env.locals)
    (h1 : it ∈ X.ex ∨ X.s₀.heap.objs.size ≤ it) (h2 : ∀ x c, X.env.cells.lookup x = some c → c ≠ it) (h3 : ∀ p ∈ X.pn ++ pins, p.1 ≠ it) : Inv X pins σ H { s with heap := h', toks := t' } := by
  have nit : ∀ b u, H b = some u → b ≠ it := fun b u e z => by rw [z, hn] at e; cases e
  refine I.step (g' := s.gens) (d' := s.drawn) (ch := [it]) (fun b hb => ?_) (fun b o _ _ hc e _ => k b o (fun z => hc (by simp [z])) e) (fun b o _ _ hc e _ => ⟨o.slots, k b o (fun z => hc (by simp [z])) e⟩) (fun _ _ _ _ n => n)
    (fun b o hc e => ⟨o, k b o (fun z => hc (by simp [z])) e⟩) (fun _ _ e => e) (fun _ _ _ e => e) (fun b ps e => ⟨#[], by rw [e]; simp⟩) (fun m hm => ?_) (fun b u e => ?_) I.bare
  · have e : b = it := by simpa using hb
    subst e
    exact ⟨h1, hL, h2, h3⟩
  · obtain ⟨o, es, ep, ho, r⟩ := hm
    exact ⟨o, es, ep, k _ o (Ne.symm hL) ho, r⟩
  · refine (I.hok b u e).stay (fun c v hc q => k c v ?_ q) (fun _ q => q) fun _ _ q => q
    rcases hc with z | z
    · rw [z]; exact nit b u e
    · exact nit c _ z
theorem Inv.tok (I : Inv X pins σ H s) (t : Nat) : Inv X pins σ H { s with toks := t } := I.un (h' := s.heap) (t' := t) Un.refl I.hok
/-- all objects kept -/
theorem Inv.kept {t' : Nat} (I : Inv X pins σ H s) (k : ∀ b u, s.heap.get? b = some u → h'.get? b = some u) : Inv X pins σ H { s with heap := h', toks := t' } := I.un (Un.kept k) (I.hok.kept k)
/-- a new object laid and tracked -/
theorem Inv.laid {a : Addr} {o : HO} {t' : Nat} (I : Inv X pins σ H s) (k : ∀ b u, s.heap.get? b = some u → h'.get? b = some u) (hp : s.heap.objs.size ≤ a) (new : ObjOk X.prog X.w (upd H a o) h' a o) :
    Inv X pins σ (upd H a o) { s with heap := h', toks := t' } := I.un (Un.laid k hp (I.hok.fresh hp)) (I.hok.laid k hp new)
/-- an object written -/
theorem Inv.write {x e : Addr} {o : HO} {t' : Nat} (I : Inv X pins σ H s) (mu : Mut (H x)) (he : e = x ∨ H e = some (.own x)) (k : ∀ b u, b ≠ e → s.heap.get? b = some u → h'.get? b = some u) (heo : ∃ u, h'.get? e = some u)
    (new : ObjOk X.prog X.w (upd H x o) h' x o) : Inv X pins σ (upd H x o) { s with heap := h', toks := t' } := I.un (Un.write mu he k heo) (I.hok.write mu he k heo new)
/-- forgetting slots, pins -/
theorem Inv.weak {σ' : List (Option V)} (I : Inv X pins σ H s) (hl : σ'.length = σ.length) (w : ∀ (i : Nat) v, σ'[i]? = some (some v) → σ[i]? = some (some v)) : Inv X pins σ' H s :=
  ⟨I.ok, I.os, I.bare, I.base, let ⟨m, hn, hl'⟩ := I.loc; ⟨m, hn, fun i x v e1 e2 e3 => hl' i x v e1 (w i v e2) e3⟩, I.cell, I.free, I.freeC, I.pin, I.hok, hl.trans I.len⟩
theorem Inv.pins_of {pins' : List (Addr × Obj)} (I : Inv X pins σ H s) (h : ∀ p ∈ pins', s.heap.get? p.1 = some p.2 ∧ H p.1 = none ∧ p.1 ≠ X.env.locals ∧ p.1 ∉ X.fs ∧ ∀ v, p.2.data ≠ .cell v) : Inv X pins' σ H s :=
  ⟨I.ok, I.os, I.bare, I.base, I.loc, I.cell, I.free, I.freeC, fun p hp => (List.mem_append.mp hp).elim (fun z => I.pin p (List.mem_append_left _ z)) (h p), I.hok, I.len⟩

theorem nodup_ix {N : List Str} (hN : N.Nodup) {i j : Nat} {x : Str} (a : N[i]? = some x) (b : N[j]? = some x) : i = j := by
  obtain ⟨h1, e1⟩ := List.getElem?_eq_some_iff.mp a
  obtain ⟨h2, e2⟩ := List.getElem?_eq_some_iff.mp b
  exact (List.getElem_inj hN).mp (e1.trans e2.symm)

/-- a name is stored; what changed -/
theorem store_ok2 {M : Model} {A : Around} {E : Value → Shared → Prop} {i : Nat} {x : Str} {v : V} {u : Value} {Q : Unit → Shared → Prop} (I : Inv X pins σ H s) (hN : X.N.Nodup) (hi : X.N[i]? = some x) (hx : Loc X.env.scope x) (r : RelV v u)
    (h : ∀ s', Inv X pins (σ.set i (some v)) H s' → (∃ a, Heap.SameBut a s.heap s'.heap ∧ (a = X.env.locals ∨ X.env.cells.lookup x = some a)) → Q () s') (hf : X.fn x = true ∨ X.env.scope.names.lookup x = some .local := by first | exact .inl rfl | exact .inr rfl | assumption) : wpAny M A (storeName X.env x u) Q E s := by
  obtain ⟨m, hn, hl⟩ := id I.loc
  have hcls : (X.env.scope.kind == .class || (X.env.scope.kind == .module && X.env.locals != X.env.globals)) = false := by rw [I.ok.kind]; rfl
  have hiσ : i < σ.length := by rw [I.len]; exact (List.getElem?_eq_some_iff.mp hi).1
  have cne := I.cne
  have tracked : ∀ {a : Addr} {h' : Heap}, (∃ o, s.heap.get? a = some o ∧ H a = none) → Heap.SameBut a s.heap h' → HOk X.prog X.w H h' := fun {a h'} ha hs b ob e => by
    obtain ⟨_, _, hfree⟩ := ha
    refine (I.hok b ob e).stay (fun c w' hc q => (hs.2 c ?_).trans q) (fun _ q => q) fun _ _ q => q
    rintro rfl
    rcases hc with rfl | hc
    · rw [hfree] at e; cases e
    · rw [hfree] at hc; cases hc
  rcases hx with hk | hk
  · refine wpAny_storeName_local hk hn (fun h' hn' hs => ?_) hcls
    obtain ⟨oL, _, _, hoL, _⟩ := id hn
    refine h _ ⟨I.ok, I.os, I.bare, ⟨fun b o e n hb hx => ?_, fun b o e n hb hx => ?_, I.base.free, fun b o e hx => ?_, I.base.tups, I.base.frzs, I.base.tbls⟩, ⟨_, hn', fun j y v' e1 e2 e3 => ?_⟩, fun y c e => ?_, I.free, I.freeC, fun p hp => ?_, tracked ⟨oL, hoL, I.free⟩ hs, by simpa using I.len⟩ ⟨_, hs, .inl rfl⟩
    · exact (hs.2 b (Nat.ne_of_lt (Nat.lt_of_lt_of_le (Heap.lt_size e) I.ok.above))).trans (I.base.keep b o e n hb hx)
    · obtain ⟨sl, e1⟩ := I.base.slot b o e n hb hx
      exact ⟨sl, (hs.2 b (Nat.ne_of_lt (Nat.lt_of_lt_of_le (Heap.lt_size e) I.ok.above))).trans e1⟩
    · obtain ⟨o', e1⟩ := I.base.there b o e hx
      exact ⟨o', (hs.2 b (Nat.ne_of_lt (Nat.lt_of_lt_of_le (Heap.lt_size e) I.ok.above))).trans e1⟩
    · by_cases hj : j = i
      · subst hj
        rw [hi] at e1; cases e1
        rw [List.getElem?_set_self hiσ] at e2
        cases e2
        exact ⟨u, r, .inl ⟨hk, by simp⟩⟩
      · rw [List.getElem?_set_ne (Ne.symm hj)] at e2
        obtain ⟨u', r', q⟩ := hl j y v' e1 e2 e3
        refine ⟨u', r', ?_⟩
        rcases q with ⟨k, e⟩ | ⟨k, c, e, z⟩
        · refine .inl ⟨k, ?_⟩
          have : y ≠ x := fun e => hj (nodup_ix hN e1 (e ▸ hi))
          simp [this, e]
        · exact .inr ⟨k, c, e, z.sameBut hs (cne y c e)⟩
    · obtain ⟨w', z⟩ := I.cell y c e
      exact ⟨w', z.sameBut hs (cne y c e)⟩
    · obtain ⟨e, n, ne, nf, d⟩ := I.pin p hp
      exact ⟨(hs.2 p.1 ne).trans e, n, ne, nf, d⟩
  · have hfn : X.fn x = true := by
      rcases hf with z | z
      · exact z
      · rw [z] at hk; cases hk
    obtain ⟨c, hc⟩ := I.ok.has x (.inl hk)
    obtain ⟨w', z⟩ := I.cell x c hc
    refine wpAny_storeName_cell I.ok.kind hk hc z (fun h' hc' hs => ?_)
    obtain ⟨oc, hoc, hocd⟩ := id z
    refine h { s with heap := h' } ⟨I.ok, I.os, I.bare, ⟨fun b o e n hb hx => ?_, fun b o e n hb hx => ?_, I.base.free, fun b o e hx => ?_, I.base.tups, I.base.frzs, I.base.tbls⟩, ⟨m, hn.sameBut hs (Ne.symm (cne x c hc)), fun j y v' e1 e2 e3 => ?_⟩, fun y c' e => ?_, I.free, I.freeC, fun p hp => ?_, tracked ⟨oc, hoc, I.freeC x c hc⟩ hs, by simpa using I.len⟩ ⟨c, hs, .inr hc⟩
    · exact (hs.2 b (Nat.ne_of_lt (Nat.lt_of_lt_of_le (Heap.lt_size e) (I.ok.cab x c hfn hc)))).trans (I.base.keep b o e n hb hx)
    · obtain ⟨sl, e1⟩ := I.base.slot b o e n hb hx
      exact ⟨sl, (hs.2 b (Nat.ne_of_lt (Nat.lt_of_lt_of_le (Heap.lt_size e) (I.ok.cab x c hfn hc)))).trans e1⟩
    · obtain ⟨o', e1⟩ := I.base.there b o e hx
      exact ⟨o', (hs.2 b (Nat.ne_of_lt (Nat.lt_of_lt_of_le (Heap.lt_size e) (I.ok.cab x c hfn hc)))).trans e1⟩
    · by_cases hj : j = i
      · subst hj
        rw [hi] at e1; cases e1
        rw [List.getElem?_set_self hiσ] at e2
        cases e2
        exact ⟨u, r, .inr ⟨.inl hk, c, hc, hc'⟩⟩
      · rw [List.getElem?_set_ne (Ne.symm hj)] at e2
        obtain ⟨u', r', q⟩ := hl j y v' e1 e2 e3
        refine ⟨u', r', ?_⟩
        rcases q with q | ⟨k, c', e, z'⟩
        · exact .inl q
        · refine .inr ⟨k, c', e, z'.sameBut hs ?_⟩
          rintro rfl
          exact hj (nodup_ix hN e1 (I.ok.inj _ _ _ e hc ▸ hi))
    · by_cases hcc : c' = c
      · subst hcc; exact ⟨_, hc'⟩
      · obtain ⟨w2, z2⟩ := I.cell y c' e
        exact ⟨w2, z2.sameBut hs hcc⟩
    · obtain ⟨e, n, ne, nf, d⟩ := I.pin p hp
      refine ⟨(hs.2 p.1 ?_).trans e, n, ne, nf, d⟩
      intro q
      rw [q, hoc] at e
      have q' : oc = p.2 := Option.some.inj e
      exact d w' (by rw [← q']; exact hocd)
theorem store_ok {M : Model} {A : Around} {E : Value → Shared → Prop} {i : Nat} {x : Str} {v : V} {u : Value} {Q : Unit → Shared → Prop} (I : Inv X pins σ H s) (hN : X.N.Nodup) (hi : X.N[i]? = some x) (hx : Loc X.env.scope x) (r : RelV v u)
    (h : ∀ s', Inv X pins (σ.set i (some v)) H s' → Q () s') (hf : X.fn x = true ∨ X.env.scope.names.lookup x = some .local := by first | exact .inl rfl | exact .inr rfl | assumption) : wpAny M A (storeName X.env x u) Q E s :=
  store_ok2 I hN hi hx r (fun s' I' _ => h s' I') hf
/-- behind a call or a block, the state as it is -/
theorem Inv.call' {s' : Shared} {ch : List Addr} (I : Inv X pins σ H s) (ho : s'.os = s.os) (u : Un (frs X.stack) ch H H' s.heap s'.heap) (hok : HOk X.prog X.w H' s'.heap) (hg : AllBare s'.gens)
    (hch : ∀ b ∈ ch, (b ∈ X.ex ∨ X.s₀.heap.objs.size ≤ b) ∧ b ≠ X.env.locals ∧ (∀ x c, X.env.cells.lookup x = some c → c ≠ b) ∧ ∀ p ∈ X.pn ++ pins, p.1 ≠ b) : Inv X pins σ H' s' := by
  obtain ⟨h', g', d', t', o'⟩ := s'
  have e : o' = s.os := ho
  subst e
  exact I.call (g' := g') (t' := t') (d' := d') u hok hg hch
end

/-! ### the judgements -/
/-- an exception: its class, its own dict's address (where it has one), the abstract heap behind it -/
abbrev XK := Value → Option Addr → Hp → Prop
abbrev St := List (Option V)
abbrev VK := V → Hp → Prop
/-- an expression's reading; a test's; an argument list's -/
abbrev TE := St → Hp → VK → Prop
abbrev TT := St → Hp → (Bool → Hp → Prop) → Prop
abbrev TA := St → Hp → (List V → Hp → Prop) → Prop
/-- what is wanted behind a statement -/
structure Ends where
  nx : St → Hp → Prop
  rt : VK
  bk : St → Hp → Prop := fun _ _ => False
  ct : St → Hp → Prop := fun _ _ => False
abbrev TS := Ends → St → Hp → Prop

def EP (X : Cx) (pins : List (Addr × Obj)) (σ : St) (Q : VK) (u : Value) (s' : Shared) : Prop := ∃ v H', Inv X pins σ H' s' ∧ RelV v u ∧ Q v H'
def TP (X : Cx) (pins : List (Addr × Obj)) (σ : St) (Q : Bool → Hp → Prop) (b : Bool) (s' : Shared) : Prop := ∃ H', Inv X pins σ H' s' ∧ Q b H'
def AP (X : Cx) (pins : List (Addr × Obj)) (σ : St) (Q : List V → Hp → Prop) (us : List Value) (s' : Shared) : Prop := ∃ vs H', Inv X pins σ H' s' ∧ Vals vs us ∧ Q vs H'
def SP (X : Cx) (pins : List (Addr × Obj)) (D : Ends) (f : Flow) (s' : Shared) : Prop :=
  match f with
  | .next => ∃ σ' H', Inv X pins σ' H' s' ∧ D.nx σ' H'
  | .brk => ∃ σ' H', Inv X pins σ' H' s' ∧ D.bk σ' H'
  | .cont => ∃ σ' H', Inv X pins σ' H' s' ∧ D.ct σ' H'
  | .ret u => ∃ v σ' H', Inv X pins σ' H' s' ∧ RelV v u ∧ D.rt v H'

def PE (X : Cx) (e : Expr) (t : TE) : Prop :=
  ∀ (pins : List (Addr × Obj)) (s : Shared) (σ : St) (H : Hp) (Q : VK), Inv X pins σ H s → t σ H Q → wpAny (model X.prog X.w) X.A (eval e X.env) (EP X pins σ Q) X.xe s
def PT (X : Cx) (e : Expr) (t : TT) : Prop :=
  ∀ (pins : List (Addr × Obj)) (s : Shared) (σ : St) (H : Hp) (Q : Bool → Hp → Prop), Inv X pins σ H s → t σ H Q → wpAny (model X.prog X.w) X.A (isTrue e X.env (eval e X.env)) (TP X pins σ Q) X.xe s
/-- a test whatever its 'whole' is (and, or) -/
def PW (X : Cx) (e : Expr) (t : TT) : Prop :=
  ∀ (whole : Sem Value) (pins : List (Addr × Obj)) (s : Shared) (σ : St) (H : Hp) (Q : Bool → Hp → Prop), Inv X pins σ H s → t σ H Q → wpAny (model X.prog X.w) X.A (isTrue e X.env whole) (TP X pins σ Q) X.xe s
theorem PW.pt {X : Cx} {e : Expr} {t : TT} (h : PW X e t) : PT X e t := h _
/-- an argument list (no star), from the left -/
def PA (X : Cx) (es : List Expr) (t : TA) : Prop :=
  ∀ (pos : Pos) (pins : List (Addr × Obj)) (s : Shared) (σ : St) (H : Hp) (Q : List V → Hp → Prop), Inv X pins σ H s → t σ H Q → wpAny (model X.prog X.w) X.A (spliced (backTo pos (starEach es X.env))) (AP X pins σ Q) X.xe s
def PS (X : Cx) (st : Stmt) (t : TS) : Prop :=
  ∀ (pins : List (Addr × Obj)) (s : Shared) (σ : St) (H : Hp) (D : Ends), Inv X pins σ H s → t D σ H → wpAny (model X.prog X.w) X.A (exec st X.env) (SP X pins D) X.xe s
def PSs (X : Cx) (st : List Stmt) (t : TS) : Prop :=
  ∀ (pins : List (Addr × Obj)) (s : Shared) (σ : St) (H : Hp) (D : Ends), Inv X pins σ H s → t D σ H → wpAny (model X.prog X.w) X.A (execs st X.env) (SP X pins D) X.xe s
/-- weaken the end -/
theorem thn {α : Type} {t : Sem α} {Q Q' : α → Shared → Prop} {M : Model} {A : Around} {E : Value → Shared → Prop} {s : Shared} (h : wpAny M A t Q E s) (hQ : ∀ a s, Q a s → Q' a s) : wpAny M A t Q' E s := wpAny_mono h hQ fun _ _ x => x
end L2

namespace L2
open PySem PySem.Spec PyProof.Rows
section
variable {X : Cx}

/-- two expressions in a row -/
theorem bin {a b : Expr} {ta tb : TE} (ha : PE X a ta) (hb : PE X b tb) {pins : List (Addr × Obj)} {s : Shared} {σ : St} {H : Hp} {R : V → V → Hp → Prop} (I : Inv X pins σ H s) (h : ta σ H fun x H1 => tb σ H1 fun y H2 => R x y H2)
    {α : Type} {Q : α → Shared → Prop} {f : Value → Value → Sem α}
    (hf : ∀ v u s2 x y H2, Inv X pins σ H2 s2 → RelV x v → RelV y u → R x y H2 → wpAny (model X.prog X.w) X.A (f v u) Q X.xe s2) :
    wpAny (model X.prog X.w) X.A (eval a X.env) (fun v s₁ => wpAny (model X.prog X.w) X.A (eval b X.env) (fun u s₂ => wpAny (model X.prog X.w) X.A (f v u) Q X.xe s₂) X.xe s₁) X.xe s := by
  refine thn (ha pins s σ H _ I h) fun v s1 ⟨x, H1, I1, r1, q1⟩ => ?_
  refine thn (hb pins s1 σ H1 _ I1 q1) fun u s2 ⟨y, H2, I2, r2, q2⟩ => ?_
  exact hf v u s2 x y H2 I2 r1 r2 q2

/-! ### names and constants -/
def tVar (i : Nat) : TE := fun σ H Q => ∃ v, σ[i]? = some (some v) ∧ Q v H
def tC (v : V) : TE := fun _ H Q => Q v H
theorem pe_var {i : Nat} {x : Str} {pos : Pos} (hN : X.N[i]? = some x) (hv : Vis X.env.scope x) (hd : (x == ("__debug__" : Str)) = false := by decide) (hcd : (x == ("__classdict__" : Str)) = false := by decide) : PE X (.Name x pos) (tVar i) := by
  intro pins s σ H Q I h
  obtain ⟨v, e, h⟩ := h
  obtain ⟨m, hn, hl⟩ := I.loc
  obtain ⟨u, r, l⟩ := hl i x v hN e hv
  have fin : EP X pins σ Q u s := ⟨v, H, I, r, h⟩
  rcases l with ⟨hk, hm⟩ | ⟨hk, c, hc, hcell⟩
  · exact wpAny_Name (wpAny_loadName_local I.ok.kind hk hn hm fin) hd
  · rcases hk with hk | hk
    · exact wpAny_Name (wpAny_loadName_cell I.ok.kind hk hc hcell fin) hd
    · exact wpAny_Name (wpAny_loadName_free I.ok.kind hk hc hcell fin hcd) hd
theorem pe_int {i j pos} : PE X (.Constant (.int i) j pos) (tC (.int i)) := fun _ _ _ H _ I h => wpAny_Constant_int ⟨.int i, H, I.tok _, ⟨_, rfl⟩, h⟩
theorem pe_bl {b j pos} : PE X (.Constant (.bool b) j pos) (tC (.bl b)) := fun _ _ _ H _ I h => Constant_bool ⟨.bl b, H, I, rfl, h⟩
theorem pe_non {j pos} : PE X (.Constant .none j pos) (tC .non) := fun _ _ _ H _ I h => Constant_none ⟨.non, H, I, rfl, h⟩
theorem pe_str {x j pos} : PE X (.Constant (.str x) j pos) (tC (.str x)) := fun _ _ _ H _ I h => Calls.Constant_str ⟨.str x, H, I.tok _, ⟨_, rfl⟩, h⟩

/-- a global name of the def -/
def Gl (X : Cx) (x : Str) : Prop := X.env.kindOf x = some .globalImplicit
theorem ld_glob {E : Value → Shared → Prop} {pins : List (Addr × Obj)} {s : Shared} {σ : St} {H : Hp} {x : Str} {u : Value} {pos : Pos} {Q : Value → Shared → Prop} (I : Inv X pins σ H s) (hg : Gl X x) (hm : X.mg x = some u) (h : Q u s)
    (hd : (x == ("__debug__" : Str)) = false := by decide) : wpAny (model X.prog X.w) X.A (eval (.Name x pos) X.env) Q E s :=
  Calls.Name_function_global I.ok.kind hg (Calls.loadGlobal_global (by rw [I.ok.glob]; exact I.mod.glob.keeps I.bk) hm h) hd
theorem ld_blt {E : Value → Shared → Prop} {pins : List (Addr × Obj)} {s : Shared} {σ : St} {H : Hp} {x : Str} {u : Value} {pos : Pos} {Q : Value → Shared → Prop} (I : Inv X pins σ H s) (hg : Gl X x) (hm : X.mg x = none) (hv : bootBuiltins x = some u) (h : Q u s)
    (hn : x ≠ "__name__" := by decide) (hd : (x == ("__debug__" : Str)) = false := by decide) : wpAny (model X.prog X.w) X.A (eval (.Name x pos) X.env) Q E s := by
  obtain ⟨mb, h1, h2⟩ := I.mod.blt
  exact Calls.Name_function_global I.ok.kind hg (Calls.loadGlobal_builtin (by rw [I.ok.glob]; exact I.mod.glob.keeps I.bk) hm (by rw [I.ok.blt]; exact h1.keeps I.bk) ((h2 x hn).trans hv) h) hd
/-- a module's constant, a class, a function, as a value -/
theorem pe_glob {x : Str} {v : V} {u : Value} {pos : Pos} (hg : Gl X x) (hm : X.mg x = some u) (r : RelV v u) (hd : (x == ("__debug__" : Str)) = false := by decide) : PE X (.Name x pos) (tC v) :=
  fun _ _ _ H _ I h => ld_glob I hg hm ⟨v, H, I, r, h⟩ hd
theorem pe_bltn {x : Str} {v : V} {u : Value} {pos : Pos} (hg : Gl X x) (hm : X.mg x = none) (hv : bootBuiltins x = some u) (r : RelV v u) (hn : x ≠ "__name__" := by decide) (hd : (x == ("__debug__" : Str)) = false := by decide) : PE X (.Name x pos) (tC v) :=
  fun _ _ _ H _ I h => ld_blt I hg hm hv ⟨v, H, I, r, h⟩ hn hd

/-! ### arithmetic -/
/-- two ints -/
def t2I (ta tb : TE) (k : Int → Int → Hp → Prop) : St → Hp → Prop := fun σ H => ta σ H fun x H1 => tb σ H1 fun y H2 => ∃ i j, x = .int i ∧ y = .int j ∧ k i j H2
def tAdd (ta tb : TE) : TE := fun σ H Q => t2I ta tb (fun i j H2 => Q (.int (i + j)) H2) σ H
def tSub (ta tb : TE) : TE := fun σ H Q => t2I ta tb (fun i j H2 => Q (.int (i - j)) H2) σ H
/-- the left factor below 2^64 -/
def tMul (ta tb : TE) : TE := fun σ H Q => t2I ta tb (fun i j H2 => (-(2 ^ 64) < i ∧ i < 2 ^ 64) ∧ Q (.int (i * j)) H2) σ H
variable {a b : Expr} {ta tb : TE} {pos : Pos}
theorem pe_add (ha : PE X a ta) (hb : PE X b tb) : PE X (.BinOp a .Add b pos) (tAdd ta tb) := by
  intro pins s σ H Q I h
  refine wpAny_BinOp (bin ha hb I h fun v u s2 x y H2 I2 rx ry q => ?_)
  obtain ⟨i, j, rfl, rfl, q⟩ := q
  obtain ⟨t, rfl⟩ := rx
  obtain ⟨t', rfl⟩ := ry
  exact add_int ⟨.int _, H2, I2.tok _, ⟨_, rfl⟩, q⟩
theorem pe_sub (ha : PE X a ta) (hb : PE X b tb) : PE X (.BinOp a .Sub b pos) (tSub ta tb) := by
  intro pins s σ H Q I h
  refine wpAny_BinOp (bin ha hb I h fun v u s2 x y H2 I2 rx ry q => ?_)
  obtain ⟨i, j, rfl, rfl, q⟩ := q
  obtain ⟨t, rfl⟩ := rx
  obtain ⟨t', rfl⟩ := ry
  exact sub_int ⟨.int _, H2, I2.tok _, ⟨_, rfl⟩, q⟩
theorem pe_mul (ha : PE X a ta) (hb : PE X b tb) : PE X (.BinOp a .Mult b pos) (tMul ta tb) := by
  intro pins s σ H Q I h
  refine wpAny_BinOp (bin ha hb I h fun v u s2 x y H2 I2 rx ry q => ?_)
  obtain ⟨i, j, rfl, rfl, ⟨q1, q2⟩, q⟩ := q
  obtain ⟨t, rfl⟩ := rx
  obtain ⟨t', rfl⟩ := ry
  exact mul_int ⟨.int _, H2, I2.tok _, ⟨_, rfl⟩, q⟩ (.of_left (intBits_le_64 q1 q2))

/-! ### comparisons -/
def PC (X : Cx) (op : CmpOp) (a b : Expr) (t : TE) : Prop :=
  ∀ (pins : List (Addr × Obj)) (s : Shared) (σ : St) (H : Hp) (Q : VK), Inv X pins σ H s → t σ H Q →
    wpAny (model X.prog X.w) X.A (eval a X.env) (fun v s₁ => wpAny (model X.prog X.w) X.A (eval b X.env) (fun u s₂ => wpAny (model X.prog X.w) X.A (compareOp op v u) (EP X pins σ Q) X.xe s₂) X.xe s₁) X.xe s
theorem nobehind (b : Expr) {op : CmpOp} (h : op ≠ .In) (h2 : op ≠ .NotIn) : behindInMarks op b = false := by
  have e1 : (op == CmpOp.In) = false := by cases op <;> first | rfl | exact absurd rfl h
  have e2 : (op == CmpOp.NotIn) = false := by cases op <;> first | rfl | exact absurd rfl h2
  cases b <;> simp [behindInMarks, e1, e2]
def tCmp (p : Int → Int → Bool) (ta tb : TE) : TE := fun σ H Q => t2I ta tb (fun i j H2 => Q (.bl (p i j)) H2) σ H
abbrev tLt : TE → TE → TE := tCmp fun i j => decide (i < j)
abbrev tLe : TE → TE → TE := tCmp fun i j => decide (i ≤ j)
abbrev tGt : TE → TE → TE := tCmp fun i j => decide (j < i)
abbrev tGe : TE → TE → TE := tCmp fun i j => decide (j ≤ i)
abbrev tEqI : TE → TE → TE := tCmp fun i j => decide (i = j)
abbrev tNeI : TE → TE → TE := tCmp fun i j => !decide (i = j)
/-- a comparison of two ints, by its rule -/
theorem pc_int {op : CmpOp} {p : Int → Int → Bool} (ha : PE X a ta) (hb : PE X b tb)
    (rule : ∀ (i j : Int) (t u : Tok) (Q : Value → Shared → Prop) (s : Shared), Q (.bool (p i j)) s → wpAny (model X.prog X.w) X.A (compareOp op (.int i t) (.int j u)) Q X.xe s) : PC X op a b (tCmp p ta tb) := by
  intro pins s σ H Q I h
  refine bin ha hb I h fun v u s2 x y H2 I2 rx ry q => ?_
  obtain ⟨i, j, rfl, rfl, q⟩ := q
  obtain ⟨t, rfl⟩ := rx
  obtain ⟨t', rfl⟩ := ry
  exact rule i j t t' _ s2 ⟨.bl _, H2, I2, rfl, q⟩
theorem pc_lt (ha : PE X a ta) (hb : PE X b tb) : PC X .Lt a b (tLt ta tb) := pc_int ha hb fun _ _ _ _ _ _ h => lt_int h
theorem pc_le (ha : PE X a ta) (hb : PE X b tb) : PC X .LtE a b (tLe ta tb) := pc_int ha hb fun _ _ _ _ _ _ h => le_int h
theorem pc_gt (ha : PE X a ta) (hb : PE X b tb) : PC X .Gt a b (tGt ta tb) := pc_int ha hb fun _ _ _ _ _ _ h => gt_int h
theorem pc_ge (ha : PE X a ta) (hb : PE X b tb) : PC X .GtE a b (tGe ta tb) := pc_int ha hb fun _ _ _ _ _ _ h => ge_int h
theorem pc_eqI (ha : PE X a ta) (hb : PE X b tb) : PC X .Eq a b (tEqI ta tb) := pc_int ha hb fun _ _ _ _ _ _ h => eq_int (by rw [Bool.beq_eq_decide_eq]; exact h)
theorem pc_neI (ha : PE X a ta) (hb : PE X b tb) : PC X .NotEq a b (tNeI ta tb) := pc_int ha hb fun _ _ _ _ _ _ h => ne_int (by rw [bne, Bool.beq_eq_decide_eq]; exact h)
/-- is None -/
def tIsN (ta : TE) : TE := fun σ H Q => ta σ H fun x H1 => Q (.bl (decide (x = .non))) H1
def tNotN (ta : TE) : TE := fun σ H Q => ta σ H fun x H1 => Q (.bl (!decide (x = .non))) H1
theorem RelV.none_iff {x : V} {v : Value} (r : RelV x v) : (v == Value.none) = decide (x = .non) := by
  cases x with
  | non => cases r; rfl
  | bl _ => cases r; rfl
  | int _ => obtain ⟨t, rfl⟩ := r; rfl
  | str _ => obtain ⟨t, rfl⟩ := r; rfl
  | byt _ => obtain ⟨t, rfl⟩ := r; rfl
  | flt _ => obtain ⟨t, rfl⟩ := r; rfl
  | ref _ => cases r; rfl
  | ty _ => cases r; rfl
theorem pc_isN {j pos'} (ha : PE X a ta) : PC X .Is a (.Constant .none j pos') (tIsN ta) := by
  intro pins s σ H Q I h
  refine thn (ha pins s σ H _ I h) fun v s1 ⟨x, H1, I1, r1, q1⟩ => ?_
  exact Constant_none (is_none_gen ⟨.bl _, H1, I1, by rw [r1.none_iff]; rfl, q1⟩)
theorem pc_notN {j pos'} (ha : PE X a ta) : PC X .IsNot a (.Constant .none j pos') (tNotN ta) := by
  intro pins s σ H Q I h
  refine thn (ha pins s σ H _ I h) fun v s1 ⟨x, H1, I1, r1, q1⟩ => ?_
  exact Constant_none (isnot_none_gen ⟨.bl _, H1, I1, by rw [r1.none_iff]; rfl, q1⟩)
/-- a comparison as a value, as a test -/
def tB (t : TE) : TT := fun σ H Q => t σ H fun x H1 => ∃ c, x = .bl c ∧ Q c H1
theorem pe_cmp {op : CmpOp} {t : TE} (h : PC X op a b t) (h1 : behindInMarks op b = false := by first | exact nobehind _ (by decide) (by decide) | rfl) : PE X (.Compare a [op] [b] pos) t := fun pins s σ H Q I hw => wpAny_Compare1 (h pins s σ H Q I hw) h1
theorem pt_cmp {op : CmpOp} {t : TE} (h : PC X op a b t) (h1 : behindInMarks op b = false := by first | exact nobehind _ (by decide) (by decide) | rfl) : PT X (.Compare a [op] [b] pos) (tB t) := by
  intro pins s σ H Q I hw
  refine wpAny_isTrue_Compare1 (thn (h pins s σ H _ I hw) fun v s1 h1 => thn h1 fun u s2 h2 => thn h2 fun c s3 ⟨x, H1, I1, r1, q1⟩ => ?_) h1
  obtain ⟨d, rfl, q⟩ := q1
  cases r1
  exact wpAny_truthy_bool ⟨H1, I1, q⟩
/-- an expression whose value is a bool, as a test -/
theorem pt_val {e : Expr} {t : TE} (h : PE X e t) (he : ∀ whole, isTrue e X.env whole = (do let v ← whole; standAt e.pos; holding [v] (truthy v)) := by intro _; rfl) : PT X e (tB t) := by
  intro pins s σ H Q I hw
  refine isTrue_plain (thn (h pins s σ H _ I hw) fun v s1 ⟨x, H1, I1, r1, q1⟩ => ?_) (he _)
  obtain ⟨d, rfl, q⟩ := q1
  cases r1
  exact wpAny_truthy_bool ⟨H1, I1, q⟩

/-! ### and, or, not -/
variable {tA tB' : TT} {rest : List Expr}
def tAnd (t u : TT) : TT := fun σ H Q => t σ H fun c H1 => if c = true then u σ H1 Q else Q false H1
def tOr (t u : TT) : TT := fun σ H Q => t σ H fun c H1 => if c = true then Q true H1 else u σ H1 Q
def tNot (t : TT) : TT := fun σ H Q => t σ H fun c H1 => Q (!c) H1
theorem pw_and1 (ha : PT X a tA) : PW X (.BoolOp .And [a] pos) tA := by
  intro wh pins s σ H Q I h
  refine isTrue_and (thn (ha pins s σ H Q I h) fun c s1 e => ?_)
  cases c with
  | true => exact isTrue_and_nil e
  | false => exact e
theorem pw_or1 (ha : PT X a tA) : PW X (.BoolOp .Or [a] pos) tA := by
  intro wh pins s σ H Q I h
  refine isTrue_or (thn (ha pins s σ H Q I h) fun c s1 e => ?_)
  cases c with
  | false => exact isTrue_or_nil e
  | true => exact e
theorem pw_and (ha : PT X a tA) (hb : PW X (.BoolOp .And (b :: rest) pos) tB') : PW X (.BoolOp .And (a :: b :: rest) pos) (tAnd tA tB') := by
  intro wh pins s σ H Q I h
  refine isTrue_and (thn (ha pins s σ H _ I h) fun c s1 ⟨H1, I1, q1⟩ => ?_)
  cases c with
  | true => exact hb wh pins s1 σ H1 Q I1 q1
  | false => exact ⟨H1, I1, q1⟩
theorem pw_or (ha : PT X a tA) (hb : PW X (.BoolOp .Or (b :: rest) pos) tB') : PW X (.BoolOp .Or (a :: b :: rest) pos) (tOr tA tB') := by
  intro wh pins s σ H Q I h
  refine isTrue_or (thn (ha pins s σ H _ I h) fun c s1 ⟨H1, I1, q1⟩ => ?_)
  cases c with
  | true => exact ⟨H1, I1, q1⟩
  | false => exact hb wh pins s1 σ H1 Q I1 q1
theorem pt_not (ha : PT X a tA) : PT X (.UnaryOp .Not a pos) (tNot tA) := by
  intro pins s σ H Q I h
  exact isTrue_not (ha pins s σ H (fun c H1 => Q (!c) H1) I h)
/-- .. as values (bools) -/
def tAndV (ta tb : TE) : TE := fun σ H Q => ta σ H fun x H1 => ∃ c, x = .bl c ∧ if c = true then tb σ H1 Q else Q (.bl false) H1
def tOrV (ta tb : TE) : TE := fun σ H Q => ta σ H fun x H1 => ∃ c, x = .bl c ∧ if c = true then Q (.bl true) H1 else tb σ H1 Q
def tNotV (ta : TE) : TE := fun σ H Q => ta σ H fun x H1 => ∃ c, x = .bl c ∧ Q (.bl (!c)) H1
theorem pe_one {op} {t : TE} (h : PE X a t) : PE X (.BoolOp op [a] pos) t := fun pins s σ H Q I hw => BoolOp_one (h pins s σ H Q I hw)
theorem pe_and (ha : PE X a ta) (hb : PE X (.BoolOp .And (b :: rest) pos) tb) : PE X (.BoolOp .And (a :: b :: rest) pos) (tAndV ta tb) := by
  intro pins s σ H Q I h
  refine BoolOp_and (thn (ha pins s σ H _ I h) fun v s1 ⟨x, H1, I1, r1, q1⟩ => ?_)
  obtain ⟨c, rfl, q1⟩ := q1
  cases r1
  refine wpAny_truthy_bool ?_
  cases c with
  | true => exact hb pins s1 σ H1 Q I1 q1
  | false => exact ⟨.bl false, H1, I1, rfl, q1⟩
theorem pe_or (ha : PE X a ta) (hb : PE X (.BoolOp .Or (b :: rest) pos) tb) : PE X (.BoolOp .Or (a :: b :: rest) pos) (tOrV ta tb) := by
  intro pins s σ H Q I h
  refine BoolOp_or (thn (ha pins s σ H _ I h) fun v s1 ⟨x, H1, I1, r1, q1⟩ => ?_)
  obtain ⟨c, rfl, q1⟩ := q1
  cases r1
  refine wpAny_truthy_bool ?_
  cases c with
  | false => exact hb pins s1 σ H1 Q I1 q1
  | true => exact ⟨.bl true, H1, I1, rfl, q1⟩
theorem pe_not (ha : PE X a ta) : PE X (.UnaryOp .Not a pos) (tNotV ta) := by
  intro pins s σ H Q I h
  refine UnaryOp_ (thn (ha pins s σ H _ I h) fun v s1 ⟨x, H1, I1, r1, q1⟩ => ?_)
  obtain ⟨c, rfl, q1⟩ := q1
  cases r1
  exact not_of (wpAny_truthy_bool ⟨.bl (!c), H1, I1, rfl, q1⟩)
/-- a if t else b -/
def tIf (t : TT) (ta tb : TE) : TE := fun σ H Q => t σ H fun c H1 => if c = true then ta σ H1 Q else tb σ H1 Q
theorem pe_ifExp {c : Expr} (hc : PT X c tA) (ha : PE X a ta) (hb : PE X b tb) : PE X (.IfExp c a b pos) (tIf tA ta tb) := by
  intro pins s σ H Q I h
  refine wpAny_IfExp (thn (hc pins s σ H _ I h) fun d s1 ⟨H1, I1, q1⟩ => ?_)
  cases d with
  | true => exact ha pins s1 σ H1 Q I1 q1
  | false => exact hb pins s1 σ H1 Q I1 q1
end
end L2

namespace L2
open PySem PySem.Spec PyProof.Rows

/-! ### a list, a tuple that is read: tracked, frozen, or an object of the module -/
def SqL (K : PySem.W.Frag) (H : Hp) (a : Addr) (xs : List V) : Prop :=
  Rd H a (.lst xs) ∨
    ∃ (o : Obj) (its : Array Value) (n : Nat), K.lookup a = some o ∧ o.cls = .type "list" ∧ o.dict = none ∧ o.data = .seq its n ∧ its.size ≤ sizeLine ∧ Vals xs its.toList
def SqT (K : PySem.W.Frag) (H : Hp) (a : Addr) (xs : List V) : Prop :=
  Rd H a (.tup xs) ∨
    ∃ (o : Obj) (its : Array Value) (n : Nat), K.lookup a = some o ∧ o.cls = .type "tuple" ∧ o.data = .seq its n ∧ its.size ≤ sizeLine ∧ Vals xs its.toList
def absV : Value → Option V
  | .none => some .non
  | .bool b => some (.bl b)
  | .int i _ => some (.int i)
  | .str x _ => some (.str x)
  | .bytes b _ => some (.byt b)
  | .float b _ => some (.flt b)
  | .ref a => some (.ref a)
  | .type n => some (.ty n)
  | _ => none
theorem RelV.abs {x : V} {u : Value} (r : RelV x u) : absV u = some x := by
  cases x with
  | non => cases r; rfl
  | bl _ => cases r; rfl
  | int _ => obtain ⟨t, rfl⟩ := r; rfl
  | str _ => obtain ⟨t, rfl⟩ := r; rfl
  | byt _ => obtain ⟨t, rfl⟩ := r; rfl
  | flt _ => obtain ⟨t, rfl⟩ := r; rfl
  | ref _ => cases r; rfl
  | ty _ => cases r; rfl
theorem RelV.inj {x y : V} {u : Value} (r : RelV x u) (q : RelV y u) : x = y := Option.some.inj (r.abs.symm.trans q.abs)
theorem Vals.inj : ∀ {xs ys : List V} {us : List Value}, Vals xs us → Vals ys us → xs = ys
  | _, _, _, .nil, .nil => rfl
  | _, _, _, .cons r t, .cons r' t' => by rw [r.inj r', Vals.inj t t']
section
variable {X : Cx} {pins : List (Addr × Obj)} {σ : St} {H : Hp} {s : Shared} {a : Addr} {xs ys : List V}
theorem SqL.of {K : PySem.W.Frag} (h : H a = some (.lst xs)) : SqL K H a xs := .inl (.inl h)
theorem SqT.of {K : PySem.W.Frag} (h : H a = some (.tup xs)) : SqT K H a xs := .inl (.inl h)
theorem Inv.list (I : Inv X pins σ H s) (h : SqL X.K H a xs) : ∃ its : List Value, Vals xs its ∧ PlainL s.heap a its.toArray ∧ xs.length ≤ sizeLine := by
  rcases h with h | ⟨o, its, n, hk, hc, hd, hs, hz, r⟩
  · obtain ⟨z, its, n, r, e⟩ := h.ok I.hok
    exact ⟨its, r, ⟨_, n, e, rfl, rfl, rfl⟩, z⟩
  · refine ⟨its.toList, r, ⟨o, n, I.kIn a o hk, hc, hd, by simpa using hs⟩, ?_⟩
    have e := r.length
    simp only [Array.length_toList] at e
    omega
theorem Inv.tuple (I : Inv X pins σ H s) (h : SqT X.K H a xs) : ∃ its : List Value, Vals xs its ∧ IsTup s.heap a its.toArray ∧ xs.length ≤ sizeLine := by
  rcases h with h | ⟨o, its, n, hk, hc, hs, hz, r⟩
  · obtain ⟨z, its, r, p⟩ := h.ok I.hok
    exact ⟨its, r, p, z⟩
  · refine ⟨its.toList, r, ⟨o, I.kIn a o hk, hc, n, by simpa using hs⟩, ?_⟩
    have e := r.length
    simp only [Array.length_toList] at e
    omega
theorem Inv.list_inj (I : Inv X pins σ H s) (h : SqL X.K H a xs) (h' : SqL X.K H a ys) : xs = ys := by
  obtain ⟨its, r, ⟨o, n, e, _, _, d⟩, _⟩ := I.list h
  obtain ⟨its', r', ⟨o', n', e', _, _, d'⟩, _⟩ := I.list h'
  rw [e] at e'; cases e'
  rw [d] at d'
  injection d' with d1 _
  have : its = its' := by simpa using congrArg Array.toList d1
  subst this
  exact r.inj r'
theorem Inv.tuple_inj (I : Inv X pins σ H s) (h : SqT X.K H a xs) (h' : SqT X.K H a ys) : xs = ys := by
  obtain ⟨its, r, ⟨o, e, _, n, d⟩, _⟩ := I.tuple h
  obtain ⟨its', r', ⟨o', e', _, n', d'⟩, _⟩ := I.tuple h'
  rw [e] at e'; cases e'
  rw [d] at d'
  injection d' with d1 _
  have : its = its' := by simpa using congrArg Array.toList d1
  subst this
  exact r.inj r'
end

/-! ### another wish about exceptions -/
abbrev Cx.wish (X : Cx) (E : Value → Shared → Prop) : Cx := { X with xe := E }
/-- no exception leaves -/
abbrev Cx.nox (X : Cx) : Cx := X.wish fun _ _ => False
theorem Cx.Ok.wish {X : Cx} (ok : X.Ok) (E : Value → Shared → Prop) : (X.wish E).Ok :=
  ⟨ok.mod, ok.kind, ok.glob, ok.blt, ok.above, ok.inj, ok.has, ok.cab, ok.hd, ok.frames, ok.stk, ok.exf, ok.bs, ok.bsz, ok.noex, ok.exfs, ok.funs, ok.frf⟩
theorem Cx.Ok.unwish {X : Cx} {E : Value → Shared → Prop} (ok : (X.wish E).Ok) : X.Ok :=
  ⟨ok.mod, ok.kind, ok.glob, ok.blt, ok.above, ok.inj, ok.has, ok.cab, ok.hd, ok.frames, ok.stk, ok.exf, ok.bs, ok.bsz, ok.noex, ok.exfs, ok.funs, ok.frf⟩
section
variable {X : Cx} {pins : List (Addr × Obj)} {σ : St} {H : Hp} {s : Shared} {E : Value → Shared → Prop}
theorem Inv.wish (I : Inv X pins σ H s) (E : Value → Shared → Prop) : Inv (X.wish E) pins σ H s := ⟨I.ok.wish E, I.os, I.bare, I.base, I.loc, I.cell, I.free, I.freeC, I.pin, I.hok, I.len⟩
theorem Inv.unwish (I : Inv (X.wish E) pins σ H s) : Inv X pins σ H s := ⟨I.ok.unwish, I.os, I.bare, I.base, I.loc, I.cell, I.free, I.freeC, I.pin, I.hok, I.len⟩
theorem SP.unwish {D : Ends} {f : Flow} {s' : Shared} (h : SP (X.wish E) pins D f s') : SP X pins D f s' := by
  cases f with
  | next => obtain ⟨σ', H', I, q⟩ := h; exact ⟨σ', H', I.unwish, q⟩
  | brk => obtain ⟨σ', H', I, q⟩ := h; exact ⟨σ', H', I.unwish, q⟩
  | cont => obtain ⟨σ', H', I, q⟩ := h; exact ⟨σ', H', I.unwish, q⟩
  | ret u => obtain ⟨v, σ', H', I, r, q⟩ := h; exact ⟨v, σ', H', I.unwish, r, q⟩
theorem PE.nox {e : Expr} {t : TE} (h : PE X.nox e t) : PE X e t := fun pins s σ H Q I hw =>
  wpAny_mono (h pins s σ H Q (I.wish _) hw) (fun _ _ ⟨v, H', I', r, q⟩ => ⟨v, H', I'.unwish, r, q⟩) fun _ _ z => False.elim z
theorem PT.nox {e : Expr} {t : TT} (h : PT X.nox e t) : PT X e t := fun pins s σ H Q I hw =>
  wpAny_mono (h pins s σ H Q (I.wish _) hw) (fun _ _ ⟨H', I', q⟩ => ⟨H', I'.unwish, q⟩) fun _ _ z => False.elim z
theorem PSs.nox {st : List Stmt} {t : TS} (h : PSs X.nox st t) : PSs X st t := fun pins s σ H D I hw =>
  wpAny_mono (h pins s σ H D (I.wish _) hw) (fun _ _ q => q.unwish) fun _ _ z => False.elim z
end

/-! ### blocks and small statements -/
section
variable {X : Cx} {st : Stmt} {rest : List Stmt} {t u : TS} {e : Expr} {te : TE} {pos : Pos}
def tNext : TS := fun D σ H => D.nx σ H
def tSeq (t u : TS) : TS := fun D σ H => t { D with nx := u D } σ H
theorem pss_nil : PSs X [] tNext := fun _ _ σ H _ I h => wpAny_execs_nil ⟨σ, H, I, h⟩
theorem pss_cons (h1 : PS X st t) (h2 : PSs X rest u) : PSs X (st :: rest) (tSeq t u) := by
  intro pins s σ H D I h
  refine wpAny_execs_cons (thn (h1 pins s σ H { D with nx := u D } I h) fun f s1 q => ?_)
  cases f with
  | next =>
    obtain ⟨σ', H', I', q⟩ := q
    exact h2 pins s1 σ' H' D I' q
  | ret v => exact q
  | brk => exact q
  | cont => exact q
theorem pss_one (h1 : PS X st t) : PSs X [st] t := by
  intro pins s σ H D I h
  refine wpAny_execs_cons (thn (h1 pins s σ H D I h) fun f s1 q => ?_)
  cases f with
  | next => exact wpAny_execs_nil q
  | ret v => exact q
  | brk => exact q
  | cont => exact q
def tBreak : TS := fun D σ H => D.bk σ H
def tCont : TS := fun D σ H => D.ct σ H
theorem ps_pass : PS X (.Pass pos) tNext := fun _ _ σ H _ I h => wpAny_Pass ⟨σ, H, I, h⟩
theorem ps_break : PS X (.Break pos) tBreak := fun _ _ σ H _ I h => wpAny_Break ⟨σ, H, I, h⟩
theorem ps_continue : PS X (.Continue pos) tCont := fun _ _ σ H _ I h => wpAny_Continue ⟨σ, H, I, h⟩
/-- in a def's body nothing is shown -/
theorem Inv.quiet {pins : List (Addr × Obj)} {σ : St} {H : Hp} {s : Shared} (I : Inv X pins σ H s) : interactive X.env = false := by simp [interactive, I.ok.kind]
/-- a docstring -/
theorem ps_doc {x j pos pos'} : PS X (.Expr (.Constant (.str x) j pos) pos') tNext := fun _ s σ H _ I h => wpAny_Expr (Calls.Constant_str (show SP X _ _ .next { s with toks := s.toks + 1 } from ⟨σ, H, I.tok _, h⟩)) I.quiet
/-- an expression whose value is dropped -/
def tDrop (te : TE) : TS := fun D σ H => te σ H fun _ H1 => D.nx σ H1
theorem ps_expr (he : PE X e te) (hs : swapsWith e none pos.line X.env = pure false := by rfl) : PS X (.Expr e pos) (tDrop te) := by
  intro pins s σ H D I h
  exact wpAny_Expr_any (thn (he pins s σ H _ I h) fun v s1 ⟨x, H1, I1, r1, q1⟩ => ⟨σ, H1, I1, q1⟩) I.quiet hs
def tRet (te : TE) : TS := fun D σ H => te σ H D.rt
theorem ps_ret (he : PE X e te) : PS X (.Return (some e) pos) (tRet te) := by
  intro pins s σ H D I h
  exact wpAny_Return_some (thn (he pins s σ H _ I h) fun v s1 ⟨x, H1, I1, r1, q1⟩ => ⟨x, σ, H1, I1, r1, q1⟩)
def tRetN : TS := fun D _ H => D.rt .non H
theorem ps_retN : PS X (.Return none pos) tRetN := fun _ _ σ H _ I h => wpAny_Return_none ⟨.non, σ, H, I, rfl, h⟩
def tIfS (c : TT) (t u : TS) : TS := fun D σ H => c σ H fun b H1 => if b = true then t D σ H1 else u D σ H1
theorem ps_if {c : Expr} {a b : List Stmt} {tc : TT} (hc : PT X c tc) (ha : PSs X a t) (hb : PSs X b u) : PS X (.If c a b pos) (tIfS tc t u) := by
  intro pins s σ H D I h
  refine wpAny_If (thn (hc pins s σ H _ I h) fun d s1 ⟨H1, I1, q1⟩ => ?_)
  cases d with
  | true => exact ha pins s1 σ H1 D I1 q1
  | false => exact hb pins s1 σ H1 D I1 q1
/-- code that the proof never comes to -/
def tNever : TS := fun _ _ _ => False
theorem ps_never : PS X st tNever := fun _ _ _ _ _ _ h => h.elim
theorem pss_never {sts : List Stmt} : PSs X sts tNever := fun _ _ _ _ _ _ h => h.elim
end

/-! ### targets -/
abbrev TG := V → St → Hp → (St → Hp → Prop) → Prop
abbrev TGs := List V → St → Hp → (St → Hp → Prop) → Prop
def PG (X : Cx) (target : Expr) (t : TG) : Prop :=
  ∀ (pins : List (Addr × Obj)) (s : Shared) (σ : St) (H : Hp) (v : V) (u : Value) (Q : St → Hp → Prop), Inv X pins σ H s → RelV v u → t v σ H Q →
    wpAny (model X.prog X.w) X.A (assign target X.env u) (fun _ s' => ∃ σ' H', Inv X pins σ' H' s' ∧ Q σ' H') X.xe s
/-- several targets, one after another -/
def PGs (X : Cx) (ts : List Expr) (t : TGs) : Prop :=
  ∀ (pins : List (Addr × Obj)) (s : Shared) (σ : St) (H : Hp) (vs : List V) (us : List Value) (Q : St → Hp → Prop), Inv X pins σ H s → Vals vs us → t vs σ H Q →
    wpAny (model X.prog X.w) X.A (assignInOrder ((assignEach ts X.env).map (·.2)) us) (fun _ s' => ∃ σ' H', Inv X pins σ' H' s' ∧ Q σ' H') X.xe s
/-- o[i] = v, by values -/
abbrev TSet := V → V → V → Hp → (Hp → Prop) → Prop
def PSet (X : Cx) (t : TSet) : Prop :=
  ∀ (pins : List (Addr × Obj)) (s : Shared) (σ : St) (H : Hp) (o i v : V) (ov iv u : Value) (Q : Hp → Prop), Inv X pins σ H s → RelV o ov → RelV i iv → RelV v u → t o i v H Q →
    wpAny (model X.prog X.w) X.A (setItem ov iv u) (fun _ s' => ∃ H', Inv X pins σ H' s' ∧ Q H') X.xe s
/-- a op= b, by values -/
abbrev TIp := V → V → Hp → VK → Prop
def PIp (X : Cx) (op : Operator) (t : TIp) : Prop :=
  ∀ (pins : List (Addr × Obj)) (s : Shared) (σ : St) (H : Hp) (x y : V) (v u : Value) (Q : VK), Inv X pins σ H s → RelV x v → RelV y u → t x y H Q →
    wpAny (model X.prog X.w) X.A (inplaceOp op v u) (EP X pins σ Q) X.xe s
section
variable {X : Cx} {pos : Pos}
def gName (i : Nat) : TG := fun v σ H Q => Q (σ.set i (some v)) H
theorem pg_name {i : Nat} {x : Str} (hN : X.N.Nodup) (hi : X.N[i]? = some x) (hx : Loc X.env.scope x) (hf : X.fn x = true ∨ X.env.scope.names.lookup x = some .local := by first | exact .inl rfl | exact .inr rfl | assumption) : PG X (.Name x pos) (gName i) := by
  intro pins s σ H v u Q I r h
  exact wpAny_assign_Name (store_ok I hN hi hx r (fun s' I' => ⟨_, H, I', h⟩) hf)
def gNil : TGs := fun vs σ H Q => vs = [] ∧ Q σ H
def gCons (t : TG) (u : TGs) : TGs := fun vs σ H Q => ∃ v r, vs = v :: r ∧ t v σ H fun σ' H' => u r σ' H' Q
theorem pgs_nil : PGs X [] gNil := by
  intro pins s σ H vs us Q I r h
  obtain ⟨e, h⟩ := h
  subst e
  cases r
  exact assignInOrder_nil ⟨σ, H, I, h⟩
theorem pgs_cons {e : Expr} {es : List Expr} {t : TG} {u : TGs} (h1 : PG X e t) (h2 : PGs X es u)
    (hs : (assignEach (e :: es) X.env).map (·.2) = assign e X.env :: (assignEach es X.env).map (·.2) := by rfl) : PGs X (e :: es) (gCons t u) := by
  intro pins s σ H vs us Q I r h
  obtain ⟨v, vr, e1, h⟩ := h
  subst e1
  cases r with
  | cons r rr =>
    rw [hs]
    refine assignInOrder_cons (thn (h1 pins s σ H _ _ _ I r h) fun _ s1 ⟨σ1, H1, I1, q1⟩ => ?_)
    exact h2 pins s1 σ1 H1 _ _ Q I1 rr q1
/-- (a, b, ..) = a tuple of that length -/
def gTup (K : PySem.W.Frag) (n : Nat) (t : TGs) : TG := fun v σ H Q => ∃ a xs, v = .ref a ∧ SqT K H a xs ∧ xs.length = n ∧ t xs σ H Q
theorem pg_tup {es : List Expr} {k : Nat} {t : TGs} {n : Nat} (hc : X.calm = true) (h : PGs X es t)
    (hn : (assignEach es X.env).length = n := by rfl) (hst : (assignEach es X.env).findIdx? (·.1) = none := by rfl) : PG X (.Tuple es k pos) (gTup X.K n t) := by
  intro pins s σ H v u Q I r hw
  obtain ⟨a, xs, e1, hq, hl, hw⟩ := hw
  subst e1
  cases r
  obtain ⟨its, rv, ht, hz⟩ := I.tuple hq
  refine assign_Tuple_tuple (I.ok.hd hc) ht (by simp [hn, ← hl, rv.length]) hst fun h' hx => ?_
  have I1 : Inv X pins σ H { s with heap := h' } := I.kept (t' := s.toks) fun b o e => hx b o (Nat.ne_of_lt (Heap.lt_size e)) e
  exact h pins _ σ H xs _ Q I1 (by simpa using rv) hw
/-- o[i] = .. -/
def gSub (to ti : TE) (t : TSet) : TG := fun v σ H Q => to σ H fun o H1 => ti σ H1 fun i H2 => t o i v H2 fun H3 => Q σ H3
theorem pg_sub {o i : Expr} {to ti : TE} {t : TSet} (ho : PE X o to) (hi : PE X i ti) (hs : PSet X t)
    (ha : ∀ v, assign (.Subscript o i pos) X.env v = (do
      let ov ← holding [v] (eval o X.env)
      let iv ← holding [v, ov] (eval i X.env)
      standAt pos
      holding [v, ov, iv] (setItem ov iv v)
      release [v, ov, iv] []) := by intro _; rfl) : PG X (.Subscript o i pos) (gSub to ti t) := by
  intro pins s σ H v u Q I r h
  rw [ha]
  refine wpAny_bind (wpAny_holding (thn (ho pins s σ H _ I h) fun ov s1 ⟨x, H1, I1, r1, q1⟩ => ?_))
  refine wpAny_bind (wpAny_holding (thn (hi pins s1 σ H1 _ I1 q1) fun iv s2 ⟨y, H2, I2, r2, q2⟩ => ?_))
  refine wpAny_bind (wpAny_standAt (wpAny_bind (wpAny_holding (thn (hs pins s2 σ H2 x y v ov iv u _ I2 r1 r2 r q2) fun _ s3 ⟨H3, I3, q3⟩ => ?_))))
  exact wpAny_release ⟨σ, H3, I3, q3⟩
/-- target = value -/
def tAsg (te : TE) (g : TG) : TS := fun D σ H => te σ H fun x H1 => g x σ H1 D.nx
theorem ps_asg {tg e : Expr} {te : TE} {g : TG} (he : PE X e te) (hg : PG X tg g) (hs : swapsWithSole [tg] e pos.line X.env = pure false := by rfl) (hw : swappedStores [tg] e X.env = pure none := by rfl)
    (h1 : (assignEach [tg] X.env).map (·.2) = [assign tg X.env] := by rfl) : PS X (.Assign [tg] e pos) (tAsg te g) := by
  intro pins s σ H D I h
  refine wpAny_Assign_stores (thn (he pins s σ H _ I h) fun v s1 ⟨x, H1, I1, r1, q1⟩ => ?_) hs hw
  rw [h1]
  exact thn (hg pins s1 σ H1 x v _ I1 r1 q1) fun _ s2 q => q
/-- name = value -/
theorem ps_set {i : Nat} {x : Str} {e : Expr} {te : TE} {pos' : Pos} (hN : X.N.Nodup) (hi : X.N[i]? = some x) (hx : Loc X.env.scope x) (he : PE X e te) (hs : swapsWith e (some (.Name x pos')) pos.line X.env = pure false := by rfl) (hf : X.fn x = true ∨ X.env.scope.names.lookup x = some .local := by first | exact .inl rfl | exact .inr rfl | assumption) :
    PS X (.Assign [.Name x pos'] e pos) (tAsg te (gName i)) := by
  intro pins s σ H D I h
  refine wpAny_Assign_Name (thn (he pins s σ H _ I h) fun v s1 ⟨y, H1, I1, r1, q1⟩ => ?_) hs
  exact store_ok I1 hN hi hx r1 (fun s2 I2 => ⟨_, H1, I2, q1⟩) hf
/-- a, b = x, y with plain local names: stored from the right; the pair itself is not tracked (the opening rows as in PyProof/Rows/TupAssign.lean:23) -/
def tPar (i j : Nat) (ta : TA) : TS := fun D σ H => ta σ H fun vs H1 => ∃ v w, vs = [v, w] ∧ D.nx ((σ.set i (some v)).set j (some w)) H1
theorem ps_par {i j : Nat} {x y : Str} {a b : Expr} {ta : TA} {px py pt : Pos} {kt k2 pt2} (hc : X.calm = true) (hN : X.N.Nodup) (hi : X.N[i]? = some x) (hj : X.N[j]? = some y) (hij : i ≠ j)
    (hx : X.env.scope.names.lookup x = some .local) (hy : X.env.scope.names.lookup y = some .local) (ha : PA X [a, b] ta)
    (hw : swappedStores [.Tuple [.Name x px, .Name y py] kt pt] (.Tuple [a, b] k2 pt2) X.env = pure (some [x, y]))
    (hs : swapsWithSole [.Tuple [.Name x px, .Name y py] kt pt] (.Tuple [a, b] k2 pt2) pos.line X.env = pure false := by rfl) :
    PS X (.Assign [.Tuple [.Name x px, .Name y py] kt pt] (.Tuple [a, b] k2 pt2) pos) (tPar i j ta) := by
  intro pins s σ H D I h
  rw [exec_Assign_arm]
  refine wpAny_bind (wpAny_standAt ?_)
  rw [hs]
  refine wpAny_bind (wpAny_pure ?_)
  rw [if_neg (by decide)]
  refine wpAny_bind (Tuple_ (thn (ha _ pins s σ H _ I h) fun us s1 ⟨vs, H1, I1, r1, q1⟩ => ?_))
  obtain ⟨v, w, e1, q1⟩ := q1
  subst e1
  obtain ⟨u1, u2, rfl, rv, rw'⟩ : ∃ u1 u2, us = [u1, u2] ∧ RelV v u1 ∧ RelV w u2 := by
    cases r1 with
    | cons p q =>
      cases q with
      | cons p' q' =>
        cases q'
        exact ⟨_, _, rfl, p, p'⟩
  refine wpAny_newObj_type ?_ (by show 2 ≤ sizeLine; decide)
  have I2 : Inv X pins σ H1 { s1 with heap := s1.heap.push { cls := .type "tuple", data := .seq [u1, u2].toArray } } := I1.kept (t' := s1.toks) fun b o e => Heap.get?_push_of_some _ e
  rw [hw]
  refine wpAny_bind (wpAny_pure ?_)
  show wpAny (model X.prog X.w) X.A (do rule "assign.swapped-stores"; let items ← unpackItems (.ref s1.heap.objs.size) 2 none; assignInOrder [fun v => bindName X.env y v, fun v => bindName X.env x v] items.reverse; pure Flow.next) _ _ _
  refine wpAny_bind (wpAny_rule (wpAny_bind (unpackItems_tuple (items := #[u1, u2]) (I.ok.hd hc) (IsTup.new s1.heap _) fun h' hx' => ?_)))
  have I3 := I2.kept (h' := h') (t' := s1.toks) fun b o e => hx' b o (Nat.ne_of_lt (Heap.lt_size e)) e
  show wpAny _ _ (assignInOrder [fun v => bindName X.env y v, fun v => bindName X.env x v] [u2, u1] >>= fun _ => pure Flow.next) _ _ _
  refine wpAny_bind (assignInOrder_cons (wpAny_bindName (store_ok I3 hN hj (.inl hy) rw' (fun s2 I4 => ?_) (.inr hy))))
  refine assignInOrder_cons (wpAny_bindName (store_ok I4 hN hi (.inl hx) rv (fun s3 I5 => assignInOrder_nil (wpAny_pure ?_)) (.inr hx)))
  rw [List.set_comm _ _ (Ne.symm hij)] at I5
  exact ⟨_, H1, I5, q1⟩
/-- name op= e -/
def tAug (i : Nat) (te : TE) (ti : TIp) : TS := fun D σ H => ∃ x, σ[i]? = some (some x) ∧ te σ H fun y H1 => ti x y H1 fun z H2 => D.nx (σ.set i (some z)) H2
theorem ps_aug {i : Nat} {x : Str} {e : Expr} {te : TE} {op : Operator} {ti : TIp} {pos' : Pos} (hN : X.N.Nodup) (hi : X.N[i]? = some x) (hx : Loc X.env.scope x) (he : PE X e te) (ho : PIp X op ti) (hf : X.fn x = true ∨ X.env.scope.names.lookup x = some .local := by first | exact .inl rfl | exact .inr rfl | assumption) :
    PS X (.AugAssign (.Name x pos') op e pos) (tAug i te ti) := by
  intro pins s σ H D I h
  obtain ⟨v, e1, h⟩ := h
  obtain ⟨m, hn, hl⟩ := I.loc
  have vis : Vis X.env.scope x := by rcases hx with k | k; exact .inl k; exact .inr (.inl k)
  obtain ⟨u, r, l⟩ := hl i x v hi e1 vis
  refine wpAny_AugAssign_Name ?_
  have go : wpAny (model X.prog X.w) X.A (eval e X.env) (fun w s₂ => wpAny (model X.prog X.w) X.A (inplaceOp op u w) (fun r s₃ => wpAny (model X.prog X.w) X.A (storeName X.env x r) (fun _ => SP X pins D .next) X.xe s₃) X.xe s₂) X.xe s := by
    refine thn (he pins s σ H _ I h) fun w s1 ⟨y, H1, I1, r1, q1⟩ => ?_
    refine thn (ho pins s1 σ H1 v y u w _ I1 r r1 q1) fun z s2 ⟨zv, H2, I2, r2, q2⟩ => ?_
    exact store_ok I2 hN hi hx r2 (fun s3 I3 => ⟨_, H2, I3, q2⟩) hf
  rcases l with ⟨hk, hm⟩ | ⟨hk, c, hc, hcell⟩
  · exact wpAny_loadName_local I.ok.kind hk hn hm go
  · rcases hk with hk | hk
    · exact wpAny_loadName_cell I.ok.kind hk hc hcell go
    · rcases hx with k | k
      · have : X.env.scope.names.lookup x = some .free := hk
        rw [k] at this; cases this
      · have : X.env.scope.names.lookup x = some .free := hk
        rw [k] at this; cases this
/-- o[i] op= e -/
def tAugS (to ti te : TE) (tget : V → V → Hp → VK → Prop) (tip : TIp) (tset : TSet) : TS := fun D σ H => to σ H fun o H1 => ti σ H1 fun i H2 => tget o i H2 fun x H3 => te σ H3 fun y H4 => tip x y H4 fun z H5 => tset o i z H5 fun H6 => D.nx σ H6
/-- o[i], by values -/
def PGet (X : Cx) (t : V → V → Hp → VK → Prop) : Prop :=
  ∀ (pins : List (Addr × Obj)) (s : Shared) (σ : St) (H : Hp) (o i : V) (ov iv : Value) (Q : VK), Inv X pins σ H s → RelV o ov → RelV i iv → t o i H Q →
    wpAny (model X.prog X.w) X.A (getItem ov iv) (EP X pins σ Q) X.xe s
theorem ps_augS {o i e : Expr} {to ti te : TE} {tget : V → V → Hp → VK → Prop} {tip : TIp} {tset : TSet} {op : Operator} {tpos : Pos} (ho : PE X o to) (hi : PE X i ti) (hg : PGet X tget) (he : PE X e te) (hp : PIp X op tip) (hs : PSet X tset)
    (ha : ∀ ov iv new, augStore i ov iv new = (do holding [new, ov, iv] (setItem ov iv new); release [new, ov, iv] []; pure .next) := by intros; rfl) : PS X (.AugAssign (.Subscript o i tpos) op e pos) (tAugS to ti te tget tip tset) := by
  intro pins s σ H D I h
  refine wpAny_AugAssign_SubscriptAny (thn (ho pins s σ H _ I h) fun ov s1 ⟨x1, H1, I1, r1, q1⟩ => ?_) ha
  refine thn (hi pins s1 σ H1 _ I1 q1) fun iv s2 ⟨x2, H2, I2, r2, q2⟩ => ?_
  refine thn (hg pins s2 σ H2 x1 x2 ov iv _ I2 r1 r2 q2) fun old s3 ⟨x3, H3, I3, r3, q3⟩ => ?_
  refine thn (he pins s3 σ H3 _ I3 q3) fun v s4 ⟨x4, H4, I4, r4, q4⟩ => ?_
  refine thn (hp pins s4 σ H4 x3 x4 old v _ I4 r3 r4 q4) fun new s5 ⟨x5, H5, I5, r5, q5⟩ => ?_
  exact thn (hs pins s5 σ H5 x1 x2 x5 ov iv new _ I5 r1 r2 r5 q5) fun _ s6 ⟨H6, I6, q6⟩ => ⟨σ, H6, I6, q6⟩
/-- ints -/
def ipI (f : Int → Int → Int) : TIp := fun x y H Q => ∃ i j, x = .int i ∧ y = .int j ∧ Q (.int (f i j)) H
theorem ip_add : PIp X .Add (ipI fun i j => i + j) := by
  intro pins s σ H x y v u Q I r1 r2 h
  obtain ⟨i, j, e1, e2, q⟩ := h
  subst e1; subst e2
  obtain ⟨t, rfl⟩ := r1
  obtain ⟨t', rfl⟩ := r2
  exact iadd_int ⟨.int _, H, I.tok _, ⟨_, rfl⟩, q⟩
theorem ip_sub : PIp X .Sub (ipI fun i j => i - j) := by
  intro pins s σ H x y v u Q I r1 r2 h
  obtain ⟨i, j, e1, e2, q⟩ := h
  subst e1; subst e2
  obtain ⟨t, rfl⟩ := r1
  obtain ⟨t', rfl⟩ := r2
  exact isub_int ⟨.int _, H, I.tok _, ⟨_, rfl⟩, q⟩
end

/-! ### while -/
section
variable {X : Cx} {pos : Pos}
/-- the invariant W with its measure -/
def tWhile (c : TT) (tb : TS) : TS := fun D σ H => ∃ W : Nat → St → Hp → Prop, (∃ m, W m σ H) ∧ ∀ m σ H, W m σ H →
  c σ H fun b H1 => if b = true then ∃ N : St → Hp → Prop, (∀ σ' H', N σ' H' → ∃ m', m' < m ∧ W m' σ' H') ∧ tb { D with nx := N, ct := N, bk := D.nx } σ H1 else D.nx σ H1
theorem ps_while {c : Expr} {body : List Stmt} {tc : TT} {tb : TS} (hp : PassesOwn (model X.prog X.w) X.A X.env X.xe) (hc : PT X c tc) (hb : PSs X body tb) : PS X (.While c body [] pos) (tWhile tc tb) := by
  intro pins s σ H D I h
  obtain ⟨W, ⟨m0, w0⟩, turn⟩ := h
  refine wpAny_While (codeAny_whileLoop (fun n s' => ∃ σ' H', Inv X pins σ' H' s' ∧ W n σ' H') ?_ m0 ⟨σ, H, I, w0⟩)
  rintro n s1 ⟨σ1, H1, I1, w1⟩
  refine wpAny_passesOwn hp (thn (hc pins s1 σ1 H1 _ I1 (turn n σ1 H1 w1)) fun b s2 ⟨H2, I2, q2⟩ => ?_)
  cases b with
  | true =>
    obtain ⟨N, hN, q2⟩ := q2
    rw [if_pos rfl]
    refine wpAny_passesOwn hp (thn (hb pins s2 σ1 H2 _ I2 q2) fun f s3 q3 => ?_)
    cases f with
    | next =>
      obtain ⟨σ3, H3, I3, n3⟩ := q3
      obtain ⟨m', hm, w3⟩ := hN σ3 H3 n3
      exact ⟨m', hm, σ3, H3, I3, w3⟩
    | cont =>
      obtain ⟨σ3, H3, I3, n3⟩ := q3
      obtain ⟨m', hm, w3⟩ := hN σ3 H3 n3
      exact ⟨m', hm, σ3, H3, I3, w3⟩
    | brk => exact q3
    | ret v => exact q3
  | false =>
    rw [if_neg Bool.false_ne_true]
    exact wpAny_execs_nil ⟨σ1, H2, I2, q2⟩
end

/-! ### what a loop or a comprehension walks -/
/-- at turn i: it yields x (the heap may grow), or it stops -/
structure It where
  go : Nat → Hp → Prop
  yld : Nat → Hp → V → Hp → Prop
  stop : Nat → Hp → Prop
/-- the iterator's own objects may turn: they are not the frame's, not pinned, younger than the entry (or a comprehension's own) -/
def FpOk (X : Cx) (pins : List (Addr × Obj)) (H : Hp) (b : Addr) : Prop :=
  H b = none ∧ b ≠ X.env.locals ∧ b ∉ X.fs ∧ (b ∈ X.ex ∨ X.s₀.heap.objs.size ≤ b) ∧ (∀ x c, X.env.cells.lookup x = some c → c ≠ b) ∧ ∀ p ∈ X.pn ++ pins, p.1 ≠ b
theorem Inv.fpOk {X : Cx} {pins : List (Addr × Obj)} {σ : St} {H H' : Hp} {s : Shared} {b : Addr} (I : Inv X pins σ H s) (hb : s.heap.objs.size ≤ b) (hn : H' b = none) : FpOk X pins H' b := by
  refine ⟨hn, Nat.ne_of_gt (Nat.lt_of_lt_of_le I.lt hb), I.nofs hb, .inr (Nat.le_trans I.sz hb), fun x c e z => ?_, fun p hp z => ?_⟩
  · obtain ⟨v, q⟩ := I.cell x c e
    exact absurd (Nat.lt_of_lt_of_le q.lt (by rw [z]; exact hb)) (Nat.lt_irrefl _)
  · exact absurd (Nat.lt_of_lt_of_le (Heap.lt_size (I.pin p hp).1) (by rw [z]; exact hb)) (Nat.lt_irrefl _)
structure Turn (P : Program) (w : World) (K : PySem.W.Frag) (tg : Expr) (J : It) (fp : List Addr) (it : Addr) (tn : Nat → Heap → Prop) : Prop where
  mem : it ∈ fp
  obj : ∀ i h, tn i h → ∀ b ∈ fp, ∃ o, h.get? b = some o ∧ ∀ v, o.data ≠ .cell v
  keep : ∀ i h h', tn i h → (∀ b ∈ fp, ∀ o, h.get? b = some o → h'.get? b = some o) → tn i h'
  item : ∀ (X : Cx), X.prog = P → X.w = w → X.K = K → X.calm = true → ∀ (i : Nat) (pins : List (Addr × Obj)) (s : Shared) (σ : St) (H : Hp) (E : Value → Shared → Prop), Inv X pins σ H s → (∀ b ∈ fp, FpOk X pins H b) → tn i s.heap → J.go i H →
    wpAny (model P w) X.A (pyNext (.ref it)) (fun r s1 => ∃ u, r = some u ∧
      wpAny (model P w) X.A (letOwnedTupleGo tg (.ref it) u) (fun _ s2 => ∃ x H', Inv X pins σ H' s2 ∧ RelV x u ∧ J.yld i H x H' ∧ tn (i + 1) s2.heap ∧ ∀ b ∈ fp, H' b = none) E s1) E s
  done : ∀ (X : Cx), X.prog = P → X.w = w → X.K = K → X.calm = true → ∀ (i : Nat) (pins : List (Addr × Obj)) (s : Shared) (σ : St) (H : Hp) (E : Value → Shared → Prop), Inv X pins σ H s → (∀ b ∈ fp, FpOk X pins H b) → tn i s.heap → J.stop i H →
    wpAny (model P w) X.A (pyNext (.ref it)) (fun r s1 => r = none ∧ Inv X pins σ H s1) E s
  self : ∀ (A : Around) (i : Nat) (s : Shared) (Q : Value → Shared → Prop) (E : Value → Shared → Prop), tn i s.heap → Q (.ref it) s → wpAny (model P w) A (pyIter (.ref it)) Q E s
abbrev TI := St → Hp → (It → Hp → Prop) → Prop
/-- an iterator has come -/
def PIE (X : Cx) (pins : List (Addr × Obj)) (σ : St) (tg : Expr) (R : It → Hp → Prop) (itv : Value) (s2 : Shared) : Prop :=
  ∃ (it : Addr) (fp : List Addr) (tn : Nat → Heap → Prop) (J : It) (H' : Hp), itv = .ref it ∧ Inv X pins σ H' s2 ∧ Turn X.prog X.w X.K tg J fp it tn ∧ tn 0 s2.heap ∧ (∀ b ∈ fp, FpOk X pins H' b) ∧ R J H'
def PI (X : Cx) (tg iter : Expr) (wi : TI) : Prop :=
  ∀ (pins : List (Addr × Obj)) (s : Shared) (σ : St) (H : Hp) (R : It → Hp → Prop), Inv X pins σ H s → wi σ H R →
    wpAny (model X.prog X.w) X.A (eval iter X.env) (fun v s1 => wpAny (model X.prog X.w) X.A (pyIter v) (PIE X pins σ tg R) X.xe s1) X.xe s

/-- the step ahead of the store is nothing for an iterator that keeps no tuple -/
theorem go_of {M : Model} {A : Around} {E : Value → Shared → Prop} {s : Shared} {tg : Expr} {it : Addr} {u : Value} {o : Obj} {n : String} {vs : Array Value} {Q : Unit → Shared → Prop} (ho : s.heap.get? it = some o) (hc : o.cls = .type n) (hd : o.data = .fields vs)
    (hn : ["enumerate", "zip", "dict_itemiterator", "dict_reverseitemiterator", "odict_iterator", "itertools.zip_longest", "itertools.pairwise"].contains n = false) (hQ : Q () s) : wpAny M A (letOwnedTupleGo tg (.ref it) u) Q E s := by
  unfold letOwnedTupleGo
  cases tg <;> first
    | exact wpAny_pure hQ
    | (cases u <;> first
        | exact wpAny_pure hQ
        | (refine wpAny_bind (wpAny_load ho ?_)
           rw [hc, hd]
           show wpAny M A (if (["enumerate", "zip", "dict_itemiterator", "dict_reverseitemiterator", "odict_iterator", "itertools.zip_longest", "itertools.pairwise"].contains n && vs[0]? == some (rawInt _)) = true then _ else _) Q E s
           rw [if_neg (by intro h; rw [hn, Bool.false_and] at h; cases h)]
           exact wpAny_pure hQ))

/-- the list at a, as it stands at each turn (a loop may append to it) -/
def Itl (K : PySem.W.Frag) (a : Addr) : It :=
  ⟨fun i H => ∃ xs x, SqL K H a xs ∧ xs[i]? = some x, fun i H x H' => H' = H ∧ ∀ xs, SqL K H a xs → xs[i]? = some x, fun i H => ∃ xs, SqL K H a xs ∧ xs.length ≤ i⟩
def Itt (K : PySem.W.Frag) (a : Addr) : It :=
  ⟨fun i H => ∃ xs x, SqT K H a xs ∧ xs[i]? = some x, fun i H x H' => H' = H ∧ ∀ xs, SqT K H a xs → xs[i]? = some x, fun i H => ∃ xs, SqT K H a xs ∧ xs.length ≤ i⟩
/-- lo, lo + 1, .. (n of them) -/
def Itr (lo : Int) (n : Nat) : It := ⟨fun i _ => i < n, fun i H x H' => H' = H ∧ x = .int (lo + i), fun i _ => n ≤ i⟩
theorem turn_list {P : Program} {w : World} {K : PySem.W.Frag} {tg : Expr} (a it : Addr) : Turn P w K tg (Itl K a) [it] it (fun i h => h.IsListIter it a i) where
  mem := by simp
  obj := fun i h st b hb => by
    have e : b = it := by simpa using hb
    subst e
    obtain ⟨o, e, c, d⟩ := st
    exact ⟨o, e, fun v z => by rw [d] at z; cases z⟩
  keep := fun i h h' st k => st.at fun o e => k it (by simp) o e
  item := by
    intro X hP hw hK hc i pins s σ H E I hf st hg
    subst hP hw hK
    obtain ⟨xs, x, hq, hx⟩ := hg
    obtain ⟨its, rv, p, hz⟩ := I.list hq
    obtain ⟨u, hu, ru⟩ := rv.get hx
    obtain ⟨f0, f1, f2, f3, f4, f5⟩ := hf it (by simp)
    refine wpAny_pyNext_list_item st p.isList (x := u) (by simpa using hu) fun h' st' sb => ?_
    have I1 : Inv X pins σ H { s with heap := h' } := I.turned (t' := s.toks) (fun b o hb e => (sb.2 b hb).trans e) f0 f1 f3 f4 f5
    obtain ⟨o, e, c, d⟩ := id st'
    exact ⟨u, rfl, go_of (s := { s with heap := h' }) e c d (by decide) ⟨x, H, I1, ru, ⟨rfl, fun ys hy => by rw [I.list_inj hy hq]; exact hx⟩, st', fun b hb => (hf b hb).1⟩⟩
  done := by
    intro X hP hw hK hc i pins s σ H E I hf st hg
    subst hP hw hK
    obtain ⟨xs, hq, hx⟩ := hg
    obtain ⟨its, rv, p, hz⟩ := I.list hq
    obtain ⟨f0, f1, f2, f3, f4, f5⟩ := hf it (by simp)
    have hl := rv.length
    exact wpAny_pyNext_list_end (I.ok.hd hc) st p.isList (by simp; omega) fun h' eb => ⟨rfl, I.turned (t' := s.toks) (fun b o hb e => eb b o hb e) f0 f1 f3 f4 f5⟩
  self := fun _ _ _ _ _ st h => wpAny_pyIter_listiter st h
theorem turn_tuple {P : Program} {w : World} {K : PySem.W.Frag} {tg : Expr} (a it : Addr) : Turn P w K tg (Itt K a) [it] it (fun i h => h.IsTupleIter it a i) where
  mem := by simp
  obj := fun i h st b hb => by
    have e : b = it := by simpa using hb
    subst e
    obtain ⟨o, e, c, d⟩ := st
    exact ⟨o, e, fun v z => by rw [d] at z; cases z⟩
  keep := fun i h h' st k => st.at fun o e => k it (by simp) o e
  item := by
    intro X hP hw hK hc i pins s σ H E I hf st hg
    subst hP hw hK
    obtain ⟨xs, x, hq, hx⟩ := hg
    obtain ⟨its, rv, p, hz⟩ := I.tuple hq
    obtain ⟨u, hu, ru⟩ := rv.get hx
    obtain ⟨f0, f1, f2, f3, f4, f5⟩ := hf it (by simp)
    refine wpAny_pyNext_tuple_item st (show s.heap.IsTuple a its.toArray from p) (x := u) (by simpa using hu) fun h' st' sb => ?_
    have I1 : Inv X pins σ H { s with heap := h' } := I.turned (t' := s.toks) (fun b o hb e => (sb.2 b hb).trans e) f0 f1 f3 f4 f5
    obtain ⟨o, e, c, d⟩ := id st'
    exact ⟨u, rfl, go_of (s := { s with heap := h' }) e c d (by decide) ⟨x, H, I1, ru, ⟨rfl, fun ys hy => by rw [I.tuple_inj hy hq]; exact hx⟩, st', fun b hb => (hf b hb).1⟩⟩
  done := by
    intro X hP hw hK hc i pins s σ H E I hf st hg
    subst hP hw hK
    obtain ⟨xs, hq, hx⟩ := hg
    obtain ⟨its, rv, p, hz⟩ := I.tuple hq
    obtain ⟨f0, f1, f2, f3, f4, f5⟩ := hf it (by simp)
    have hl := rv.length
    exact wpAny_pyNext_tuple_end (I.ok.hd hc) st (show s.heap.IsTuple a its.toArray from p) (by simp; omega) fun h' eb => ⟨rfl, I.turned (t' := s.toks) (fun b o hb e => eb b o hb e) f0 f1 f3 f4 f5⟩
  self := fun _ _ _ _ _ st h => wpAny_pyIter_tupleiter st h
theorem turn_range {P : Program} {w : World} {K : PySem.W.Frag} {tg : Expr} (it : Addr) (lo : Int) (n : Nat) : Turn P w K tg (Itr lo n) [it] it (fun i h => IsRangeIter h it (lo + (i : Nat) * 1) ((n : Int) - (i : Nat)) 1) where
  mem := by simp
  obj := fun i h st b hb => by
    have e : b = it := by simpa using hb
    subst e
    exact ⟨_, st, fun v z => by
      have z' : Data.fields _ = Data.cell v := z
      cases z'⟩
  keep := fun i h h' st k => k it (by simp) _ st
  item := by
    intro X hP hw hK hc i pins s σ H E I hf st hg
    subst hP hw hK
    obtain ⟨f0, f1, f2, f3, f4, f5⟩ := hf it (by simp)
    have W := Walks.range (prog := X.prog) (w := X.w) (I.ok.hd hc) it lo 1 n
    refine W.item i s _ _ hg st fun v h' tk hv st' kk => ?_
    obtain ⟨t, rfl⟩ := hv
    have I1 : Inv X pins σ H { s with heap := h', toks := tk } := I.turned (fun b o hb e => kk b o (by simpa using hb) e) f0 f1 f3 f4 f5
    refine ⟨_, rfl, go_of (s := { s with heap := h', toks := tk }) (n := "range_iterator") st' rfl rfl (by decide) ⟨.int (lo + i), H, I1, ⟨t, ?_⟩, ⟨rfl, rfl⟩, st', fun b hb => (hf b hb).1⟩⟩
    rw [Int.mul_one]
  done := by
    intro X hP hw hK hc i pins s σ H E I hf st hg
    subst hP hw hK
    obtain ⟨f0, f1, f2, f3, f4, f5⟩ := hf it (by simp)
    exact wpAny_pyNext_range_end (I.ok.hd hc) st (by have : n ≤ i := hg; omega) fun h' eb => ⟨rfl, I.turned (t' := s.toks) (fun b o hb e => eb b o hb e) f0 f1 f3 f4 f5⟩
  self := fun _ _ _ _ _ st h => wpAny_pyIter_rangeiter st h
end L2

namespace L2
open PySem PySem.Spec PyProof.Rows
section
variable {X : Cx} {tg : Expr}
def iList (K : PySem.W.Frag) (tl : TE) : TI := fun σ H R => tl σ H fun x H1 => ∃ a, x = .ref a ∧ (∃ xs, SqL K H1 a xs) ∧ R (Itl K a) H1
def iTup (K : PySem.W.Frag) (tl : TE) : TI := fun σ H R => tl σ H fun x H1 => ∃ a, x = .ref a ∧ (∃ xs, SqT K H1 a xs) ∧ R (Itt K a) H1
theorem pi_list {l : Expr} {tl : TE} (hl : PE X l tl) : PI X tg l (iList X.K tl) := by
  intro pins s σ H R I h
  refine thn (hl pins s σ H _ I h) fun v s1 ⟨x, H1, I1, r1, q1⟩ => ?_
  obtain ⟨a, e, ⟨xs, hq⟩, q⟩ := q1
  subst e
  cases r1
  obtain ⟨its, rv, p, hz⟩ := I1.list hq
  refine wpAny_pyIter_list p.isList ?_
  refine ⟨s1.heap.objs.size, [s1.heap.objs.size], _, _, H1, rfl, I1.kept (t' := s1.toks) fun b o e => Heap.get?_push_of_some _ e, turn_list a _, ⟨_, Heap.get?_push_size _ rfl, rfl, rfl⟩, fun b hb => ?_, q⟩
  have e : b = s1.heap.objs.size := by simpa using hb
  subst e
  exact I1.fpOk (Nat.le_refl _) (I1.hok.fresh (Nat.le_refl _))
theorem pi_tup {l : Expr} {tl : TE} (hl : PE X l tl) : PI X tg l (iTup X.K tl) := by
  intro pins s σ H R I h
  refine thn (hl pins s σ H _ I h) fun v s1 ⟨x, H1, I1, r1, q1⟩ => ?_
  obtain ⟨a, e, ⟨xs, hq⟩, q⟩ := q1
  subst e
  cases r1
  obtain ⟨its, rv, p, hz⟩ := I1.tuple hq
  refine wpAny_pyIter_tuple (show s1.heap.IsTuple a its.toArray from p) ?_
  refine ⟨s1.heap.objs.size, [s1.heap.objs.size], _, _, H1, rfl, I1.kept (t' := s1.toks) fun b o e => Heap.get?_push_of_some _ e, turn_tuple a _, ⟨_, Heap.get?_push_size _ rfl, rfl, rfl⟩, fun b hb => ?_, q⟩
  have e : b = s1.heap.objs.size := by simpa using hb
  subst e
  exact I1.fpOk (Nat.le_refl _) (I1.hok.fresh (Nat.le_refl _))
/-- a range object just made, walked -/
theorem range_it {pins : List (Addr × Obj)} {σ : St} {H : Hp} {s : Shared} {R : It → Hp → Prop} {E : Value → Shared → Prop} {lo hi : Int} {t u v : Tok} {tk : Nat} (I : Inv X pins σ H s) (h1 : -(2 ^ 62) ≤ lo) (h2 : lo < 2 ^ 62) (h3 : -(2 ^ 62) ≤ hi) (h4 : hi < 2 ^ 62)
    (q : R (Itr lo (hi - lo).toNat) H) : wpAny (model X.prog X.w) X.A (pyIter (.ref s.heap.objs.size)) (PIE X pins σ tg R) E { s with heap := s.heap.push { cls := .type "range", data := .fields #[.int lo t, .int hi u, .int 1 v] }, toks := tk } := by
  refine wpAny_pyIter_range (IsRange.new ..) (small_one h1 h2 h3 h4) ?_
  have I1 : Inv X pins σ H { s with heap := s.heap.push { cls := .type "range", data := .fields #[.int lo t, .int hi u, .int 1 v] }, toks := tk } := I.kept fun b o e => Heap.get?_push_of_some _ e
  refine ⟨(s.heap.push { cls := .type "range", data := .fields #[.int lo t, .int hi u, .int 1 v] }).objs.size, [(s.heap.push { cls := .type "range", data := .fields #[.int lo t, .int hi u, .int 1 v] }).objs.size], _, _, H, rfl,
    I1.kept (t' := tk) fun b o e => Heap.get?_push_of_some _ e, turn_range _ lo (hi - lo).toNat, ?_, fun b hb => ?_, q⟩
  · have e1 : lo + ((0 : Nat) : Int) * 1 = lo := by simp
    have e2 : (((hi - lo).toNat : Nat) : Int) - ((0 : Nat) : Int) = Builtin.Range.rangeSize lo hi 1 := by rw [rangeSize_one]; split <;> omega
    show IsRangeIter _ _ (lo + ((0 : Nat) : Int) * 1) ((((hi - lo).toNat : Nat) : Int) - ((0 : Nat) : Int)) 1
    rw [e1, e2]
    exact Heap.get?_push_size _ rfl
  · have e : b = (s.heap.push { cls := .type "range", data := .fields #[.int lo t, .int hi u, .int 1 v] }).objs.size := by simpa using hb
    subst e
    exact I1.fpOk (Nat.le_refl _) (I1.hok.fresh (Nat.le_refl _))
def iRng1 (ta : TA) : TI := fun σ H R => ta σ H fun vs H1 => ∃ j : Int, vs = [.int j] ∧ -(2 ^ 62) ≤ j ∧ j < 2 ^ 62 ∧ R (Itr 0 j.toNat) H1
def iRng2 (ta : TA) : TI := fun σ H R => ta σ H fun vs H1 => ∃ i j : Int, vs = [.int i, .int j] ∧ (-(2 ^ 62) ≤ i ∧ i < 2 ^ 62 ∧ -(2 ^ 62) ≤ j ∧ j < 2 ^ 62) ∧ R (Itr i (j - i).toNat) H1
theorem pi_range1 {a : Expr} {ta : TA} {p pos : Pos} (hg : Gl X "range") (hm : X.mg "range" = none) (ha : PA X [a] ta) (hs : starEach [a] X.env = [(false, eval a X.env)] := by rfl) : PI X tg (.Call (.Name "range" p) [a] [] pos) (iRng1 ta) := by
  intro pins s σ H R I h
  refine Call_ (ld_blt I hg hm boot_range (PyProof.Rows.callWith_type1 (thn (ha pos pins s σ H _ I h) fun us s1 ⟨vs, H1, I1, r1, q1⟩ => ?_) hs rfl))
  obtain ⟨j, e, q1, q2, q⟩ := q1
  subst e
  cases r1 with
  | cons r rr =>
    cases rr
    obtain ⟨t, rfl⟩ := r
    exact call_range_1 (range_it I1 (by omega) (by omega) q1 q2 (by simpa using q))
theorem pi_range2 {a b : Expr} {ta : TA} {p pos : Pos} (hg : Gl X "range") (hm : X.mg "range" = none) (ha : PA X [a, b] ta) (hs : starEach [a, b] X.env = [(false, eval a X.env), (false, eval b X.env)] := by rfl) (hs2 : starEach [b] X.env = [(false, eval b X.env)] := by rfl) :
    PI X tg (.Call (.Name "range" p) [a, b] [] pos) (iRng2 ta) := by
  intro pins s σ H R I h
  refine Call_ (ld_blt I hg hm boot_range (PyProof.Rows.callWith_type1 (thn (ha pos pins s σ H _ I h) fun us s1 ⟨vs, H1, I1, r1, q1⟩ => ?_) (by rw [hs, hs2]) (by rw [hs2]; rfl)))
  obtain ⟨i, j, e, ⟨q1, q2, q3, q4⟩, q⟩ := q1
  subst e
  cases r1 with
  | cons r rr =>
    cases rr with
    | cons r' rr =>
      cases rr
      obtain ⟨t, rfl⟩ := r
      obtain ⟨t', rfl⟩ := r'
      exact call_range_2 (range_it I1 q1 q2 q3 q4 q)

/-! ### for -/
/-- W: the invariant by the turn and a measure; N: what the body is to reach -/
def tFor (wi : TI) (g : TG) (tb : TS) : TS := fun D σ H => wi σ H fun J H1 => ∃ W : Nat → Nat → St → Hp → Prop, (∃ m, W 0 m σ H1) ∧ ∀ i m σ H, W i m σ H →
  (J.stop i H ∧ D.nx σ H) ∨ (J.go i H ∧ ∃ N : St → Hp → Prop, (∀ σ' H', N σ' H' → ∃ m', m' < m ∧ W (i + 1) m' σ' H') ∧ ∀ x H', J.yld i H x H' → g x σ H' fun σ2 H2 => tb { D with nx := N, ct := N, bk := D.nx } σ2 H2)
/-- the records at fp as they stand -/
def pinsAt (fp : List Addr) (h : Heap) : List (Addr × Obj) := fp.filterMap fun b => (h.get? b).map fun o => (b, o)
theorem mem_pinsAt {fp : List Addr} {h : Heap} {b : Addr} {o : Obj} (hb : b ∈ fp) (e : h.get? b = some o) : (b, o) ∈ pinsAt fp h := List.mem_filterMap.mpr ⟨b, hb, by rw [e]; rfl⟩
theorem of_pinsAt {fp : List Addr} {h : Heap} {p : Addr × Obj} (hp : p ∈ pinsAt fp h) : p.1 ∈ fp ∧ h.get? p.1 = some p.2 := by
  obtain ⟨b, hb, e⟩ := List.mem_filterMap.mp hp
  cases q : h.get? b with
  | none => rw [q] at e; cases e
  | some o =>
    rw [q] at e
    have e' : (b, o) = p := Option.some.inj e
    subst e'
    exact ⟨hb, q⟩
theorem Inv.pinned {pins : List (Addr × Obj)} {σ : St} {H : Hp} {s : Shared} {fp : List Addr} (I : Inv X pins σ H s) (hf : ∀ b ∈ fp, FpOk X pins H b) (ho : ∀ b ∈ fp, ∃ o, s.heap.get? b = some o ∧ ∀ v, o.data ≠ .cell v) : Inv X (pins ++ pinsAt fp s.heap) σ H s :=
  I.pins_of fun p hp => (List.mem_append.mp hp).elim (fun z => I.pin p (List.mem_append_right _ z)) fun z => by
    obtain ⟨hb, e⟩ := of_pinsAt z
    obtain ⟨f0, f1, f2, _⟩ := hf p.1 hb
    obtain ⟨o, e', d⟩ := ho p.1 hb
    rw [e] at e'; cases e'
    exact ⟨e, f0, f1, f2, d⟩
theorem Inv.unpinned {pins pl : List (Addr × Obj)} {σ : St} {H : Hp} {s : Shared} (I : Inv X (pins ++ pl) σ H s) : Inv X pins σ H s := I.pins_of fun p hp => I.pin p (List.mem_append_right _ (List.mem_append_left _ hp))
theorem ps_for {iter : Expr} {body : List Stmt} {wi : TI} {g : TG} {tb : TS} {pos : Pos} (hp : PassesOwn (model X.prog X.w) X.A X.env X.xe) (hc : X.calm = true) (hi : PI X tg iter wi) (hg : PG X tg g) (hb : PSs X body tb)
    (hs : ∀ x, foldedSetIterable iter X.env x = pure x := by intro _; rfl) : PS X (.For tg iter body [] pos) (tFor wi g tb) := by
  intro pins s σ H D I h
  refine wpAny_For (thn (hi pins s σ H _ I h) fun v s1 h1 => thn h1 fun itv s2 h2 => ?_) hs
  obtain ⟨it, fp, tn, J, H2, e, I2, T, st2, f2, W, ⟨m0, w0⟩, turn⟩ := h2
  subst e
  -- what stays true of the iterator's objects through the loop
  have stat : ∀ {H' : Hp}, (∀ b ∈ fp, H' b = none) → ∀ b ∈ fp, FpOk X pins H' b := fun hn b hb => ⟨hn b hb, (f2 b hb).2⟩
  refine codeAny_forLoop_any (fun n s' => ∃ i σ' H', Inv X pins σ' H' s' ∧ tn i s'.heap ∧ (∀ b ∈ fp, H' b = none) ∧ W i n σ' H') ?_ m0 ⟨0, σ, H2, I2, st2, fun b hb => (f2 b hb).1, w0⟩
  rintro n s3 ⟨i, σ3, H3, I3, st3, fr3, w3⟩
  rcases turn i n σ3 H3 w3 with ⟨stop, qn⟩ | ⟨go, N, hN, step⟩
  · refine wpAny_passesOwn hp (thn (T.done X rfl rfl rfl hc i pins s3 σ3 H3 X.xe I3 (stat fr3) st3 stop) fun r s4 ⟨hr, I4⟩ => ?_)
    subst hr
    exact wpAny_execs_nil ⟨σ3, H3, I4, qn⟩
  · refine wpAny_passesOwn hp (thn (T.item X rfl rfl rfl hc i pins s3 σ3 H3 X.xe I3 (stat fr3) st3 go) fun r s4 ⟨u, hr, h4⟩ => ?_)
    subst hr
    refine wpAny_passesOwn hp (thn h4 fun _ s5 ⟨x, H5, I5, r5, y5, st5, fr5⟩ => ?_)
    have I5' := I5.pinned (stat fr5) (T.obj _ _ st5)
    refine wpAny_passesOwn hp (thn (hg _ s5 σ3 H5 x u _ I5' r5 (step x H5 y5)) fun _ s6 ⟨σ6, H6, I6, q6⟩ => ?_)
    refine wpAny_passesOwn hp (thn (hb _ s6 σ6 H6 _ I6 q6) fun f s7 q7 => ?_)
    have again : ∀ {σ7 : St} {H7 : Hp}, Inv X (pins ++ pinsAt fp s5.heap) σ7 H7 s7 → N σ7 H7 → ∃ m, m < n ∧ ∃ i σ' H', Inv X pins σ' H' s7 ∧ tn i s7.heap ∧ (∀ b ∈ fp, H' b = none) ∧ W i m σ' H' := fun {σ7 H7} I7 n7 => by
      obtain ⟨m', hm, w7⟩ := hN σ7 H7 n7
      refine ⟨m', hm, i + 1, σ7, H7, I7.unpinned, T.keep _ _ _ st5 fun b hb o e => (I7.pin (b, o) (List.mem_append_right _ (List.mem_append_right _ (mem_pinsAt hb e)))).1, fun b hb => ?_, w7⟩
      obtain ⟨o, e, d⟩ := T.obj _ _ st5 b hb
      exact (I7.pin (b, o) (List.mem_append_right _ (List.mem_append_right _ (mem_pinsAt hb e)))).2.1
    cases f with
    | next => obtain ⟨σ7, H7, I7, n7⟩ := q7; exact again I7 n7
    | cont => obtain ⟨σ7, H7, I7, n7⟩ := q7; exact again I7 n7
    | brk => obtain ⟨σ7, H7, I7, q7⟩ := q7; exact ⟨σ7, H7, I7.unpinned, q7⟩
    | ret v => obtain ⟨x7, σ7, H7, I7, r7, q7⟩ := q7; exact ⟨x7, σ7, H7, I7.unpinned, r7, q7⟩
end

/-! ### the forms one uses -/
/-- over a list that the body leaves as it is -/
theorem for_list {K : PySem.W.Frag} {a : Addr} {xs : List V} {g : TG} {tb : TS} {D : Ends} {σ : St} {H : Hp} (Pv : Nat → St → Hp → Prop) (h0 : Pv 0 σ H) (hl : ∀ i σ H, i ≤ xs.length → Pv i σ H → SqL K H a xs)
    (hs : ∀ i x σ H, xs[i]? = some x → Pv i σ H → g x σ H fun σ2 H2 => tb { D with nx := Pv (i + 1), ct := Pv (i + 1), bk := D.nx } σ2 H2) (hd : ∀ σ H, Pv xs.length σ H → D.nx σ H) :
    ∃ W : Nat → Nat → St → Hp → Prop, (∃ m, W 0 m σ H) ∧ ∀ i m σ H, W i m σ H →
      ((Itl K a).stop i H ∧ D.nx σ H) ∨ ((Itl K a).go i H ∧ ∃ N : St → Hp → Prop, (∀ σ' H', N σ' H' → ∃ m', m' < m ∧ W (i + 1) m' σ' H') ∧ ∀ x H', (Itl K a).yld i H x H' → g x σ H' fun σ2 H2 => tb { D with nx := N, ct := N, bk := D.nx } σ2 H2) := by
  refine ⟨fun i m σ H => m = xs.length - i ∧ i ≤ xs.length ∧ Pv i σ H, ⟨xs.length, by simp, Nat.zero_le _, h0⟩, ?_⟩
  rintro i m σ H ⟨rfl, hi, p⟩
  have q := hl i σ H hi p
  by_cases hlt : i < xs.length
  · refine .inr ⟨⟨xs, xs[i], q, by simp [hlt]⟩, Pv (i + 1), fun σ' H' p' => ⟨xs.length - (i + 1), by omega, rfl, hlt, p'⟩, fun x H' y => ?_⟩
    obtain ⟨e, y⟩ := y
    subst e
    exact hs i x σ _ (y xs q) p
  · have e : i = xs.length := by omega
    subst e
    exact .inl ⟨⟨xs, q, Nat.le_refl _⟩, hd σ H p⟩
theorem for_tup {K : PySem.W.Frag} {a : Addr} {xs : List V} {g : TG} {tb : TS} {D : Ends} {σ : St} {H : Hp} (Pv : Nat → St → Hp → Prop) (h0 : Pv 0 σ H) (hl : ∀ i σ H, i ≤ xs.length → Pv i σ H → SqT K H a xs)
    (hs : ∀ i x σ H, xs[i]? = some x → Pv i σ H → g x σ H fun σ2 H2 => tb { D with nx := Pv (i + 1), ct := Pv (i + 1), bk := D.nx } σ2 H2) (hd : ∀ σ H, Pv xs.length σ H → D.nx σ H) :
    ∃ W : Nat → Nat → St → Hp → Prop, (∃ m, W 0 m σ H) ∧ ∀ i m σ H, W i m σ H →
      ((Itt K a).stop i H ∧ D.nx σ H) ∨ ((Itt K a).go i H ∧ ∃ N : St → Hp → Prop, (∀ σ' H', N σ' H' → ∃ m', m' < m ∧ W (i + 1) m' σ' H') ∧ ∀ x H', (Itt K a).yld i H x H' → g x σ H' fun σ2 H2 => tb { D with nx := N, ct := N, bk := D.nx } σ2 H2) := by
  refine ⟨fun i m σ H => m = xs.length - i ∧ i ≤ xs.length ∧ Pv i σ H, ⟨xs.length, by simp, Nat.zero_le _, h0⟩, ?_⟩
  rintro i m σ H ⟨rfl, hi, p⟩
  have q := hl i σ H hi p
  by_cases hlt : i < xs.length
  · refine .inr ⟨⟨xs, xs[i], q, by simp [hlt]⟩, Pv (i + 1), fun σ' H' p' => ⟨xs.length - (i + 1), by omega, rfl, hlt, p'⟩, fun x H' y => ?_⟩
    obtain ⟨e, y⟩ := y
    subst e
    exact hs i x σ _ (y xs q) p
  · have e : i = xs.length := by omega
    subst e
    exact .inl ⟨⟨xs, q, Nat.le_refl _⟩, hd σ H p⟩
theorem for_range {lo : Int} {n : Nat} {g : TG} {tb : TS} {D : Ends} {σ : St} {H : Hp} (Pv : Nat → St → Hp → Prop) (h0 : Pv 0 σ H)
    (hs : ∀ i σ H, i < n → Pv i σ H → g (.int (lo + i)) σ H fun σ2 H2 => tb { D with nx := Pv (i + 1), ct := Pv (i + 1), bk := D.nx } σ2 H2) (hd : ∀ σ H, Pv n σ H → D.nx σ H) :
    ∃ W : Nat → Nat → St → Hp → Prop, (∃ m, W 0 m σ H) ∧ ∀ i m σ H, W i m σ H →
      ((Itr lo n).stop i H ∧ D.nx σ H) ∨ ((Itr lo n).go i H ∧ ∃ N : St → Hp → Prop, (∀ σ' H', N σ' H' → ∃ m', m' < m ∧ W (i + 1) m' σ' H') ∧ ∀ x H', (Itr lo n).yld i H x H' → g x σ H' fun σ2 H2 => tb { D with nx := N, ct := N, bk := D.nx } σ2 H2) := by
  refine ⟨fun i m σ H => m = n - i ∧ i ≤ n ∧ Pv i σ H, ⟨n, by simp, Nat.zero_le _, h0⟩, ?_⟩
  rintro i m σ H ⟨rfl, hi, p⟩
  by_cases hlt : i < n
  · refine .inr ⟨hlt, Pv (i + 1), fun σ' H' p' => ⟨n - (i + 1), by omega, rfl, hlt, p'⟩, fun x H' y => ?_⟩
    obtain ⟨e, y⟩ := y
    subst e y
    exact hs i σ _ hlt p
  · have e : i = n := by omega
    subst e
    exact .inl ⟨Nat.le_refl _, hd σ H p⟩
/-- while, by a word and a measure of the state -/
theorem while_by {c : TT} {tb : TS} {D : Ends} {σ : St} {H : Hp} (Pv : St → Hp → Prop) (μ : St → Hp → Nat) (h0 : Pv σ H)
    (hs : ∀ σ H, Pv σ H → c σ H fun b H1 => if b = true then tb { D with nx := fun σ' H' => Pv σ' H' ∧ μ σ' H' < μ σ H, ct := fun σ' H' => Pv σ' H' ∧ μ σ' H' < μ σ H, bk := D.nx } σ H1 else D.nx σ H1)
    (mono : ∀ σ H Q Q', (∀ b H1, Q b H1 → Q' b H1) → c σ H Q → c σ H Q') : tWhile c tb D σ H := by
  refine ⟨fun m σ H => m = μ σ H ∧ Pv σ H, ⟨_, rfl, h0⟩, ?_⟩
  rintro m σ H ⟨rfl, p⟩
  refine mono σ H _ _ (fun b H1 q => ?_) (hs σ H p)
  cases b with
  | true => exact ⟨_, fun σ' H' ⟨p', l⟩ => ⟨_, l, rfl, p'⟩, q⟩
  | false => exact q
end L2

namespace L2
open PySem PySem.Spec PyProof.Rows

abbrev R2 := V → V → Hp → VK → Prop
/-- a two-place operation on values: f is binaryOp op, inplaceOp op or compareOp op -/
def OpR (X : Cx) (f : Value → Value → Sem Value) (r : R2) : Prop :=
  ∀ (pins : List (Addr × Obj)) (s : Shared) (σ : St) (H : Hp) (x y : V) (v u : Value) (Q : VK), Inv X pins σ H s → RelV x v → RelV y u → r x y H Q →
    wpAny (model X.prog X.w) X.A (f v u) (EP X pins σ Q) X.xe s
/-- a one-place operation -/
def UnR (X : Cx) (f : Value → Sem Value) (r : V → Hp → VK → Prop) : Prop :=
  ∀ (pins : List (Addr × Obj)) (s : Shared) (σ : St) (H : Hp) (x : V) (v : Value) (Q : VK), Inv X pins σ H s → RelV x v → r x H Q →
    wpAny (model X.prog X.w) X.A (f v) (EP X pins σ Q) X.xe s
/-- a call of a value that is known (a builtin, a type) with values -/
def CallR (X : Cx) (f : Value) (r : List V → Hp → VK → Prop) : Prop :=
  ∀ (pins : List (Addr × Obj)) (s : Shared) (σ : St) (H : Hp) (xs : List V) (us : List Value) (Q : VK), Inv X pins σ H s → Vals xs us → r xs H Q →
    wpAny (model X.prog X.w) X.A (call f us) (EP X pins σ Q) X.xe s
/-- a value's truth -/
def TruR (X : Cx) (r : V → Hp → (Bool → Hp → Prop) → Prop) : Prop :=
  ∀ (pins : List (Addr × Obj)) (s : Shared) (σ : St) (H : Hp) (x : V) (v : Value) (Q : Bool → Hp → Prop), Inv X pins σ H s → RelV x v → r x H Q →
    wpAny (model X.prog X.w) X.A (truthy v) (TP X pins σ Q) X.xe s

def tOp (r : R2) (ta tb : TE) : TE := fun σ H Q => ta σ H fun x H1 => tb σ H1 fun y H2 => r x y H2 Q
def tUn (r : V → Hp → VK → Prop) (ta : TE) : TE := fun σ H Q => ta σ H fun x H1 => r x H1 Q
/-- ints in, under C, and a value out -/
def rI (C : Int → Int → Prop) (g : Int → Int → V) : R2 := fun x y H Q => ∃ i j, x = .int i ∧ y = .int j ∧ C i j ∧ Q (g i j) H
def rI0 (g : Int → Int → V) : R2 := fun x y H Q => ∃ i j, x = .int i ∧ y = .int j ∧ Q (g i j) H
def rU (g : Int → V) : V → Hp → VK → Prop := fun x H Q => ∃ i, x = .int i ∧ Q (g i) H

section
variable {X : Cx} {a b c : Expr} {ta tb tc : TE} {pos : Pos}

theorem binT (ha : PE X a ta) (hb : PE X b tb) {pins : List (Addr × Obj)} {s : Shared} {σ : St} {H : Hp} {R : V → V → Hp → Prop} (I : Inv X pins σ H s)
    (h : ta σ H fun x H1 => tb σ H1 fun y H2 => R x y H2) {Q : Value → Shared → Prop} {f : Value → Value → Sem Value}
    (hf : ∀ v u s2 x y H2, Inv X pins σ H2 s2 → RelV x v → RelV y u → R x y H2 → wpAny (model X.prog X.w) X.A (f v u) Q X.xe s2) :
    wpAny (model X.prog X.w) X.A (eval a X.env) (fun v s₁ => wpAny (model X.prog X.w) X.A (eval b X.env) (fun u s₂ => wpAny (model X.prog X.w) X.A (f v u) Q X.xe s₂) X.xe s₁) X.xe s := by
  refine thn (ha pins s σ H _ I h) fun v s1 ⟨x, H1, I1, r1, q1⟩ => ?_
  refine thn (hb pins s1 σ H1 _ I1 q1) fun u s2 ⟨y, H2, I2, r2, q2⟩ => ?_
  exact hf v u s2 x y H2 I2 r1 r2 q2

theorem pe_op {op : Operator} {r : R2} (ho : OpR X (binaryOp op) r) (ha : PE X a ta) (hb : PE X b tb) : PE X (.BinOp a op b pos) (tOp r ta tb) := by
  intro pins s σ H Q I h
  exact wpAny_BinOp (binT ha hb I h fun v u s2 x y H2 I2 rx ry q => ho pins s2 σ H2 x y v u Q I2 rx ry q)
theorem pe_un {op : UnaryOp} {r : V → Hp → VK → Prop} (ho : UnR X (unaryOp op) r) (ha : PE X a ta) : PE X (.UnaryOp op a pos) (tUn r ta) := by
  intro pins s σ H Q I h
  exact UnaryOp_ (thn (ha pins s σ H _ I h) fun v s1 ⟨x, H1, I1, r1, q1⟩ => ho pins s1 σ H1 x v Q I1 r1 q1)
/-- a op= e at a name: the name's slot i -/
theorem augR {op : Operator} {r : R2} (ho : OpR X (inplaceOp op) r) {pins : List (Addr × Obj)} {s : Shared} {σ : St} {H : Hp} {x y : V} {v u : Value} {Q : VK} (I : Inv X pins σ H s)
    (rx : RelV x v) (ry : RelV y u) (q : r x y H Q) : wpAny (model X.prog X.w) X.A (inplaceOp op v u) (EP X pins σ Q) X.xe s := ho pins s σ H x y v u Q I rx ry q

/-! ### ints -/
theorem opI {f : Value → Value → Sem Value} {C : Int → Int → Prop} {g : Int → Int → Int}
    (rule : ∀ (i j : Int) (t u : Tok) (s : Shared) (Q : Value → Shared → Prop) (E : Value → Shared → Prop), C i j → Q (.int (g i j) s.toks) { s with toks := s.toks + 1 } → wpAny (model X.prog X.w) X.A (f (.int i t) (.int j u)) Q E s) :
    OpR X f (rI C fun i j => .int (g i j)) := by
  intro pins s σ H x y v u Q I rx ry h
  obtain ⟨i, j, rfl, rfl, hc, q⟩ := h
  obtain ⟨t, rfl⟩ := rx
  obtain ⟨t', rfl⟩ := ry
  exact rule i j t t' s _ _ hc ⟨.int (g i j), H, I.tok _, ⟨_, rfl⟩, q⟩
theorem opI0 {f : Value → Value → Sem Value} {g : Int → Int → Int}
    (rule : ∀ (i j : Int) (t u : Tok) (s : Shared) (Q : Value → Shared → Prop) (E : Value → Shared → Prop), Q (.int (g i j) s.toks) { s with toks := s.toks + 1 } → wpAny (model X.prog X.w) X.A (f (.int i t) (.int j u)) Q E s) :
    OpR X f (rI0 fun i j => .int (g i j)) := by
  intro pins s σ H x y v u Q I rx ry h
  obtain ⟨i, j, rfl, rfl, q⟩ := h
  obtain ⟨t, rfl⟩ := rx
  obtain ⟨t', rfl⟩ := ry
  exact rule i j t t' s _ _ ⟨.int (g i j), H, I.tok _, ⟨_, rfl⟩, q⟩
theorem opB0 {f : Value → Value → Sem Value} {g : Int → Int → Bool}
    (rule : ∀ (i j : Int) (t u : Tok) (s : Shared) (Q : Value → Shared → Prop) (E : Value → Shared → Prop), Q (.bool (g i j)) s → wpAny (model X.prog X.w) X.A (f (.int i t) (.int j u)) Q E s) :
    OpR X f (rI0 fun i j => .bl (g i j)) := by
  intro pins s σ H x y v u Q I rx ry h
  obtain ⟨i, j, rfl, rfl, q⟩ := h
  obtain ⟨t, rfl⟩ := rx
  obtain ⟨t', rfl⟩ := ry
  exact rule i j t t' s _ _ ⟨.bl (g i j), H, I, rfl, q⟩

def CDiv (i j : Int) : Prop := 0 < j ∧ j < 1073741824
def CDivN (i j : Int) : Prop := j ≠ 0 ∧ j.natAbs < 1073741824
def CPow (i j : Int) : Prop := 0 ≤ j ∧ j ≤ 1000000 ∧ i.natAbs < 2 ^ 64
def CMul (i j : Int) : Prop := (-(2 ^ 64) < i ∧ i < 2 ^ 64) ∨ (-(2 ^ 64) < j ∧ j < 2 ^ 64)
theorem CMul.ok {i j : Int} (h : CMul i j) : IntMulOk i j := by
  rcases h with ⟨h1, h2⟩ | ⟨h1, h2⟩
  · exact .of_left (intBits_le_64 h1 h2)
  · exact .of_right (intBits_le_64 h1 h2)
theorem two_pow_nn (k : Nat) : (0 : Int) ≤ 2 ^ k := by
  rw [two_pow_cast]
  exact Int.natCast_nonneg _

theorem op_add : OpR X (binaryOp .Add) (rI0 fun i j => .int (i + j)) := opI0 fun _ _ _ _ _ _ _ q => add_int q
theorem op_sub : OpR X (binaryOp .Sub) (rI0 fun i j => .int (i - j)) := opI0 fun _ _ _ _ _ _ _ q => sub_int q
theorem op_mul : OpR X (binaryOp .Mult) (rI CMul fun i j => .int (i * j)) := opI fun _ _ _ _ _ _ _ hc q => mul_int q hc.ok
/-- // by a positive divisor -/
theorem op_fdiv : OpR X (binaryOp .FloorDiv) (rI CDiv fun i j => .int (i / j)) := opI fun i j _ _ _ _ _ hc q => by
  have h1 : (0 : Int) < j := hc.1
  have h2 : j < 1073741824 := hc.2
  exact floordiv_int (by omega) (by rw [Int.fdiv_eq_ediv_of_nonneg i (by omega)]; exact q) (.inl (PyProof.noPylong_small (by omega)))
theorem op_fdivN : OpR X (binaryOp .FloorDiv) (rI CDivN fun i j => .int (i.fdiv j)) := opI fun _ _ _ _ _ _ _ hc q => floordiv_int hc.1 q (.inl (PyProof.noPylong_small hc.2))
/-- % by a positive divisor of any size -/
theorem op_mod : OpR X (binaryOp .Mod) (rI (fun _ j => 0 < j) fun i j => .int (i % j)) := opI fun i j _ _ _ _ _ hc q => by
  have h1 : (0 : Int) < j := hc
  exact mod_int' (by omega) (by rw [Int.fmod_eq_emod_of_nonneg i (by omega)]; exact q)
theorem op_modN : OpR X (binaryOp .Mod) (rI (fun _ j => j ≠ 0) fun i j => .int (i.fmod j)) := opI fun _ _ _ _ _ _ _ hc q => mod_int' hc q
theorem op_pow : OpR X (binaryOp .Pow) (rI CPow fun i j => .int (i ^ j.toNat)) := opI fun _ _ _ _ _ _ _ hc q => pow_int_small hc.1 hc.2.1 hc.2.2 q
theorem op_shl : OpR X (binaryOp .LShift) (rI CPow fun i j => .int (i * 2 ^ j.toNat)) := opI fun _ _ _ _ _ _ _ hc q => lshift_int_small hc.1 hc.2.1 hc.2.2 q
theorem op_shr : OpR X (binaryOp .RShift) (rI (fun _ j => 0 ≤ j) fun i j => .int (i / 2 ^ j.toNat)) := opI fun i j _ _ _ _ _ hc q =>
  rshift_int hc (by rw [Int.fdiv_eq_ediv_of_nonneg i (two_pow_nn _)]; exact q)
theorem op_and : OpR X (binaryOp .BitAnd) (rI0 fun i j => .int (Builtin.bitAnd i j)) := opI0 fun _ _ _ _ _ _ _ q => and_int q
theorem op_or : OpR X (binaryOp .BitOr) (rI0 fun i j => .int (Builtin.bitOr i j)) := opI0 fun _ _ _ _ _ _ _ q => or_int q
theorem op_xor : OpR X (binaryOp .BitXor) (rI0 fun i j => .int (Builtin.bitXor i j)) := opI0 fun _ _ _ _ _ _ _ q => xor_int q

theorem iop_add : OpR X (inplaceOp .Add) (rI0 fun i j => .int (i + j)) := opI0 fun _ _ _ _ _ _ _ q => iadd_int q
theorem iop_sub : OpR X (inplaceOp .Sub) (rI0 fun i j => .int (i - j)) := opI0 fun _ _ _ _ _ _ _ q => isub_int q
theorem iop_mul : OpR X (inplaceOp .Mult) (rI CMul fun i j => .int (i * j)) := opI fun _ _ _ _ _ _ _ hc q => imul_int q hc.ok
theorem iop_fdiv : OpR X (inplaceOp .FloorDiv) (rI CDiv fun i j => .int (i / j)) := opI fun i j _ _ _ _ _ hc q => by
  have h1 : (0 : Int) < j := hc.1
  have h2 : j < 1073741824 := hc.2
  exact ifloordiv_int (by omega) (by rw [Int.fdiv_eq_ediv_of_nonneg i (by omega)]; exact q) (.inl (PyProof.noPylong_small (by omega)))
theorem iop_mod : OpR X (inplaceOp .Mod) (rI (fun _ j => 0 < j) fun i j => .int (i % j)) := opI fun i j _ _ _ _ _ hc q => by
  have h1 : (0 : Int) < j := hc
  exact imod_int (by omega) (by rw [Int.fmod_eq_emod_of_nonneg i (by omega)]; exact q)
theorem iop_shl : OpR X (inplaceOp .LShift) (rI CPow fun i j => .int (i * 2 ^ j.toNat)) := opI fun _ _ _ _ _ _ _ hc q => ilshift_int_small hc.1 hc.2.1 hc.2.2 q
theorem iop_shr : OpR X (inplaceOp .RShift) (rI (fun _ j => 0 ≤ j) fun i j => .int (i / 2 ^ j.toNat)) := opI fun i j _ _ _ _ _ hc q =>
  irshift_int hc (by rw [Int.fdiv_eq_ediv_of_nonneg i (two_pow_nn _)]; exact q)
theorem iop_and : OpR X (inplaceOp .BitAnd) (rI0 fun i j => .int (Builtin.bitAnd i j)) := opI0 fun _ _ _ _ _ _ _ q => iand_int q
theorem iop_or : OpR X (inplaceOp .BitOr) (rI0 fun i j => .int (Builtin.bitOr i j)) := opI0 fun _ _ _ _ _ _ _ q => ior_int q
theorem iop_xor : OpR X (inplaceOp .BitXor) (rI0 fun i j => .int (Builtin.bitXor i j)) := opI0 fun _ _ _ _ _ _ _ q => ixor_int q

theorem unI {f : Value → Sem Value} {g : Int → Int}
    (rule : ∀ (i : Int) (t : Tok) (s : Shared) (Q : Value → Shared → Prop) (E : Value → Shared → Prop), Q (.int (g i) s.toks) { s with toks := s.toks + 1 } → wpAny (model X.prog X.w) X.A (f (.int i t)) Q E s) :
    UnR X f (rU fun i => .int (g i)) := by
  intro pins s σ H x v Q I rx h
  obtain ⟨i, rfl, q⟩ := h
  obtain ⟨t, rfl⟩ := rx
  exact rule i t s _ _ ⟨.int (g i), H, I.tok _, ⟨_, rfl⟩, q⟩
theorem un_neg : UnR X (unaryOp .USub) (rU fun i => .int (-i)) := unI fun _ _ _ _ _ q => neg_int q
theorem un_inv : UnR X (unaryOp .Invert) (rU fun i => .int (Builtin.bitNot i)) := unI fun _ _ _ _ _ q => invert_int q

/-! ### bools among ints: n += (a < b) -/
theorem op_add_ib : OpR X (binaryOp .Add) (fun x y H Q => ∃ i k, x = .int i ∧ y = .bl k ∧ Q (.int (i + b2i k)) H) := by
  intro pins s σ H x y v u Q I rx ry h
  obtain ⟨i, k, rfl, rfl, q⟩ := h
  obtain ⟨t, rfl⟩ := rx
  cases ry
  exact add_int_bool ⟨.int (i + b2i k), H, I.tok _, ⟨_, rfl⟩, q⟩
end

/-! ### comparisons -/
/-- the scalars that == tells apart as data does -/
def scal : V → V → Bool
  | .non, .non => true | .non, .int _ => true | .int _, .non => true | .non, .bl _ => true | .bl _, .non => true | .non, .str _ => true | .str _, .non => true
  | .int _, .int _ => true | .bl _, .bl _ => true | .str _, .str _ => true | .byt _, .byt _ => true
  | .int _, .str _ => true | .str _, .int _ => true | .bl _, .str _ => true | .str _, .bl _ => true
  | _, _ => false
def rEq : R2 := fun x y H Q => scal x y = true ∧ Q (.bl (decide (x = y))) H
def rNe : R2 := fun x y H Q => scal x y = true ∧ Q (.bl (!decide (x = y))) H

theorem dec_int {i j : Int} : decide (V.int i = V.int j) = (i == j) := by
  rw [Bool.eq_iff_iff]
  simp
theorem dec_bl {i j : Bool} : decide (V.bl i = V.bl j) = (i == j) := by
  rw [Bool.eq_iff_iff]
  simp
theorem dec_str {i j : Str} : decide (V.str i = V.str j) = (i == j) := by
  rw [Bool.eq_iff_iff]
  simp
theorem dec_byt {i j : Array UInt8} : decide (V.byt i = V.byt j) = (i.toList == j.toList) := by
  rw [Bool.eq_iff_iff]
  cases i
  cases j
  simp

section
variable {X : Cx} {a b c : Expr} {ta tb tc : TE} {pos : Pos}
theorem fin_bl {pins : List (Addr × Obj)} {σ : St} {H : Hp} {s : Shared} {Q : VK} {k k' : Bool} (I : Inv X pins σ H s) (q : Q (.bl k) H) (e : k = k') : EP X pins σ Q (.bool k') s := by
  subst e
  exact ⟨.bl k, H, I, rfl, q⟩
theorem op_eq : OpR X (compareOp .Eq) rEq := by
  intro pins s σ H x y v u Q I rx ry h
  obtain ⟨hs, q⟩ := h
  cases x with
  | non =>
    cases rx
    cases y with
    | non => cases ry; exact PySem.EqNone.eq_none_none (fin_bl I q (by simp))
    | bl j => cases ry; exact PySem.EqNone.eq_none_bool (fin_bl I q (by simp))
    | int j => obtain ⟨t', rfl⟩ := ry; exact PySem.EqNone.eq_none_int (fin_bl I q (by simp))
    | str j => obtain ⟨t', rfl⟩ := ry; exact PySem.EqNone.eq_none_str (fin_bl I q (by simp))
    | _ => exact absurd (show false = true from hs) Bool.false_ne_true
  | bl i =>
    cases rx
    cases y with
    | non => cases ry; exact PySem.EqNone.eq_bool_none (fin_bl I q (by simp))
    | bl j => cases ry; exact eq_bool (fin_bl I q dec_bl)
    | str j => obtain ⟨t', rfl⟩ := ry; exact PySem.EqMixed.eq_bool_str (fin_bl I q (by simp))
    | _ => exact absurd (show false = true from hs) Bool.false_ne_true
  | int i =>
    obtain ⟨t, rfl⟩ := rx
    cases y with
    | non => cases ry; exact PySem.EqNone.eq_int_none (fin_bl I q (by simp))
    | int j => obtain ⟨t', rfl⟩ := ry; exact eq_int (fin_bl I q dec_int)
    | str j => obtain ⟨t', rfl⟩ := ry; exact PySem.EqMixed.eq_int_str (fin_bl I q (by simp))
    | _ => exact absurd (show false = true from hs) Bool.false_ne_true
  | str i =>
    obtain ⟨t, rfl⟩ := rx
    cases y with
    | non => cases ry; exact PySem.EqNone.eq_str_none (fin_bl I q (by simp))
    | bl j => cases ry; exact PySem.EqMixed.eq_str_bool (fin_bl I q (by simp))
    | int j => obtain ⟨t', rfl⟩ := ry; exact PySem.EqMixed.eq_str_int (fin_bl I q (by simp))
    | str j => obtain ⟨t', rfl⟩ := ry; exact eq_str (fin_bl I q dec_str)
    | _ => exact absurd (show false = true from hs) Bool.false_ne_true
  | byt i =>
    obtain ⟨t, rfl⟩ := rx
    cases y with
    | byt j => obtain ⟨t', rfl⟩ := ry; exact PySem.W.eq_bytes (fin_bl I q dec_byt)
    | _ => exact absurd (show false = true from hs) Bool.false_ne_true
  | _ => cases y <;> exact absurd (show false = true from hs) Bool.false_ne_true
theorem op_ne : OpR X (compareOp .NotEq) rNe := by
  intro pins s σ H x y v u Q I rx ry h
  obtain ⟨hs, q⟩ := h
  cases x with
  | non =>
    cases rx
    cases y with
    | non => cases ry; exact PySem.EqNone.ne_none_none (fin_bl I q (by simp))
    | bl j => cases ry; exact PySem.EqNone.ne_none_bool (fin_bl I q (by simp))
    | int j => obtain ⟨t', rfl⟩ := ry; exact PySem.EqNone.ne_none_int (fin_bl I q (by simp))
    | str j => obtain ⟨t', rfl⟩ := ry; exact PySem.EqNone.ne_none_str (fin_bl I q (by simp))
    | _ => exact absurd (show false = true from hs) Bool.false_ne_true
  | bl i =>
    cases rx
    cases y with
    | non => cases ry; exact PySem.EqNone.ne_bool_none (fin_bl I q (by simp))
    | bl j => cases ry; exact ne_bool (fin_bl I q (congrArg not dec_bl))
    | str j => obtain ⟨t', rfl⟩ := ry; exact PySem.EqMixed.ne_bool_str (fin_bl I q (by simp))
    | _ => exact absurd (show false = true from hs) Bool.false_ne_true
  | int i =>
    obtain ⟨t, rfl⟩ := rx
    cases y with
    | non => cases ry; exact PySem.EqNone.ne_int_none (fin_bl I q (by simp))
    | int j => obtain ⟨t', rfl⟩ := ry; exact ne_int (fin_bl I q (congrArg not dec_int))
    | str j => obtain ⟨t', rfl⟩ := ry; exact PySem.EqMixed.ne_int_str (fin_bl I q (by simp))
    | _ => exact absurd (show false = true from hs) Bool.false_ne_true
  | str i =>
    obtain ⟨t, rfl⟩ := rx
    cases y with
    | non => cases ry; exact PySem.EqNone.ne_str_none (fin_bl I q (by simp))
    | bl j => cases ry; exact PySem.EqMixed.ne_str_bool (fin_bl I q (by simp))
    | int j => obtain ⟨t', rfl⟩ := ry; exact PySem.EqMixed.ne_str_int (fin_bl I q (by simp))
    | str j => obtain ⟨t', rfl⟩ := ry; exact ne_str (fin_bl I q (congrArg not dec_str))
    | _ => exact absurd (show false = true from hs) Bool.false_ne_true
  | byt i =>
    obtain ⟨t, rfl⟩ := rx
    cases y with
    | byt j => obtain ⟨t', rfl⟩ := ry; exact PySem.W.ne_bytes (fin_bl I q (congrArg not dec_byt))
    | _ => exact absurd (show false = true from hs) Bool.false_ne_true
  | _ => cases y <;> exact absurd (show false = true from hs) Bool.false_ne_true

theorem op_lt : OpR X (compareOp .Lt) (rI0 fun i j => .bl (decide (i < j))) := opB0 fun _ _ _ _ _ _ _ q => lt_int q
theorem op_le : OpR X (compareOp .LtE) (rI0 fun i j => .bl (decide (i ≤ j))) := opB0 fun _ _ _ _ _ _ _ q => le_int q
theorem op_gt : OpR X (compareOp .Gt) (rI0 fun i j => .bl (decide (j < i))) := opB0 fun _ _ _ _ _ _ _ q => gt_int q
theorem op_ge : OpR X (compareOp .GtE) (rI0 fun i j => .bl (decide (j ≤ i))) := opB0 fun _ _ _ _ _ _ _ q => ge_int q
theorem op_lt_str : OpR X (compareOp .Lt) (fun x y H Q => ∃ i j, x = .str i ∧ y = .str j ∧ Q (.bl (decide (i.cps.toList < j.cps.toList))) H) := by
  intro pins s σ H x y v u Q I rx ry h
  obtain ⟨i, j, rfl, rfl, q⟩ := h
  obtain ⟨t, rfl⟩ := rx
  obtain ⟨t', rfl⟩ := ry
  exact lt_str (fin_bl I q rfl)
/-- the one string within the other -/
theorem op_in_str : OpR X (compareOp .In) (fun x y H Q => ∃ i j, x = .str i ∧ y = .str j ∧ Q (.bl (!(Builtin.Str.occurrences j i 0 j.length 1).isEmpty)) H) := by
  intro pins s σ H x y v u Q I rx ry h
  obtain ⟨i, j, rfl, rfl, q⟩ := h
  obtain ⟨t, rfl⟩ := rx
  obtain ⟨t', rfl⟩ := ry
  exact in_str (fin_bl I q rfl)

/-- is None, is not None: the right side a value none -/
theorem op_isN : OpR X (compareOp .Is) (fun x y H Q => y = .non ∧ Q (.bl (decide (x = .non))) H) := by
  intro pins s σ H x y v u Q I rx ry h
  obtain ⟨rfl, q⟩ := h
  cases ry
  refine is_none_gen (fin_bl I q ?_)
  cases x <;> first
    | (cases rx; rfl)
    | (obtain ⟨t, rfl⟩ := rx; rfl)
theorem op_notN : OpR X (compareOp .IsNot) (fun x y H Q => y = .non ∧ Q (.bl (!decide (x = .non))) H) := by
  intro pins s σ H x y v u Q I rx ry h
  obtain ⟨rfl, q⟩ := h
  cases ry
  refine isnot_none_gen (fin_bl I q ?_)
  cases x <;> first
    | (cases rx; rfl)
    | (obtain ⟨t, rfl⟩ := rx; rfl)

theorem op_notin_str : OpR X (compareOp .NotIn) (fun x y H Q => ∃ i j, x = .str i ∧ y = .str j ∧ Q (.bl (!(!(Builtin.Str.occurrences j i 0 j.length 1).isEmpty))) H) := by
  intro pins s σ H x y v u Q I rx ry h
  obtain ⟨i, j, rfl, rfl, q⟩ := h
  obtain ⟨t, rfl⟩ := rx
  obtain ⟨t', rfl⟩ := ry
  exact notIn_str (fin_bl I q rfl)
/-- is, is not of two objects that are tracked lists or instances -/
def isObj : HO → Bool
  | .lst _ => true
  | .ins _ _ _ => true
  | _ => false
theorem obj_there {pins : List (Addr × Obj)} {s : Shared} {σ : St} {H : Hp} {a : Addr} {o : HO} (I : Inv X pins σ H s) (h : H a = some o) (p : isObj o = true) : ∃ ob, s.heap.get? a = some ob ∧ ob.cls ≠ .type "tuple" := by
  cases o with
  | lst xs =>
    obtain ⟨_, its, n, _, e⟩ : xs.length ≤ sizeLine ∧ ∃ (its : List Value) (n : Nat), Vals xs its ∧ s.heap.get? a = some { cls := .type "list", data := .seq its.toArray n } := I.hok a _ h
    exact ⟨_, e, (by show Value.type "list" ≠ .type "tuple"; decide +kernel)⟩
  | ins C dx fs =>
    have x := I.hok a _ h
    obtain ⟨_, _, _, e, _⟩ := x
    exact ⟨_, e, (by show Value.ref C ≠ .type "tuple"; exact fun z => by cases z)⟩
  | _ => exact absurd (show false = true from p) Bool.false_ne_true
theorem op_is_ref : OpR X (compareOp .Is) (fun x y H Q => ∃ a b oa ob, x = .ref a ∧ y = .ref b ∧ H a = some oa ∧ isObj oa = true ∧ H b = some ob ∧ isObj ob = true ∧ Q (.bl (decide (a = b))) H) := by
  intro pins s σ H x y v u Q I rx ry h
  obtain ⟨a, b, oa, ob, rfl, rfl, ha, pa, hb, pb, q⟩ := h
  cases rx
  cases ry
  obtain ⟨o1, e1, n1⟩ := obj_there I ha pa
  obtain ⟨o2, e2, _⟩ := obj_there I hb pb
  by_cases z : a = b
  · subst z
    exact wpAny_is_ref_self (fin_bl I q (by simp))
  · exact wpAny_is_ref_other z e1 e2 n1 (fin_bl I q (by simp [z]))
theorem op_isnot_ref : OpR X (compareOp .IsNot) (fun x y H Q => ∃ a b oa ob, x = .ref a ∧ y = .ref b ∧ H a = some oa ∧ isObj oa = true ∧ H b = some ob ∧ isObj ob = true ∧ Q (.bl (!decide (a = b))) H) := by
  intro pins s σ H x y v u Q I rx ry h
  obtain ⟨a, b, oa, ob, rfl, rfl, ha, pa, hb, pb, q⟩ := h
  cases rx
  cases ry
  obtain ⟨o1, e1, n1⟩ := obj_there I ha pa
  obtain ⟨o2, e2, _⟩ := obj_there I hb pb
  by_cases z : a = b
  · subst z
    exact wpAny_isNot_ref_self (fin_bl I q (by simp))
  · exact wpAny_isNot_ref_other z e1 e2 n1 (fin_bl I q (by simp [z]))

/-- two rules for one operation: by cases -/
theorem OpR.or {f : Value → Value → Sem Value} {r r' : R2} (h : OpR X f r) (h' : OpR X f r') : OpR X f (fun x y H Q => r x y H Q ∨ r' x y H Q) := by
  intro pins s σ H x y v u Q I rx ry q
  rcases q with q | q
  · exact h pins s σ H x y v u Q I rx ry q
  · exact h' pins s σ H x y v u Q I rx ry q

theorem nomark (b : Expr) {op : CmpOp} (h : op ≠ .In := by decide) (h2 : op ≠ .NotIn := by decide) : behindInMarks op b = false := by
  have e1 : (op == CmpOp.In) = false := by cases op <;> first | rfl | exact absurd rfl h
  have e2 : (op == CmpOp.NotIn) = false := by cases op <;> first | rfl | exact absurd rfl h2
  cases b <;> simp [behindInMarks, e1, e2]
/-- a comparison as a value; hm: nomark b, or (for in, not in) by with_unfolding_all rfl -/
theorem pe_cmpR {op : CmpOp} {r : R2} (ho : OpR X (compareOp op) r) (ha : PE X a ta) (hb : PE X b tb) (hm : behindInMarks op b = false) : PE X (.Compare a [op] [b] pos) (tOp r ta tb) := by
  intro pins s σ H Q I h
  exact wpAny_Compare1 (binT ha hb I h fun v u s2 x y H2 I2 rx ry q => ho pins s2 σ H2 x y v u Q I2 rx ry q) hm
/-- a reading of a value as a test -/
def tTest (t : TE) : TT := fun σ H Q => t σ H fun x H' => ∃ k, x = .bl k ∧ Q k H'
theorem pt_cmpR {op : CmpOp} {r : R2} (ho : OpR X (compareOp op) r) (ha : PE X a ta) (hb : PE X b tb) (hm : behindInMarks op b = false) : PT X (.Compare a [op] [b] pos) (tTest (tOp r ta tb)) := by
  intro pins s σ H Q I h
  refine wpAny_isTrue_Compare1 (thn (ha pins s σ H _ I h) fun v s1 ⟨x, H1, I1, r1, q1⟩ => thn (hb pins s1 σ H1 _ I1 q1) fun u s2 ⟨y, H2, I2, r2, q2⟩ =>
    thn (ho pins s2 σ H2 x y v u _ I2 r1 r2 q2) fun c s3 ⟨z, H3, I3, r3, k, e, q3⟩ => ?_) hm
  subst e
  cases r3
  exact wpAny_truthy_bool ⟨H3, I3, q3⟩
/-- a op1 b op2 c -/
def tChain (r r' : R2) (ta tb tc : TE) : TE := fun σ H Q => ta σ H fun x H1 => tb σ H1 fun y H2 => r x y H2 fun z H3 => ∃ k, z = .bl k ∧
  (if k = true then tc σ H3 fun w' H4 => r' y w' H4 Q else Q (.bl false) H3)
theorem pe_chain {op op' : CmpOp} {r r' : R2} (ho : OpR X (compareOp op) r) (ho' : OpR X (compareOp op') r') (ha : PE X a ta) (hb : PE X b tb) (hc : PE X c tc)
    (hm : lastMarks [op, op'] [b, c] = false := by with_unfolding_all rfl) : PE X (.Compare a [op, op'] [b, c] pos) (tChain r r' ta tb tc) := by
  intro pins s σ H Q I h
  refine Compare_chain (thn (ha pins s σ H _ I h) fun v s1 ⟨x, H1, I1, r1, q1⟩ => chain_link (thn (hb pins s1 σ H1 _ I1 q1) fun u s2 ⟨y, H2, I2, r2, q2⟩ =>
    thn (ho pins s2 σ H2 x y v u _ I2 r1 r2 q2) fun d s3 ⟨z, H3, I3, r3, k, e, q3⟩ => ?_)) hm
  subst e
  cases r3
  refine wpAny_truthy_bool ?_
  cases k with
  | false => exact ite_ff ⟨.bl false, H3, I3, rfl, q3⟩
  | true => exact ite_tt (chain_last (thn (hc pins s3 σ H3 _ I3 q3) fun w' s4 ⟨z', H4, I4, r4, q4⟩ => ho' pins s4 σ H4 y z' u w' Q I4 r2 r4 q4))
theorem pt_chain {op op' : CmpOp} {r r' : R2} (ho : OpR X (compareOp op) r) (ho' : OpR X (compareOp op') r') (ha : PE X a ta) (hb : PE X b tb) (hc : PE X c tc)
    (hm : lastMarks [op, op'] [b, c] = false := by with_unfolding_all rfl) : PT X (.Compare a [op, op'] [b, c] pos) (tTest (tChain r r' ta tb tc)) := by
  intro pins s σ H Q I h
  refine isTrue_chain (thn (ha pins s σ H _ I h) fun v s1 ⟨x, H1, I1, r1, q1⟩ => test_link (thn (hb pins s1 σ H1 _ I1 q1) fun u s2 ⟨y, H2, I2, r2, q2⟩ =>
    thn (ho pins s2 σ H2 x y v u _ I2 r1 r2 q2) fun d s3 ⟨z, H3, I3, r3, k, e, q3⟩ => ?_)) hm
  subst e
  cases r3
  refine wpAny_truthy_bool ?_
  cases k with
  | false =>
    obtain ⟨k', e', q'⟩ := q3
    cases e'
    exact ite_ff ⟨H3, I3, q'⟩
  | true =>
    refine ite_tt (test_last (thn (hc pins s3 σ H3 _ I3 q3) fun w' s4 ⟨z', H4, I4, r4, q4⟩ => thn (ho' pins s4 σ H4 y z' u w' _ I4 r2 r4 q4) fun d' s5 ⟨z2, H5, I5, r5, k2, e2, q5⟩ => ?_))
    subst e2
    cases r5
    exact wpAny_truthy_bool ⟨H5, I5, q5⟩

/-! ### truth -/
/-- a value's truth by the abstract heap -/
def TruV (K : PySem.W.Frag) (x : V) (H : Hp) (k : Bool) : Prop :=
  match x with
  | .non => k = false
  | .bl b => k = b
  | .int i => k = (i != 0)
  | .str y => y.length ≤ sizeLine ∧ k = ((y.length : Int) != 0)
  | .byt y => y.size ≤ sizeLine ∧ k = ((y.size : Int) != 0)
  | .ref p => (∃ xs, SqL K H p xs ∧ k = !xs.isEmpty) ∨ (∃ xs, SqT K H p xs ∧ k = !xs.isEmpty) ∨ ∃ kvs, H p = some (.dK kvs) ∧ k = !kvs.isEmpty
  | _ => False
theorem isEmpty_kv {κ : Type} {kvs : List (κ × V)} {vs : List (κ × Value)} (r : KV kvs vs) : (!vs.isEmpty) = !kvs.isEmpty := by
  cases r <;> rfl
theorem isEmpty_of {xs : List V} {its : List Value} (r : Vals xs its) : (!its.toArray.isEmpty) = !xs.isEmpty := by
  cases r <;> simp
theorem line63 : (sizeLine : Nat) < 2 ^ 63 := by rw [sizeLine_eq]; decide
theorem tru_ok : TruR X (fun x H Q => ∃ k, TruV X.K x H k ∧ Q k H) := by
  intro pins s σ H x v Q I rx h
  obtain ⟨k, e, q⟩ := h
  have hl := line63
  have hs : sizeLine = 16777216 := sizeLine_eq
  cases x with
  | non =>
    cases rx
    have e' : k = false := e
    subst e'
    exact truthy_none ⟨H, I, q⟩
  | bl b =>
    cases rx
    have e' : k = b := e
    subst e'
    exact wpAny_truthy_bool ⟨H, I, q⟩
  | int i =>
    obtain ⟨t, rfl⟩ := rx
    have e' : k = (i != 0) := e
    subst e'
    exact PySem.P.truthy_int ⟨H, I, q⟩
  | str y =>
    obtain ⟨t, rfl⟩ := rx
    obtain ⟨hy, e'⟩ : y.length ≤ sizeLine ∧ k = ((y.length : Int) != 0) := e
    subst e'
    exact PySem.P.truthy_str (by omega) ⟨H, I.tok _, q⟩
  | byt y =>
    obtain ⟨t, rfl⟩ := rx
    obtain ⟨hy, e'⟩ : y.size ≤ sizeLine ∧ k = ((y.size : Int) != 0) := e
    subst e'
    exact PySem.W.truthy_bytes (by omega) ⟨H, I.tok _, q⟩
  | ref p =>
    cases rx
    have e' : (∃ xs, SqL X.K H p xs ∧ k = !xs.isEmpty) ∨ (∃ xs, SqT X.K H p xs ∧ k = !xs.isEmpty) ∨ ∃ kvs, H p = some (.dK kvs) ∧ k = !kvs.isEmpty := e
    rcases e' with ⟨xs, hx, e'⟩ | ⟨xs, hx, e'⟩ | ⟨kvs, hx, e'⟩
    · subst e'
      obtain ⟨its, r, pl, hz⟩ := I.list hx
      have hlen := r.length
      exact wpAny_truthy_list pl.isList (by simp only [List.size_toArray]; omega) ⟨H, I.tok _, by rw [isEmpty_of r]; exact q⟩
    · subst e'
      obtain ⟨its, r, pl, hz⟩ := I.tuple hx
      have hlen := r.length
      exact truthy_tuple pl (by simp only [List.size_toArray]; omega) ⟨H, I.tok _, by rw [isEmpty_of r]; exact q⟩
    · subst e'
      obtain ⟨hz, hS, vs, r, m⟩ : kvs.length ≤ sizeLine ∧ (p == sysModules) = false ∧ ∃ vs, KV kvs vs ∧ s.heap.DictOf (mixKind X.prog X.w) p vs := I.hok p _ hx
      have hlen : kvs.length = vs.length := Paired.length r
      exact wpAny_truthy_dict hS m (by omega) ⟨H, I.tok _, by rw [isEmpty_kv r]; exact q⟩
  | _ => exact (show False from e).elim
/-- any expression whose test is its value's truth (a name, a call, a subscript, a field ..: he by fun _ => rfl) -/
theorem pt_truth (ha : PE X a ta) (he : ∀ whole, isTrue a X.env whole = (do let v ← whole; standAt a.pos; holding [v] (truthy v))) :
    PT X a (fun σ H Q => ta σ H fun x H' => ∃ k, TruV X.K x H' k ∧ Q k H') := by
  intro pins s σ H Q I h
  exact isTrue_plain (thn (ha pins s σ H _ I h) fun v s1 ⟨x, H1, I1, r1, q1⟩ => tru_ok pins s1 σ H1 x v Q I1 r1 q1) (he _)

/-! ### strs and bytes -/
theorem pe_byt {x : List UInt8} {k : Nat} : PE X (.Constant (.bytes x) k pos) (fun _ H Q => Q (.byt x.toArray) H) := fun _ _ _ H _ I h => PySem.W.Constant_bytes ⟨.byt x.toArray, H, I.tok _, ⟨_, rfl⟩, h⟩
theorem op_add_str : OpR X (binaryOp .Add) (fun x y H Q => ∃ i j, x = .str i ∧ y = .str j ∧ i.length + j.length ≤ sizeLine ∧ Q (.str (i ++ j)) H) := by
  intro pins s σ H x y v u Q I rx ry h
  obtain ⟨i, j, rfl, rfl, hz, q⟩ := h
  obtain ⟨t, rfl⟩ := rx
  obtain ⟨t', rfl⟩ := ry
  exact add_str (fun t' tk => ⟨.str (i ++ j), H, I.tok _, ⟨_, rfl⟩, q⟩) hz
theorem iop_add_str : OpR X (inplaceOp .Add) (fun x y H Q => ∃ i j, x = .str i ∧ y = .str j ∧ i.length + j.length ≤ sizeLine ∧ Q (.str (i ++ j)) H) := by
  intro pins s σ H x y v u Q I rx ry h
  obtain ⟨i, j, rfl, rfl, hz, q⟩ := h
  obtain ⟨t, rfl⟩ := rx
  obtain ⟨t', rfl⟩ := ry
  exact iadd_str (fun t' tk => ⟨.str (i ++ j), H, I.tok _, ⟨_, rfl⟩, q⟩) hz
theorem op_add_byt : OpR X (binaryOp .Add) (fun x y H Q => ∃ i j, x = .byt i ∧ y = .byt j ∧ i.size + j.size ≤ 16777216 ∧ Q (.byt (i ++ j)) H) := by
  intro pins s σ H x y v u Q I rx ry h
  obtain ⟨i, j, rfl, rfl, hz, q⟩ := h
  obtain ⟨t, rfl⟩ := rx
  obtain ⟨t', rfl⟩ := ry
  exact PySem.W.KBy.add_bytes hz (fun t' tk => ⟨.byt (i ++ j), H, I.tok _, ⟨_, rfl⟩, q⟩)

def PlainIxT (b : Expr) : Prop := ∀ o i, subscripted b false o i = operate [o, i] (getItem o i)
/-- s[i], 0 ≤ i < len -/
theorem pe_item_str (ha : PE X a ta) (hb : PE X b tb) (hs : PlainIxT b) :
    PE X (.Subscript a b pos) (tOp (fun x y H Q => ∃ z i c, x = .str z ∧ y = .int i ∧ 0 ≤ i ∧ i < 2 ^ 63 ∧ i < z.length ∧ z.cps[i.toNat]? = some c ∧ Q (.str ⟨#[c]⟩) H) ta tb) := by
  intro pins s σ H Q I h
  refine Subscript_ (binT ha hb I h fun v u s2 x y H2 I2 rx ry q => ?_)
  obtain ⟨z, i, c, rfl, rfl, h0, h63, h1, hc, q⟩ := q
  obtain ⟨t, rfl⟩ := rx
  obtain ⟨t', rfl⟩ := ry
  have e : seqIndex? i z.length = some i.toNat := PySem.StrLaws.seqIndex_nonneg h0 h1
  exact tail_any (typeIs_str s2 z t) slot_str_getitem.lookup (getItem_str (c := c) (by
    have e1 : decide (i < -(2 ^ 63 : Int)) = false := decide_eq_false (by omega)
    have e2 : decide (i ≥ 2 ^ 63) = false := decide_eq_false (by omega)
    rw [e1, e2] <;> rfl) (by rw [e]; exact hc) ⟨.str ⟨#[c]⟩, H2, I2.tok _, ⟨_, rfl⟩, q⟩) (hs _ _)
/-- b[i], 0 ≤ i < len -/
theorem pe_item_byt (ha : PE X a ta) (hb : PE X b tb) (hs : PlainIxT b) :
    PE X (.Subscript a b pos) (tOp (fun x y H Q => ∃ (z : List UInt8) (i : Int), x = .byt z.toArray ∧ y = .int i ∧ z.length ≤ sizeLine ∧ 0 ≤ i ∧ i < z.length ∧ Q (.int ((z.getD i.toNat 0).toNat : Nat)) H) ta tb) := by
  intro pins s σ H Q I h
  refine Subscript_ (binT ha hb I h fun v u s2 x y H2 I2 rx ry q => ?_)
  obtain ⟨z, i, rfl, rfl, hz, h0, h1, q⟩ := q
  obtain ⟨t, rfl⟩ := rx
  obtain ⟨t', rfl⟩ := ry
  have hl : sizeLine = 16777216 := sizeLine_eq
  exact tail_any (PySem.W.typeIs_bytes s2 z.toArray t) PySem.W.FB.slot_bytes_getitem.lookup (PySem.W.getItem_bytes (by omega) h0 h1 ⟨.int ((z.getD i.toNat 0).toNat : Nat), H2, I2.tok _, ⟨_, rfl⟩, q⟩) (hs _ _)

/-! ### scalar builtins, by CallR -/
theorem vals1 {x : V} {us : List Value} (r : Vals [x] us) : ∃ u, us = [u] ∧ RelV x u := by
  cases r with
  | cons r1 r2 => cases r2; exact ⟨_, rfl, r1⟩
theorem vals2 {x y : V} {us : List Value} (r : Vals [x, y] us) : ∃ u w', us = [u, w'] ∧ RelV x u ∧ RelV y w' := by
  cases r with
  | cons r1 r2 =>
    cases r2 with
    | cons r3 r4 => cases r4; exact ⟨_, _, rfl, r1, r3⟩
theorem call_abs : CallR X (.builtin "abs") (fun xs H Q => ∃ i, xs = [.int i] ∧ Q (.int (if i < 0 then -i else i)) H) := by
  intro pins s σ H xs us Q I r h
  obtain ⟨i, rfl, q⟩ := h
  obtain ⟨u, rfl, t, rfl⟩ := vals1 r
  exact call_abs_int fun u tk => ⟨.int (if i < 0 then -i else i), H, I.tok _, ⟨_, rfl⟩, q⟩
theorem call_max2 (hc : X.calm = true) : CallR X (.builtin "max") (fun xs H Q => ∃ i j, xs = [.int i, .int j] ∧ Q (.int (if j > i then j else i)) H) := by
  intro pins s σ H xs us Q I r h
  obtain ⟨i, j, rfl, q⟩ := h
  obtain ⟨u, w', rfl, ⟨t, rfl⟩, ⟨t', rfl⟩⟩ := vals2 r
  refine max_two_ints (I.ok.hd hc) fun h' tk k => ⟨_, H, I.kept k, ?_, q⟩
  by_cases hj : j > i
  · rw [if_pos hj, if_pos hj]; exact ⟨_, rfl⟩
  · rw [if_neg hj, if_neg hj]; exact ⟨_, rfl⟩
theorem call_min2 (hc : X.calm = true) : CallR X (.builtin "min") (fun xs H Q => ∃ i j, xs = [.int i, .int j] ∧ Q (.int (if j < i then j else i)) H) := by
  intro pins s σ H xs us Q I r h
  obtain ⟨i, j, rfl, q⟩ := h
  obtain ⟨u, w', rfl, ⟨t, rfl⟩, ⟨t', rfl⟩⟩ := vals2 r
  refine min_two_ints (I.ok.hd hc) fun h' tk k => ⟨_, H, I.kept k, ?_, q⟩
  by_cases hj : j < i
  · rw [if_pos hj, if_pos hj]; exact ⟨_, rfl⟩
  · rw [if_neg hj, if_neg hj]; exact ⟨_, rfl⟩
theorem call_int1 : CallR X (.type "int") (fun xs H Q => (∃ i, xs = [.int i] ∧ Q (.int i) H) ∨ ∃ k, xs = [.bl k] ∧ Q (.int (if k then 1 else 0)) H) := by
  intro pins s σ H xs us Q I r h
  rcases h with ⟨i, rfl, q⟩ | ⟨k, rfl, q⟩
  · obtain ⟨u, rfl, t, rfl⟩ := vals1 r
    exact call_int_int ⟨.int i, H, I, ⟨_, rfl⟩, q⟩
  · obtain ⟨u, rfl, r1⟩ := vals1 r
    cases r1
    exact call_int_bool ⟨.int (if k then 1 else 0), H, I.tok _, ⟨_, rfl⟩, q⟩
theorem call_bool1 : CallR X (.type "bool") (fun xs H Q => (∃ i, xs = [.int i] ∧ Q (.bl (i != 0)) H) ∨ ∃ k, xs = [.bl k] ∧ Q (.bl k) H) := by
  intro pins s σ H xs us Q I r h
  rcases h with ⟨i, rfl, q⟩ | ⟨k, rfl, q⟩
  · obtain ⟨u, rfl, t, rfl⟩ := vals1 r
    exact call_bool_int ⟨.bl (i != 0), H, I, rfl, q⟩
  · obtain ⟨u, rfl, r1⟩ := vals1 r
    cases r1
    exact call_bool_bool ⟨.bl k, H, I, rfl, q⟩
theorem call_str_int : CallR X (.type "str") (fun xs H Q => ∃ i, xs = [.int i] ∧ i.natAbs.log2 < 1920 ∧ Q (.str (toString i)) H) := by
  intro pins s σ H xs us Q I r h
  obtain ⟨i, rfl, hz, q⟩ := h
  obtain ⟨u, rfl, t, rfl⟩ := vals1 r
  exact PySem.P.str_of_int hz ⟨.str _, H, I.tok _, ⟨_, rfl⟩, q⟩
theorem call_ord : CallR X (.builtin "ord") (fun xs H Q => ∃ x, xs = [.str x] ∧ x.length = 1 ∧ Q (.int (x.cps.getD 0 0 : Nat)) H) := by
  intro pins s σ H xs us Q I r h
  obtain ⟨x, rfl, hz, q⟩ := h
  obtain ⟨u, rfl, t, rfl⟩ := vals1 r
  exact ord_of_one hz ⟨.int _, H, I.tok _, ⟨_, rfl⟩, q⟩
theorem call_chr : CallR X (.builtin "chr") (fun xs H Q => ∃ i, xs = [.int i] ∧ 0 ≤ i ∧ i ≤ 1114111 ∧ Q (.str ⟨#[i.toNat]⟩) H) := by
  intro pins s σ H xs us Q I r h
  obtain ⟨i, rfl, h0, h1, q⟩ := h
  obtain ⟨u, rfl, t, rfl⟩ := vals1 r
  exact chr_of_range h0 h1 ⟨.str _, H, I.tok _, ⟨_, rfl⟩, q⟩
/-- len of a str, a bytes, a list, a tuple -/
def LenV (K : PySem.W.Frag) (x : V) (H : Hp) (n : Nat) : Prop :=
  match x with
  | .str y => y.length ≤ sizeLine ∧ n = y.length
  | .byt y => y.size ≤ sizeLine ∧ n = y.size
  | .ref p => (∃ xs, SqL K H p xs ∧ n = xs.length) ∨ ∃ xs, SqT K H p xs ∧ n = xs.length
  | _ => False
theorem call_len : CallR X (.builtin "len") (fun xs H Q => ∃ x n, xs = [x] ∧ LenV X.K x H n ∧ Q (.int n) H) := by
  intro pins s σ H xs us Q I r h
  obtain ⟨x, n, rfl, e, q⟩ := h
  obtain ⟨u, rfl, rx⟩ := vals1 r
  have hl := line63
  have hs : sizeLine = 16777216 := sizeLine_eq
  cases x with
  | str y =>
    obtain ⟨t, rfl⟩ := rx
    obtain ⟨hy, e'⟩ : y.length ≤ sizeLine ∧ n = y.length := e
    subst e'
    exact len_str (by omega) ⟨.int _, H, I.tok _, ⟨_, rfl⟩, q⟩
  | byt y =>
    obtain ⟨t, rfl⟩ := rx
    obtain ⟨hy, e'⟩ : y.size ≤ sizeLine ∧ n = y.size := e
    subst e'
    exact PySem.W.len_bytes (by omega) ⟨.int _, H, I.tok _, ⟨_, rfl⟩, q⟩
  | ref p =>
    cases rx
    have e' : (∃ xs, SqL X.K H p xs ∧ n = xs.length) ∨ ∃ xs, SqT X.K H p xs ∧ n = xs.length := e
    rcases e' with ⟨xs, hx, e'⟩ | ⟨xs, hx, e'⟩
    · subst e'
      obtain ⟨its, r', pl, hz⟩ := I.list hx
      have hlen := r'.length
      exact Calls.call_len_list pl.isList (by simp only [List.size_toArray]; omega) ⟨.int xs.length, H, I.tok _, ⟨_, by simp only [List.size_toArray]; rw [hlen]⟩, q⟩
    · subst e'
      obtain ⟨its, r', pl, hz⟩ := I.tuple hx
      have hlen := r'.length
      exact len_tuple pl (by simp only [List.size_toArray]; omega) ⟨.int xs.length, H, I.tok _, ⟨_, by simp only [List.size_toArray]; rw [hlen]⟩, q⟩
  | _ => exact (show False from e).elim
/-- divmod: a new tuple -/
theorem call_divmod : CallR X (.builtin "divmod") (fun xs H Q => ∃ i j, xs = [.int i, .int j] ∧ CDiv i j ∧ ∀ p, H p = none → Q (.ref p) (upd H p (.tup [.int (i / j), .int (i % j)]))) := by
  intro pins s σ H xs us Q I r h
  obtain ⟨i, j, rfl, ⟨h1, h2⟩, q⟩ := h
  obtain ⟨u, w', rfl, ⟨t, rfl⟩, ⟨t', rfl⟩⟩ := vals2 r
  refine divmod_int (by omega) ?_ (.inl (PyProof.noPylong_small (by omega)))
  rw [Int.fdiv_eq_ediv_of_nonneg i (by omega), Int.fmod_eq_emod_of_nonneg i (by omega)]
  have hn : H s.heap.objs.size = none := I.hok.fresh (Nat.le_refl _)
  refine ⟨.ref s.heap.objs.size, _, ?_, rfl, q _ hn⟩
  refine I.laid (fun b o e => Heap.get?_push_of_some _ e) (Nat.le_refl _) ⟨by simp only [List.length_cons, List.length_nil]; rw [sizeLine_eq]; decide, [.int (i / j) s.toks, .int (i % j) (s.toks + 1)], .cons ⟨_, rfl⟩ (.cons ⟨_, rfl⟩ .nil), ?_⟩
  exact ⟨_, Heap.get?_push_size s.heap rfl, rfl, 0, rfl⟩
end
end L2

namespace L2
open PySem PySem.Spec PyProof.Rows

/-! ### an instance, its attributes a map -/
structure ObjM (h : Heap) (x dx C : Addr) (mA : Str → Option Value) : Prop where
  obj : h.get? x = some (PySem.W.instObj C dx)
  ns : h.Ns1 dx mA
  ne : dx ≠ x

theorem lookIn_ns {h : Heap} {dx : Addr} {mA : Str → Option Value} (n : h.Ns1 dx mA) : ∃ od, h.get? dx = some od ∧ ∀ name, PySem.W.lookIn name od = some (mA name) := by
  obtain ⟨o, es, ep, ho, hd, hk, _, hm⟩ := n
  refine ⟨o, ho, fun name => ?_⟩
  have e := hm name
  unfold nsFind findBy at e
  rw [← Array.find?_toList] at e
  unfold PySem.W.lookIn
  rw [hd]
  dsimp only
  split
  · rename_i y q
    rw [q] at e
    exact congrArg some e
  · rename_i q
    rw [q] at e
    have a : es.toList.any (·.refKey) = false := by
      rw [List.any_eq_false]
      intro y hy
      obtain ⟨z, t, hkey⟩ := hk y (Array.mem_toList_iff.mp hy)
      simp [DictEntry.refKey, hkey]
    have a' : ¬ es.toList.any (·.refKey) = true := by rw [a]; exact Bool.false_ne_true
    rw [if_neg a']
    exact congrArg some e

theorem ObjM.look {h : Heap} {x dx C : Addr} {mA : Str → Option Value} (I : ObjM h x dx C mA) : ∃ od, PySem.W.InstAt h x (PySem.W.instObj C dx) C (some od) ∧ ∀ name, PySem.W.lookIn name od = some (mA name) :=
  let ⟨od, ho, hl⟩ := lookIn_ns I.ns
  ⟨od, ⟨I.obj, rfl, rfl, ho⟩, hl⟩

section
variable {prog : Program} {w : World} {A : Around} {E : Value → Shared → Prop} {s : Shared} {K : PySem.W.Frag} {x dx C f : Addr} {mA : Str → Option Value} {name : Str} {v : Value}

theorem get_map {expr : Bool} {Q : Value → Shared → Prop} (X : K.In s.heap) (I : ObjM s.heap x dx C mA) (hg : PySem.W.plainGet K C name = true) (hh : PySem.W.hasDictIn K C = true)
    (ha : PySem.W.findIn K (.ref C) name = some none) (hv : mA name = some v) (hv' : PySem.W.handedIn v = true) (h : Q v { s with toks := s.toks + 1 }) :
    wpAny (model prog w) A (getAttr (.ref x) name expr) Q E s := by
  obtain ⟨od, J, hl⟩ := I.look
  exact PySem.W.get_value X J (PySem.W.plainGet_of hg).1 (PySem.W.findObj_own hh ha rfl (by rw [hl, hv])) hv' h

theorem get_const {expr : Bool} {a : Value} {Q : Value → Shared → Prop} (X : K.In s.heap) (I : ObjM s.heap x dx C mA) (hg : PySem.W.plainGet K C name = true) (hh : PySem.W.hasDictIn K C = true)
    (ha : PySem.W.findIn K (.ref C) name = some (some a)) (hn : PySem.W.specialIn K a "__get__" = some none) (hc : PySem.W.copiedNames.contains name = false) (hv : mA name = none) (hv' : PySem.W.handedIn a = true)
    (h : Q a { s with toks := s.toks + 1 }) : wpAny (model prog w) A (getAttr (.ref x) name expr) Q E s := by
  obtain ⟨od, J, hl⟩ := I.look
  exact PySem.W.get_value X J (PySem.W.plainGet_of hg).1 (PySem.W.findObj_cls hh ha hn hv' hc (by rw [hl, hv])) hv' h

theorem get_meth {pl : Sem Bool} {Q : Value × List Value → Shared → Prop} (X : K.In s.heap) (I : ObjM s.heap x dx C mA) (hg : PySem.W.plainGet K C name = true)
    (hf : PySem.W.findIn K (.ref C) name = some (some (.ref f))) (ht : PySem.W.isFn K (.ref f) = true) (hv : mA name = none) (h : Q (.ref f, [.ref x]) s) :
    wpAny (model prog w) A (getMethod (.ref x) name pl) Q E s := by
  obtain ⟨od, J, hl⟩ := I.look
  exact PySem.W.method_fn X J (PySem.W.plainGet_of hg).1 (PySem.W.plainGet_of hg).2 hf (beq_iff_eq.mp ht) (by show (PySem.W.lookIn name od).map (·.isSome) = some false; rw [hl, hv]; rfl) h

theorem set_map {ns : List Str} {Q : Unit → Shared → Prop} (X : K.In s.heap) (I : ObjM s.heap x dx C mA)
    (hs : PySem.W.findIn K (.ref C) "__setattr__" = some (some (.builtin "object.__setattr__"))) (hp : PySem.W.plainOver K C = true) (ht : PySem.W.takerIn K C name = some none) (hh : PySem.W.hasDictIn K C = true)
    (hw : PySem.Within mA ns) (hsz : ns.length ≤ sizeLine)
    (h : ∀ h', ObjM h' x dx C (fun y => if y = name then some v else mA y) → Heap.SameBut dx s.heap h' → Q () { s with heap := h', toks := s.toks + 2 }) :
    wpAny (model prog w) A (setAttr (.ref x) name v) Q E s := by
  obtain ⟨od, J, hl⟩ := I.look
  refine PySem.W.set_plain X J hs (PySem.W.osa_open (s := { s with toks := s.toks + 1 }) (r := none) X J hp ht fun b => ?_)
  obtain ⟨cd, hc, hd'⟩ := PySem.W.any_some hh
  have hx : s.heap.get? x = some ⟨.ref C, some dx, .plain, #[]⟩ := I.obj
  refine wpAny_bind (wpAny_pure (wpAny_bind (wpAny_bind (wpAny_loadPart hx (wpAny_bind (PySem.W.Looks.here (s := { s with toks := s.toks + 1 }) (PySem.W.looks_clsIn X hc) ?_))))))
  rw [hd']
  refine wpAny_pure (a := some dx) (wpAny_bind (wpAny_pure (wpAny_bind ?_)))
  refine wpAny_nsSet1 (s := { s with toks := s.toks + 1 }) I.ns fun h' hn2 hs2 => ?_
  obtain ⟨oD, esD, epD, hoD, hdD, hcD⟩ := hn2.count (PySem.Within.cons name v hw)
  refine wpAny_bind (wpAny_lookBehind hoD (by rw [hdD]; exact pastItsLine_dict (Nat.le_trans hcD (by rw [List.length_cons]; omega))) ?_)
  exact wpAny_pure (h _ ⟨(hs2.2 _ (Ne.symm I.ne)).trans I.obj, hn2, I.ne⟩ hs2)

/-- C(..): the dict at the heap's end, the instance behind it; then its __init__ -/
theorem make_map {R : Result → Shared → Prop} {vs : List Value} {kw : List (Str × Value)} (X : K.In s.heap) (hm : PySem.W.makesIn K C = true)
    (hi : PySem.W.findIn K (.ref C) "__init__" = some (some (.ref f))) (hf : PySem.W.typeIn K (.ref f) = some (.type "function"))
    (h : codeAny (model prog w) (A.under (.builtin "type.__call__" ⟨.ref C :: vs, kw⟩)) (.call (.ref f) ⟨.ref (s.heap.objs.size + 1) :: vs, kw⟩) (PySem.W.InitBack (s.heap.objs.size + 1) R)
      { s with heap := (s.heap.push PySem.W.emptyDict).push (PySem.W.instObj C s.heap.objs.size) }) :
    codeAny (model prog w) A (.call (.ref C) ⟨vs, kw⟩) R s := by
  obtain ⟨hh, g, d, t, os⟩ := s
  exact PySem.W.make_core (PySem.W.makes_of X hm) (PySem.W.looks_findIn X hi) (fun self => PySem.W.bind_fn X self hf) (.inl rfl) h
/-- C() where there is no __init__ but object's -/
theorem make_map0 {R : Result → Shared → Prop} (X : K.In s.heap) (hm : PySem.W.makesIn K C = true)
    (hi : PySem.W.findIn K (.ref C) "__init__" = some (some (.builtin "object.__init__")))
    (hb : ∀ self, PySem.W.Looks (model prog w) s.heap (bindSpecial (.builtin "object.__init__") self) (.builtin "object.__init__", [self]))
    (h : codeAny (model prog w) (A.under (.builtin "type.__call__" ⟨[.ref C], []⟩)) (.call (.builtin "object.__init__") ⟨[.ref (s.heap.objs.size + 1)], []⟩) (PySem.W.InitBack (s.heap.objs.size + 1) R)
      { s with heap := (s.heap.push PySem.W.emptyDict).push (PySem.W.instObj C s.heap.objs.size) }) :
    codeAny (model prog w) A (.call (.ref C) ⟨[], []⟩) R s := by
  obtain ⟨hh, g, d, t, os⟩ := s
  exact PySem.W.make_core (PySem.W.makes_of X hm) (PySem.W.looks_findIn X hi) hb (.inr ⟨rfl, rfl⟩) h
end

/-! ### the attributes as a list of pairs -/
def putF (f : Str) (v : V) : List (Str × V) → List (Str × V)
  | [] => [(f, v)]
  | (g, x) :: r => if g = f then (g, v) :: r else (g, x) :: putF f v r
theorem lookup_putF (f g : Str) (v : V) : ∀ fs : List (Str × V), (putF f v fs).lookup g = if g = f then some v else fs.lookup g
  | [] => by
    show List.lookup g [(f, v)] = _
    by_cases h : g = f
    · have hb : (g == f) = true := beq_iff_eq.mpr h
      simp only [List.lookup, hb, if_pos h]
    · have hb : (g == f) = false := beq_eq_false_iff_ne.mpr h
      simp only [List.lookup, hb, if_neg h]
  | (k, x) :: r => by
    have ih := lookup_putF f g v r
    rw [show putF f v ((k, x) :: r) = (if k = f then (k, v) :: r else (k, x) :: putF f v r) from rfl]
    by_cases hk : k = f
    · rw [if_pos hk]
      by_cases h : g = k
      · have hb : (g == k) = true := beq_iff_eq.mpr h
        simp only [List.lookup, hb, if_pos (h.trans hk)]
      · have hb : (g == k) = false := beq_eq_false_iff_ne.mpr h
        simp only [List.lookup, hb, if_neg (fun e : g = f => h (e.trans hk.symm))]
    · rw [if_neg hk]
      by_cases h : g = k
      · have hb : (g == k) = true := beq_iff_eq.mpr h
        simp only [List.lookup, hb, if_neg (fun e : g = f => hk (h.symm.trans e))]
      · have hb : (g == k) = false := beq_eq_false_iff_ne.mpr h
        simp only [List.lookup, hb]
        exact ih
theorem keys_putF (f : Str) (v : V) : ∀ fs : List (Str × V), f ∈ (putF f v fs).map (·.1) ∧ ∀ g, g ∈ fs.map (·.1) → g ∈ (putF f v fs).map (·.1)
  | [] => ⟨by simp [putF], fun g h => by simp at h⟩
  | (k, x) :: r => by
    obtain ⟨i1, i2⟩ := keys_putF f v r
    rw [show putF f v ((k, x) :: r) = (if k = f then (k, v) :: r else (k, x) :: putF f v r) from rfl]
    by_cases hk : k = f
    · rw [if_pos hk]
      subst hk
      exact ⟨by simp, fun g h => by simpa using h⟩
    · rw [if_neg hk]
      refine ⟨?_, fun g h => ?_⟩
      · rw [List.map_cons]
        exact List.mem_cons_of_mem _ i1
      · rw [List.map_cons] at h ⊢
        rcases List.mem_cons.mp h with e | e
        · exact List.mem_cons.mpr (.inl e)
        · exact List.mem_cons_of_mem _ (i2 g e)
theorem length_putF (f : Str) (v : V) : ∀ fs : List (Str × V), (putF f v fs).length ≤ fs.length + 1
  | [] => by simp [putF]
  | (k, x) :: r => by
    have ih := length_putF f v r
    rw [show putF f v ((k, x) :: r) = (if k = f then (k, v) :: r else (k, x) :: putF f v r) from rfl]
    by_cases hk : k = f
    · rw [if_pos hk, List.length_cons, List.length_cons]; omega
    · rw [if_neg hk, List.length_cons, List.length_cons]; omega

theorem RelO.some_of {v : V} {o : Option Value} (r : RelO (some v) o) : ∃ u, o = some u ∧ RelV v u := by
  cases o with
  | none => exact (show False from r).elim
  | some u => exact ⟨u, rfl, r⟩
theorem RelO.none_of {o : Option Value} (r : RelO none o) : o = none := by
  cases o with
  | none => rfl
  | some u => exact (show False from r).elim
theorem handed_of {v : V} {u : Value} (r : RelV v u) : PySem.W.handedIn u = true := by
  cases v with
  | non => cases (show u = Value.none from r); rfl
  | bl b => cases (show u = Value.bool b from r); rfl
  | int i => obtain ⟨t, e⟩ := (show ∃ t, u = Value.int i t from r); cases e; rfl
  | str x => obtain ⟨t, e⟩ := (show ∃ t, u = Value.str x t from r); cases e; rfl
  | byt b => obtain ⟨t, e⟩ := (show ∃ t, u = Value.bytes b t from r); cases e; rfl
  | flt b => obtain ⟨t, e⟩ := (show ∃ t, u = Value.float b t from r); cases e; rfl
  | ref a => cases (show u = Value.ref a from r); rfl
  | ty n => cases (show u = Value.type n from r); rfl

section
variable {P : Program} {w : World} {H H' : Hp} {h h' : Heap} {a C dx : Addr} {fs fs' : List (Str × V)}
theorem ins_get (hok : HOk P w H h) (e : H a = some (.ins C dx fs)) : ∃ mA, ObjM h a dx C mA ∧ (∀ f, RelO (fs.lookup f) (mA f)) ∧ PySem.Within mA (fs.map (·.1)) ∧ fs.length ≤ 1000 ∧ H dx = some (.own a) := by
  obtain ⟨d, z, ne, ob, mA, n, r, q⟩ := (show ObjOk P w H h a (.ins C dx fs) from hok a _ e)
  exact ⟨mA, ⟨ob, n, ne⟩, r, q, z, d⟩
end

/-! ### what of the text a class must have -/
structure Cls (K : PySem.W.Frag) (C : Addr) : Prop where
  pg : PySem.W.plainGet K C Str.empty = true
  hd : PySem.W.hasDictIn K C = true
  po : PySem.W.plainOver K C = true
  sa : PySem.W.findIn K (.ref C) "__setattr__" = some (some (.builtin "object.__setattr__"))
theorem Cls.get {K : PySem.W.Frag} {C : Addr} (c : Cls K C) (f : Str) : PySem.W.plainGet K C f = true := c.pg
/-- no class of it has the name -/
def NoAttr (K : PySem.W.Frag) (C : Addr) (f : Str) : Prop := PySem.W.findIn K (.ref C) f = some none
theorem NoAttr.taker {K : PySem.W.Frag} {C : Addr} {f : Str} (n : NoAttr K C f) : PySem.W.takerIn K C f = some none := by
  unfold PySem.W.takerIn
  rw [show PySem.W.findIn K (.ref C) f = some none from n]
  rfl
/-- a constant of the class -/
structure Con (K : PySem.W.Frag) (C : Addr) (f : Str) (v : V) (u : Value) : Prop where
  at_ : PySem.W.findIn K (.ref C) f = some (some u)
  rel : RelV v u
  get : PySem.W.specialIn K u "__get__" = some none
  cp : PySem.W.copiedNames.contains f = false
/-- a method: a plain def of the class or of one above it -/
structure Meth (K : PySem.W.Frag) (C : Addr) (m : Str) (f : Addr) : Prop where
  at_ : PySem.W.findIn K (.ref C) m = some (some (.ref f))
  fn : PySem.W.isFn K (.ref f) = true
  kp : PySem.W.keepIn K (.ref f) = true

section
variable {X : Cx} {pins : List (Addr × Obj)} {σ : St} {H : Hp} {s : Shared} {a C dx : Addr} {fs : List (Str × V)} {f : Str} {v : V} {A : Around} {E : Value → Shared → Prop}

theorem getattr_ok {b : Bool} {Q : Value → Shared → Prop} (I : Inv X pins σ H s) (e : H a = some (.ins C dx fs)) (c : Cls X.K C) (n : NoAttr X.K C f) (l : fs.lookup f = some v)
    (h : ∀ u s', Inv X pins σ H s' → RelV v u → Q u s') : wpAny (model X.prog X.w) A (getAttr (.ref a) f b) Q E s := by
  obtain ⟨mA, O, r, _, _, _⟩ := ins_get I.hok e
  obtain ⟨u, hu, ru⟩ := RelO.some_of (v := v) (o := mA f) (by rw [← l]; exact r f)
  exact get_map I.kIn O (c.get f) c.hd n hu (handed_of ru) (h u _ (I.tok _) ru)

theorem getcon_ok {b : Bool} {u : Value} {Q : Value → Shared → Prop} (I : Inv X pins σ H s) (e : H a = some (.ins C dx fs)) (c : Cls X.K C) (k : Con X.K C f v u) (l : fs.lookup f = none)
    (h : ∀ s', Inv X pins σ H s' → Q u s') : wpAny (model X.prog X.w) A (getAttr (.ref a) f b) Q E s := by
  obtain ⟨mA, O, r, _, _, _⟩ := ins_get I.hok e
  have hn : mA f = none := RelO.none_of (by rw [← l]; exact r f)
  exact get_const I.kIn O (c.get f) c.hd k.at_ k.get k.cp hn (handed_of k.rel) (h _ (I.tok _))

theorem getmeth_ok {m : Str} {g : Addr} {pl : Sem Bool} {Q : Value × List Value → Shared → Prop} (I : Inv X pins σ H s) (e : H a = some (.ins C dx fs)) (c : Cls X.K C) (k : Meth X.K C m g) (l : fs.lookup m = none)
    (h : Q (.ref g, [.ref a]) s) : wpAny (model X.prog X.w) A (getMethod (.ref a) m pl) Q E s := by
  obtain ⟨mA, O, r, _, _, _⟩ := ins_get I.hok e
  have hn : mA m = none := RelO.none_of (by rw [← l]; exact r m)
  exact get_meth I.kIn O (c.get m) k.at_ k.fn hn h

theorem setattr_ok {y : V} {u : Value} {Q : Unit → Shared → Prop} (I : Inv X pins σ H s) (e : H a = some (.ins C dx fs)) (c : Cls X.K C) (n : NoAttr X.K C f) (hl : fs.length < 1000) (ry : RelV y u)
    (h : ∀ s', Inv X pins σ (upd H a (.ins C dx (putF f y fs))) s' → Q () s') : wpAny (model X.prog X.w) A (setAttr (.ref a) f u) Q E s := by
  obtain ⟨mA, O, r, wi, _, ho⟩ := ins_get I.hok e
  have hz : (fs.map (·.1)).length ≤ sizeLine := by rw [List.length_map, sizeLine_eq]; omega
  refine set_map I.kIn O c.sa c.po n.taker c.hd wi hz fun h' O' sb => h _ ?_
  have hd : ∃ o, h'.get? dx = some o := let ⟨o, _, _, e', _⟩ := O'.ns; ⟨o, e'⟩
  refine I.write (x := a) (e := dx) (by rw [e]; exact True.intro) (.inr ho) (fun b q hb z => (sb.2 b hb).trans z) hd ?_
  refine ⟨by rw [upd_ne O.ne]; exact ho, ?_, O.ne, O'.obj, _, O'.ns, fun g => ?_, fun g hg => ?_⟩
  · have := length_putF f y fs; omega
  · show RelO ((putF f y fs).lookup g) (if g = f then some u else mA g)
    rw [lookup_putF]
    by_cases q : g = f
    · rw [if_pos q, if_pos q]; exact ry
    · rw [if_neg q, if_neg q]; exact r g
  · by_cases q : g = f
    · rw [q]; exact (keys_putF f y fs).1
    · refine (keys_putF f y fs).2 g (wi g fun z => hg ?_)
      show (if g = f then some u else mA g) = none
      rw [if_neg q]; exact z

/-- a new instance, tracked, without attributes -/
theorem Inv.made (I : Inv X pins σ H s) : Inv X pins σ (upd (upd H s.heap.objs.size (.own (s.heap.objs.size + 1))) (s.heap.objs.size + 1) (.ins C s.heap.objs.size []))
    { s with heap := (s.heap.push PySem.W.emptyDict).push (PySem.W.instObj C s.heap.objs.size) } := by
  have e1 : (s.heap.push PySem.W.emptyDict).get? s.heap.objs.size = some PySem.W.emptyDict := Heap.get?_push_size s.heap rfl
  have e2 : ((s.heap.push PySem.W.emptyDict).push (PySem.W.instObj C s.heap.objs.size)).get? (s.heap.objs.size + 1) = some (PySem.W.instObj C s.heap.objs.size) := by
    have := Heap.get?_push_size (s.heap.push PySem.W.emptyDict) (o := PySem.W.instObj C s.heap.objs.size) rfl
    rwa [Heap.size_push] at this
  have e3 : (s.heap.push PySem.W.emptyDict).Ns s.heap.objs.size (fun _ => none) := ⟨PySem.W.emptyDict, #[], _, e1, rfl, (fun e he => absurd he (by simp)), fun _ => rfl⟩
  have I1 := I.laid (a := s.heap.objs.size) (o := .own (s.heap.objs.size + 1)) (h' := s.heap.push PySem.W.emptyDict) (t' := s.toks) (fun b u q => Heap.get?_push_of_some _ q) (Nat.le_refl _) ⟨_, e1⟩
  refine I1.laid (a := s.heap.objs.size + 1) (o := .ins C s.heap.objs.size []) (t' := s.toks) (fun b u q => Heap.get?_push_of_some _ q) (Nat.le_of_eq (Heap.size_push _ _)) ?_
  have ne : s.heap.objs.size ≠ s.heap.objs.size + 1 := Nat.ne_of_lt (Nat.lt_succ_self _)
  refine ⟨by rw [upd_ne ne, upd_same], Nat.zero_le _, ne, e2, fun _ => none, (Heap.Ns1.of_empty e3).at fun o q => Heap.get?_push_of_some _ q, fun _ => True.intro, fun y hy => absurd rfl hy⟩

/-- e.f where nothing but the object is asked: through attributeBase (super) and the last hold -/
theorem attr_of {prog : Program} {w : World} {env : Env} {e : Expr} {f : Str} {pos : Pos} {s : Shared} {Q : Value → Shared → Prop} (hb : attributeBase e f env (eval e env) = eval e env)
    (h : wpAny (model prog w) A (eval e env) (fun o s₁ => wpAny (model prog w) A (getAttr o f true) Q E s₁) E s) : wpAny (model prog w) A (eval (.Attribute e f pos) env) Q E s :=
  Attribute_any_ h (by rw [arm_eval_Attribute, hb])
end

/-! ### readings and rules -/
/-- e.f, an attribute of the instance -/
def tFld (K : PySem.W.Frag) (ta : TE) (f : Str) : TE := fun σ H Q => ta σ H fun x H1 => ∃ a C dx fs v, x = .ref a ∧ H1 a = some (.ins C dx fs) ∧ Cls K C ∧ NoAttr K C f ∧ fs.lookup f = some v ∧ Q v H1
/-- e.f, a constant of the class -/
def tCon (K : PySem.W.Frag) (ta : TE) (f : Str) : TE := fun σ H Q => ta σ H fun x H1 => ∃ a C dx fs v u, x = .ref a ∧ H1 a = some (.ins C dx fs) ∧ Cls K C ∧ Con K C f v u ∧ fs.lookup f = none ∧ Q v H1
/-- e.f = value -/
def sFld (K : PySem.W.Frag) (ta tv : TE) (f : Str) : TS := fun D σ H => tv σ H fun y H1 => ta σ H1 fun x H2 => ∃ a C dx fs, x = .ref a ∧ H2 a = some (.ins C dx fs) ∧ Cls K C ∧ NoAttr K C f ∧ fs.length < 1000 ∧
  D.nx σ (upd H2 a (.ins C dx (putF f y fs)))
/-- an augmented operator on two values -/
def InOp (X : Cx) (op : Operator) (rd : V → V → Hp → VK → Prop) : Prop :=
  ∀ (pins : List (Addr × Obj)) (s : Shared) (σ : St) (H : Hp) (x y : V) (u v : Value) (Q : VK), Inv X pins σ H s → RelV x u → RelV y v → rd x y H Q → wpAny (model X.prog X.w) X.A (inplaceOp op u v) (EP X pins σ Q) X.xe s
/-- e.f op= value -/
def sFldAug (K : PySem.W.Frag) (ta tv : TE) (rd : V → V → Hp → VK → Prop) (f : Str) : TS := fun D σ H => ta σ H fun x H1 => ∃ a C dx fs v, x = .ref a ∧ H1 a = some (.ins C dx fs) ∧ Cls K C ∧ NoAttr K C f ∧ fs.lookup f = some v ∧
  tv σ H1 fun y H2 => rd v y H2 fun z H3 => ∃ dx' fs', H3 a = some (.ins C dx' fs') ∧ fs'.length < 1000 ∧ D.nx σ (upd H3 a (.ins C dx' (putF f z fs')))

section
variable {X : Cx} {o e value : Expr} {f : Str} {pos pos' tpos : Pos} {ta tv : TE}
theorem pe_fld (he : PE X e ta) (hb : attributeBase e f X.env (eval e X.env) = eval e X.env) : PE X (.Attribute e f pos) (tFld X.K ta f) := by
  intro pins s σ H Q I h
  refine attr_of hb (thn (he pins s σ H _ I h) fun u s1 ⟨x, H1, I1, rx, a, C, dx, fs, v, ex, ea, c, n, l, q⟩ => ?_)
  subst ex
  obtain rfl : u = Value.ref a := rx
  exact getattr_ok I1 ea c n l fun u' s2 I2 ru => ⟨v, H1, I2, ru, q⟩
theorem pe_con (he : PE X e ta) (hb : attributeBase e f X.env (eval e X.env) = eval e X.env) : PE X (.Attribute e f pos) (tCon X.K ta f) := by
  intro pins s σ H Q I h
  refine attr_of hb (thn (he pins s σ H _ I h) fun u s1 ⟨x, H1, I1, rx, a, C, dx, fs, v, u0, ex, ea, c, k, l, q⟩ => ?_)
  subst ex
  obtain rfl : u = Value.ref a := rx
  exact getcon_ok I1 ea c k l fun s2 I2 => ⟨v, H1, I2, k.rel, q⟩
theorem ps_fld (ha : PE X o ta) (hv : PE X value tv) (hs : swapsWith value (some (.Attribute o f pos')) pos.line X.env = pure false) : PS X (.Assign [.Attribute o f pos'] value pos) (sFld X.K ta tv f) := by
  intro pins s σ H D I h
  refine plainObj_wpAny_Assign_Attribute (thn (hv pins s σ H _ I h) fun u s1 ⟨y, H1, I1, ry, q⟩ => thn (ha pins s1 σ H1 _ I1 q) fun ov s2 ⟨x, H2, I2, rx, a, C, dx, fs, ex, ea, c, n, l, q2⟩ => ?_) hs
  subst ex
  obtain rfl : ov = Value.ref a := rx
  exact setattr_ok I2 ea c n l ry fun s3 I3 => ⟨σ, _, I3, q2⟩
theorem ps_fldaug {op : Operator} {rd : V → V → Hp → VK → Prop} (ha : PE X o ta) (hv : PE X value tv) (hop : InOp X op rd) : PS X (.AugAssign (.Attribute o f tpos) op value pos) (sFldAug X.K ta tv rd f) := by
  intro pins s σ H D I h
  refine wpAny_AugAssign_AttributeAny (thn (ha pins s σ H _ I h) fun ov s1 ⟨x, H1, I1, rx, a, C, dx, fs, v, ex, ea, c, n, l, q⟩ => ?_)
  subst ex
  obtain rfl : ov = Value.ref a := rx
  refine getattr_ok I1 ea c n l fun u s2 I2 ru => thn (hv pins s2 σ H1 _ I2 q) fun w3 s3 ⟨y, H2, I3, ry, q3⟩ => thn (hop pins s3 σ H2 v y u w3 _ I3 ru ry q3) fun w4 s4 ⟨z, H3, I4, rz, dx', fs', ea', l', q4⟩ => ?_
  exact setattr_ok I4 ea' c n l' rz fun s5 I5 => ⟨σ, _, I5, q4⟩
def rAdd : V → V → Hp → VK → Prop := fun x y H Q => ∃ i j, x = .int i ∧ y = .int j ∧ Q (.int (i + j)) H
def rSub : V → V → Hp → VK → Prop := fun x y H Q => ∃ i j, x = .int i ∧ y = .int j ∧ Q (.int (i - j)) H
theorem in_add : InOp X .Add rAdd := by
  rintro pins s σ H x y u v Q I rx ry ⟨i, j, rfl, rfl, q⟩
  obtain ⟨t, rfl⟩ := (show ∃ t, u = Value.int i t from rx)
  obtain ⟨t', rfl⟩ := (show ∃ t', v = Value.int j t' from ry)
  exact PyProof.Rows.iadd_int ⟨.int (i + j), H, I.tok _, ⟨_, rfl⟩, q⟩
theorem in_sub : InOp X .Sub rSub := by
  rintro pins s σ H x y u v Q I rx ry ⟨i, j, rfl, rfl, q⟩
  obtain ⟨t, rfl⟩ := (show ∃ t, u = Value.int i t from rx)
  obtain ⟨t', rfl⟩ := (show ∃ t', v = Value.int j t' from ry)
  exact PyProof.Rows.isub_int ⟨.int (i - j), H, I.tok _, ⟨_, rfl⟩, q⟩

/-- what is between an instance and its method: the tree of a method call -/
theorem methcall_of {pl : Sem Bool} {m : Str} {apos : Pos} {args : List Expr} {pins : List (Addr × Obj)} {s : Shared} {σ : St} {H : Hp} {Q : Value → Shared → Prop} {te : TE} (he : PE X e te) (I : Inv X pins σ H s)
    (h : te σ H fun x H1 => ∃ a C dx fs g, x = .ref a ∧ H1 a = some (.ins C dx fs) ∧ Cls X.K C ∧ Meth X.K C m g ∧ fs.lookup m = none ∧
      ∀ s1, Inv X pins σ H1 s1 → wpAny (model X.prog X.w) X.A (callWith pos (.ref g) [.ref a] (backTo pos (starEach args X.env)) (backToKw pos (keywordEach [] X.env))) Q X.xe s1)
    (ht : eval (.Call (.Attribute e m apos) args [] pos) X.env = (do
      let ov ← eval e X.env
      standAt apos.atName
      let (f, first) ← holding [ov] (getMethod ov m pl)
      callWith pos f first (backTo pos (starEach args X.env)) (backToKw pos (keywordEach [] X.env)))) :
    wpAny (model X.prog X.w) X.A (eval (.Call (.Attribute e m apos) args [] pos) X.env) Q X.xe s := by
  refine PySem.W.methodCall_KW (pl := pl) (thn (he pins s σ H _ I h) fun u s1 ⟨x, H1, I1, rx, a, C, dx, fs, g, ex, ea, c, k, l, q⟩ => ?_) ht
  subst ex
  obtain rfl : u = Value.ref a := rx
  exact getmeth_ok I1 ea c k l (q s1 I1)
end

/-! ### isinstance -/
section
variable {X : Cx} {pins : List (Addr × Obj)} {σ : St} {H : Hp} {s : Shared} {A : Around} {E : Value → Shared → Prop} {Q : Value → Shared → Prop} {c : Value} {b : Bool}
/-- the type of a value, as the fragment's deciders take it; for an instance its class -/
inductive TyOf (K : PySem.W.Frag) (H : Hp) : V → Value → Prop where
  | non : TyOf K H .non (.type "NoneType")
  | bl (x : Bool) : TyOf K H (.bl x) (.type "bool")
  | int (i : Int) : TyOf K H (.int i) (.type "int")
  | str (x : Str) : TyOf K H (.str x) (.type "str")
  | flt (x : UInt64) : TyOf K H (.flt x) (.type "float")
  | lst {a : Addr} {xs : List V} (e : H a = some (.lst xs)) : TyOf K H (.ref a) (.type "list")
  | frz {a : Addr} {o : Obj} {xs : List V} (e : H a = some (.frz o (.lst xs))) : TyOf K H (.ref a) (.type "list")
  | tup {a : Addr} {xs : List V} (e : H a = some (.tup xs)) : TyOf K H (.ref a) (.type "tuple")
  | dK {a : Addr} {kvs : List (Key × V)} (e : H a = some (.dK kvs)) : TyOf K H (.ref a) (.type "dict")
  | dT {a : Addr} {kvs : List (List Key × V)} (e : H a = some (.dT kvs)) : TyOf K H (.ref a) (.type "dict")
  | ins {a C dx : Addr} {fs : List (Str × V)} (e : H a = some (.ins C dx fs)) (cl : Cls K C) (ha : PySem.W.findIn K (.ref C) "__class__" = some (some (.builtin "object.__class__")))
      (hn : PySem.W.specialIn K (.builtin "object.__class__") "__get__" = some (some (.builtin "getset_descriptor.__get__"))) (htk : PySem.W.takesIn K (.builtin "object.__class__") = some true)
      (hm : PySem.W.mroIn K C (.type "object") = some true) : TyOf K H (.ref a) (.ref C)
/-- isinstance(x, c) for one class c, a built-in or an own one: kitOne's answer -/
theorem isinst_ok {x : V} {u t : Value} (I : Inv X pins σ H s) (rx : RelV x u) (ty : TyOf X.K H x t) (e : PySem.W.kitOne X.K t c = some b) (h : ∀ tk, Q (.bool b) { s with toks := tk }) :
    wpAny (model X.prog X.w) A (call (.builtin "isinstance") [u, c]) Q E s := by
  cases ty with
  | non => cases (show u = Value.none from rx); exact PySem.W.kia_one PySem.W.kitx_none I.kIn True.intro e (fun z => nomatch z) h
  | bl y => cases (show u = Value.bool y from rx); exact PySem.W.kia_one PySem.W.kitx_bool I.kIn True.intro e (fun z => nomatch z) h
  | int i => obtain ⟨t, q⟩ := (show ∃ t, u = Value.int i t from rx); cases q; exact PySem.W.kia_one PySem.W.kitx_int I.kIn True.intro e (fun z => nomatch z) h
  | str y => obtain ⟨t, q⟩ := (show ∃ t, u = Value.str y t from rx); cases q; exact PySem.W.kia_one PySem.W.kitx_str I.kIn True.intro e (fun z => nomatch z) h
  | flt y => obtain ⟨t, q⟩ := (show ∃ t, u = Value.float y t from rx); cases q; exact PySem.W.kia_one PySem.W.kitx_float I.kIn True.intro e (fun z => nomatch z) h
  | @lst a xs ea =>
    cases (show u = Value.ref a from rx)
    obtain ⟨_, _, n, _, h1⟩ := (show ObjOk X.prog X.w H s.heap a (.lst xs) from I.hok a _ ea)
    exact PySem.W.kia_one PySem.W.kitx_list I.kIn ⟨_, h1, rfl⟩ e (fun z => nomatch z) h
  | @frz a ob xs ea =>
    cases (show u = Value.ref a from rx)
    obtain ⟨_, _, _, n, _, h1⟩ := (show ObjOk X.prog X.w H s.heap a (.frz ob (.lst xs)) from I.hok a _ ea)
    exact PySem.W.kia_one PySem.W.kitx_list I.kIn ⟨_, h1, rfl⟩ e (fun z => nomatch z) h
  | @tup a xs ea =>
    cases (show u = Value.ref a from rx)
    obtain ⟨_, _, _, p⟩ := (show ObjOk X.prog X.w H s.heap a (.tup xs) from I.hok a _ ea)
    obtain ⟨o, h1, h2, _⟩ := p
    exact PySem.W.kia_one PySem.W.kitx_tuple I.kIn ⟨o, h1, h2⟩ e (fun z => nomatch z) h
  | @dK a kvs ea =>
    cases (show u = Value.ref a from rx)
    obtain ⟨_, _, vs, _, p⟩ := (show ObjOk X.prog X.w H s.heap a (.dK kvs) from I.hok a _ ea)
    obtain ⟨o, es, ep, h1, h2, _⟩ := p
    exact PySem.W.kia_one PySem.W.kitx_dict I.kIn ⟨o, h1, h2.1⟩ e (fun z => nomatch z) h
  | @dT a kvs ea =>
    cases (show u = Value.ref a from rx)
    obtain ⟨_, _, xs, _, o, es, ep, h1, h2, _⟩ := (show ObjOk X.prog X.w H s.heap a (.dT kvs) from I.hok a _ ea)
    exact PySem.W.kia_one PySem.W.kitx_dict I.kIn ⟨o, h1, h2.1⟩ e (fun z => nomatch z) h
  | @ins a C dx fs ea cl ha hn htk hm =>
    cases (show u = Value.ref a from rx)
    obtain ⟨mA, O, _⟩ := ins_get I.hok ea
    obtain ⟨od, J, _⟩ := O.look
    exact PySem.W.kia_one (PySem.W.kitx_own (cl.get _) cl.hd ha hn htk hm) I.kIn J e (fun z => nomatch z) h
end
end L2

namespace L2
open PySem PySem.Spec PyProof.Rows

/-! ### room -/
structure Room (k : Nat) (A : Around) : Prop where
  hd : A.handled = none
  dp : A.depth + 3 * k + 5 < recursionLimit
  un : A.units + 16 * k + 200 < cLine
theorem Room.mono {j k : Nat} {A : Around} (r : Room k A) (h : j ≤ k) : Room j A := ⟨r.hd, by have := r.dp; omega, by have := r.un; omega⟩
theorem Room.deeper {k : Nat} {A : Around} (r : Room (k + 1) A) (env : Env) : Room k (A.deeper env) :=
  ⟨r.hd, by have := r.dp; show A.depth + 1 + 3 * k + 5 < _; omega, by have := r.un; show A.units + 3 + 16 * k + 200 < _; omega⟩
theorem Room.in1 {k : Nat} {A : Around} (r : Room (k + 1) A) : Room k A.in1 :=
  ⟨r.hd, by have := r.dp; show A.depth + 3 * k + 5 < _; omega, by have := r.un; show A.units + 1 + 16 * k + 200 < _; omega⟩
theorem make_depth {A : Around} {C : Addr} {us : List Value} {kw : List (Str × Value)} : (A.under (.builtin "type.__call__" ⟨.ref C :: us, kw⟩)).depth = A.depth + 1 := by
  first | rfl | simp [Around.under, Code.weight, Code.isCreation, Code.isGuard, Code.isCaller, Code.frames, Code.isFrame, guardIds]
theorem make_units {A : Around} {C : Addr} {us : List Value} {kw : List (Str × Value)} : (A.under (.builtin "type.__call__" ⟨.ref C :: us, kw⟩)).units = A.units + 1 := by
  first | rfl | simp [Around.under, Code.cUnits, Code.frames, Code.isFrame]
theorem Room.make {k : Nat} {A : Around} (r : Room (k + 1) A) (C : Addr) (us : List Value) (kw : List (Str × Value)) : Room k (A.under (.builtin "type.__call__" ⟨.ref C :: us, kw⟩)) :=
  ⟨r.hd, by have := r.dp; rw [make_depth]; omega, by have := r.un; rw [make_units]; omega⟩
theorem Room.depth {k : Nat} {A : Around} (r : Room k A) : A.depth < recursionLimit := by have := r.dp; omega
theorem Room.units {k : Nat} {A : Around} (r : Room k A) : A.units + 64 < cLine := by have := r.un; omega
theorem Room.units0 {k : Nat} {A : Around} (r : Room k A) : A.units < cLine := by have := r.un; omega

/-! ### argument lists and displays -/
def tNil : TA := fun _ H Q => Q [] H
def tCons (ta : TE) (tr : TA) : TA := fun σ H Q => ta σ H fun x H1 => tr σ H1 fun xs H2 => Q (x :: xs) H2
section
variable {X : Cx} {e : Expr} {es : List Expr} {te : TE} {t : TA} {pos : Pos}
theorem pa_nil : PA X [] tNil := fun _ _ _ _ H Q I h => Calls.spliced_nil ⟨[], H, I, .nil, h⟩
theorem pa_cons (ha : PE X e te) (hr : PA X es t) (hs : starEach (e :: es) X.env = (false, eval e X.env) :: starEach es X.env := by rfl) : PA X (e :: es) (tCons te t) := by
  intro pos pins s σ H Q I h
  rw [hs]
  show wpAny _ _ (spliced ((false, eval e X.env) :: backTo pos (starEach es X.env))) _ _ s
  refine Calls.spliced_cons (thn (ha pins s σ H _ I h) fun u s1 ⟨x, H1, I1, r1, q1⟩ => ?_)
  exact thn (hr pos pins s1 σ H1 _ I1 q1) fun us s2 ⟨xs, H2, I2, r2, q2⟩ => ⟨x :: xs, H2, I2, .cons r1 r2, q2⟩

/-- a tuple, a list of written items -/
def tTup (t : TA) : TE := fun σ H Q => t σ H fun xs H1 => xs.length ≤ sizeLine ∧ ∀ p, H1 p = none → Q (.ref p) (upd H1 p (.tup xs))
def tLst (t : TA) : TE := fun σ H Q => t σ H fun xs H1 => xs.length ≤ sizeLine ∧ ∀ p, H1 p = none → Q (.ref p) (upd H1 p (.lst xs))
theorem pe_tup {x1} (h : PA X es t) : PE X (.Tuple es x1 pos) (tTup t) := by
  intro pins s σ H Q I hq
  refine wpAny_Tuple_spliced (thn (h pos pins s σ H _ I hq) fun us s1 ⟨xs, H1, I1, r, z, q⟩ => ⟨by rw [← r.length]; exact z, ?_⟩)
  have hf : H1 s1.heap.objs.size = none := I1.hok.fresh (Nat.le_refl _)
  refine ⟨.ref s1.heap.objs.size, upd H1 s1.heap.objs.size (.tup xs), I1.laid (t' := s1.toks) (fun b u e => Heap.get?_push_of_some _ e) (Nat.le_refl _) ?_, rfl, q _ hf⟩
  exact ⟨z, us, r, ⟨_, Heap.get?_push_size _ rfl, rfl, _, rfl⟩⟩
theorem pe_lst (h : PA X es t) : PE X (.List es pos) (tLst t) := by
  intro pins s σ H Q I hq
  refine wpAny_List_spliced (thn (h pos pins s σ H _ I hq) fun us s1 ⟨xs, H1, I1, r, z, q⟩ => ⟨by rw [← r.length]; exact z, ?_⟩)
  have hf : H1 s1.heap.objs.size = none := I1.hok.fresh (Nat.le_refl _)
  refine ⟨.ref s1.heap.objs.size, upd H1 s1.heap.objs.size (.lst xs), I1.laid (t' := s1.toks) (fun b u e => Heap.get?_push_of_some _ e) (Nat.le_refl _) ?_, rfl, q _ hf⟩
  exact ⟨z, us, 0, r, Heap.get?_push_size _ rfl⟩
end

/-! ### what a def promises -/
/-- a def's promise: the bound arguments in the parameters' order, the heap, the wanted end, the wanted exception -/
abbrev Sp := List V → Hp → VK → XK → Prop
/-- how an exception lies behind a call (file 08 gives it): the callers' frames, abstract heap and state ahead of the call, the wish, the exception, the state -/
abbrev CXT := List Env → Hp → Shared → XK → Value → Shared → Prop

/-- the state at a call -/
structure Env0 (P : Program) (w : World) (K : PySem.W.Frag) (mg : Str → Option Value) (base : Heap) (A : Around) (outer : List Env) (s : Shared) (H : Hp) : Prop where
  frames : A.frames = some outer
  mod : Mod K mg base
  bs : ∀ b o, base.get? b = some o → s.heap.get? b = some o ∧ H b = none
  bsz : base.objs.size ≤ s.heap.objs.size
  funs : s.heap.FunFrames base outer
  frf : ∀ b ∈ frs outer, H b = none
  hok : HOk P w H s.heap
  bare : AllBare s.gens
/-- a call's end -/
def CE (outer : List Env) (P : Program) (w : World) (H : Hp) (s : Shared) (Q : VK) (u : Value) (s' : Shared) : Prop :=
  ∃ v H', s'.os = s.os ∧ AllBare s'.gens ∧ Un (frs outer) [] H H' s.heap s'.heap ∧ HOk P w H' s'.heap ∧ RelV v u ∧ Q v H'
def CR (CX : CXT) (outer : List Env) (P : Program) (w : World) (H : Hp) (s : Shared) (Q : VK) (E : XK) (r : Result) (s' : Shared) : Prop :=
  match r with
  | .ok (.ret u) => CE outer P w H s Q u s'
  | .ok _ => False
  | .error e => CX outer H s E e s'
structure FnOk (P : Program) (w : World) (K : PySem.W.Frag) (mg : Str → Option Value) (base : Heap) (CX : CXT) (k : Nat) (f : Addr) (fd : FuncData) (ps : List Str) (sp : Sp) : Prop where
  len : ∀ vs H Q E, sp vs H Q E → vs.length = ps.length
  run : ∀ (A : Around) (outer : List Env) (s : Shared) (H : Hp) (args : Args) (us : List Value) (vs : List V) (Q : VK) (E : XK), Room k A → Env0 P w K mg base A outer s H → BindsTo s fd args (ps.zip us) → Vals vs us → sp vs H Q E →
    codeAny (model P w) A (.call (.ref f) args) (CR CX outer P w H s Q E) s
theorem FnOk.mono {P : Program} {w : World} {K : PySem.W.Frag} {mg : Str → Option Value} {base : Heap} {CX : CXT} {j k : Nat} {f : Addr} {fd : FuncData} {ps : List Str} {sp : Sp} (F : FnOk P w K mg base CX j f fd ps sp) (h : j ≤ k) :
    FnOk P w K mg base CX k f fd ps sp := ⟨F.len, fun A outer s H args us vs Q E hr => F.run A outer s H args us vs Q E (hr.mono h)⟩
/-- a weaker promise -/
theorem FnOk.imp {P : Program} {w : World} {K : PySem.W.Frag} {mg : Str → Option Value} {base : Heap} {CX : CXT} {k : Nat} {f : Addr} {fd : FuncData} {ps : List Str} {sp sp' : Sp} (F : FnOk P w K mg base CX k f fd ps sp)
    (h : ∀ vs H Q E, sp' vs H Q E → sp vs H Q E) : FnOk P w K mg base CX k f fd ps sp' :=
  ⟨fun vs H Q E q => F.len vs H Q E (h _ _ _ _ q), fun A outer s H args us vs Q E hr he hb hv hs => F.run A outer s H args us vs Q E hr he hb hv (h _ _ _ _ hs)⟩

theorem Env0.make {P : Program} {w : World} {K : PySem.W.Frag} {mg : Str → Option Value} {base : Heap} {A : Around} {outer : List Env} {s : Shared} {H : Hp} (e : Env0 P w K mg base A outer s H) (C : Addr) (us : List Value) (kw : List (Str × Value)) :
    Env0 P w K mg base (A.under (.builtin "type.__call__" ⟨.ref C :: us, kw⟩)) outer s H := ⟨by first | exact e.frames | (simpa [Around.under, Code.envs, Code.isFrame, pushEnvs] using e.frames), e.mod, e.bs, e.bsz, e.funs, e.frf, e.hok, e.bare⟩
theorem Env0.in1 {P : Program} {w : World} {K : PySem.W.Frag} {mg : Str → Option Value} {base : Heap} {A : Around} {outer : List Env} {s : Shared} {H : Hp} (e : Env0 P w K mg base A outer s H) :
    Env0 P w K mg base A.in1 outer s H := ⟨e.frames, e.mod, e.bs, e.bsz, e.funs, e.frf, e.hok, e.bare⟩

section
variable {X : Cx} {pins : List (Addr × Obj)} {σ : St} {H : Hp} {s s' : Shared}
/-- from a body: what a callee wants -/
theorem Inv.env0 (I : Inv X pins σ H s) : Env0 X.prog X.w X.K X.mg X.base X.A X.stack s H :=
  ⟨I.ok.frames, I.ok.mod, I.bs, Nat.le_trans I.ok.bsz I.sz, I.stack, I.stkFree, I.hok, I.bare⟩
/-- behind a call -/
theorem Inv.after {Q : VK} {u : Value} (I : Inv X pins σ H s) (h : CE X.stack X.prog X.w H s Q u s') : EP X pins σ Q u s' := by
  obtain ⟨v, H', os, bare, un, hok, r, q⟩ := h
  obtain ⟨hh, g, d, t, os'⟩ := s'
  obtain rfl : os' = s.os := os
  exact ⟨v, H', I.call (h' := hh) (g' := g) (d' := d) (t' := t) (ch := []) un hok bare (fun b z => absurd z (by simp)), r, q⟩
end

/-! ### calls -/
/-- f(..): the written arguments, then the defaults dvs; E: what is wanted of an exception -/
def tCall (sp : Sp) (dvs : List V) (E : XK) (t : TA) : TE := fun σ H Q => t σ H fun vs H1 => sp (vs ++ dvs) H1 Q E
/-- o.m(..) of an instance of the class at C -/
def tMeth (C : Addr) (m : Str) (sp : Sp) (dvs : List V) (E : XK) (ta : TE) (t : TA) : TE := fun σ H Q => ta σ H fun x H1 => ∃ a dx fs, x = .ref a ∧ H1 a = some (.ins C dx fs) ∧ fs.lookup m = none ∧
  t σ H1 fun vs H2 => sp (x :: (vs ++ dvs)) H2 Q E
/-- C(..): a new instance and its dict, then __init__ -/
def tMake (C : Addr) (sp : Sp) (dvs : List V) (E : XK) (t : TA) : TE := fun σ H Q => t σ H fun vs H1 => ∀ x dx, H1 x = none → H1 dx = none → dx ≠ x →
  sp (.ref x :: (vs ++ dvs)) (upd (upd H1 dx (.own x)) x (.ins C dx [])) (fun v H2 => v = .non ∧ Q (.ref x) H2) E

/-- how the parameters are bound: us the positional arguments, kw the keywords' values by name, ds the defaults that fill up -/
def Binds (K : PySem.W.Frag) (fd : FuncData) (ps : List Str) (ds : List Value) : Prop :=
  ∀ (s : Shared) (us : List Value), K.In s.heap → (us ++ ds).length = ps.length → BindsTo s fd ⟨us, []⟩ (ps.zip (us ++ ds))
/-- every parameter is given -/
theorem Binds.all {K : PySem.W.Frag} {fd : FuncData} {ps : List Str} (h : ∀ us : List Value, us.length = ps.length → bindArgs fd ⟨us, []⟩ = pure (ps.zip us)) : Binds K fd ps [] := fun s us _ hl => by
  rw [List.append_nil] at hl ⊢
  exact .of_eq (h us hl)

/-- an exception of a callee reaches what this body wants of exceptions -/
def Passes (CX : CXT) (X : Cx) (E : XK) : Prop := ∀ (pins : List (Addr × Obj)) (σ : St) (H : Hp) (s : Shared) (e : Value) (s' : Shared), Inv X pins σ H s → CX X.stack H s E e s' → X.xe e s'

section
variable {X : Cx} {CX : CXT} {k : Nat} {f C : Addr} {fd : FuncData} {ps : List Str} {sp : Sp} {dvs : List V} {ds : List Value} {E : XK} {x m : Str} {p pos apos : Pos} {e o : Expr} {es : List Expr} {ta : TE} {t : TA}

/-- the callee runs -/
theorem run_fn {pins : List (Addr × Obj)} {σ : St} {H : Hp} {s : Shared} {Q : VK} {us : List Value} {vs : List V} (F : FnOk X.prog X.w X.K X.mg X.base CX k f fd ps sp) (hr : Room k X.A) (hb : Binds X.K fd ps ds) (hd : Vals dvs ds) (hx : Passes CX X E)
    (I : Inv X pins σ H s) (r : Vals vs us) (h : sp (vs ++ dvs) H Q E) : wpAny (model X.prog X.w) X.A (call (.ref f) us) (EP X pins σ Q) X.xe s := by
  have r2 : Vals (vs ++ dvs) (us ++ ds) := r.append hd
  have hl : (us ++ ds).length = ps.length := by rw [← r2.length]; exact F.len _ _ _ _ h
  refine wpAny_call (codeAny_mono (F.run X.A X.stack s H ⟨us, []⟩ (us ++ ds) (vs ++ dvs) Q E hr I.env0 (hb s us I.kIn hl) r2 h) fun r s' hq => ?_)
  cases r with
  | error e => exact hx pins σ H s e s' I hq
  | ok fl =>
    cases fl with
    | ret u => exact I.after hq
    | next => exact False.elim hq
    | brk => exact False.elim hq
    | cont => exact False.elim hq

theorem pe_call (F : FnOk X.prog X.w X.K X.mg X.base CX k f fd ps sp) (hr : Room k X.A) (hg : Gl X x) (hm : X.mg x = some (.ref f)) (hk : PySem.W.keepIn X.K (.ref f) = true) (hb : Binds X.K fd ps ds) (hd : Vals dvs ds) (hx : Passes CX X E)
    (ha : PA X (e :: es) t) (hdb : (x == ("__debug__" : Str)) = false := by decide) (he : starEach (e :: es) X.env = (false, eval e X.env) :: starEach es X.env := by rfl) (hpl : (backTo pos (starEach es X.env)).any (·.1) = false := by rfl) :
    PE X (.Call (.Name x p) (e :: es) [] pos) (tCall sp dvs E t) := by
  intro pins s σ H Q I h
  refine wpAny_Call_Name_kw (ld_glob I hg hm ?_ hdb)
  refine PySem.W.callWith_K (h₀ := X.base) I.ok.mod.kin hk (thn (ha pos pins s σ H _ I h) fun us s1 ⟨vs, H1, I1, r, q⟩ => ⟨I1.kIn, ?_⟩) he hpl
  exact run_fn F hr hb hd hx I1 r q
theorem pe_call0 (F : FnOk X.prog X.w X.K X.mg X.base CX k f fd ps sp) (hr : Room k X.A) (hg : Gl X x) (hm : X.mg x = some (.ref f)) (hk : PySem.W.keepIn X.K (.ref f) = true) (hb : Binds X.K fd ps ds) (hd : Vals dvs ds) (hx : Passes CX X E)
    (hdb : (x == ("__debug__" : Str)) = false := by decide) : PE X (.Call (.Name x p) [] [] pos) (tCall sp dvs E tNil) := by
  intro pins s σ H Q I h
  refine wpAny_Call_Name_kw (ld_glob I hg hm ?_ hdb)
  exact PySem.W.callWith_K0 I.kIn hk (run_fn (us := []) F hr hb hd hx I .nil h)

/-- o.m(e, ..) -/
theorem pe_meth {pl : Sem Bool} (he : PE X o ta) (c : Cls X.K C) (hm : Meth X.K C m f) (F : FnOk X.prog X.w X.K X.mg X.base CX k f fd ps sp) (hr : Room k X.A) (hb : Binds X.K fd ps ds) (hd : Vals dvs ds) (hx : Passes CX X E) (ha : PA X (e :: es) t)
    (hst : starEach (e :: es) X.env = (false, eval e X.env) :: starEach es X.env := by rfl) (hpl : (backTo pos (starEach es X.env)).any (·.1) = false := by rfl)
    (ht : eval (.Call (.Attribute o m apos) (e :: es) [] pos) X.env = (do
      let ov ← eval o X.env
      standAt apos.atName
      let (f, first) ← holding [ov] (getMethod ov m pl)
      callWith pos f first (backTo pos (starEach (e :: es) X.env)) (backToKw pos (keywordEach [] X.env))) := by rfl) :
    PE X (.Call (.Attribute o m apos) (e :: es) [] pos) (tMeth C m sp dvs E ta t) := by
  intro pins s σ H Q I h
  refine PySem.W.methodCall_KW (pl := pl) (thn (he pins s σ H _ I h) fun u s1 ⟨x, H1, I1, rx, a, dx, fs, ex, ea, l, q⟩ => ?_) ht
  subst ex
  obtain rfl : u = Value.ref a := rx
  refine getmeth_ok I1 ea c hm l ?_
  refine PySem.W.callWith_K (first := [.ref a]) (h₀ := X.base) I.ok.mod.kin hm.kp (thn (ha pos pins s1 σ H1 _ I1 q) fun us s2 ⟨vs, H2, I2, r, q2⟩ => ⟨I2.kIn, ?_⟩) hst hpl
  exact run_fn (us := .ref a :: us) (vs := .ref a :: vs) F hr hb hd hx I2 (.cons rfl r) q2
/-- o.m() -/
theorem pe_meth0 {pl : Sem Bool} (he : PE X o ta) (c : Cls X.K C) (hm : Meth X.K C m f) (F : FnOk X.prog X.w X.K X.mg X.base CX k f fd ps sp) (hr : Room k X.A) (hb : Binds X.K fd ps ds) (hd : Vals dvs ds) (hx : Passes CX X E)
    (ht : eval (.Call (.Attribute o m apos) [] [] pos) X.env = (do
      let ov ← eval o X.env
      standAt apos.atName
      let (f, first) ← holding [ov] (getMethod ov m pl)
      callWith pos f first (backTo pos (starEach [] X.env)) (backToKw pos (keywordEach [] X.env))) := by rfl) :
    PE X (.Call (.Attribute o m apos) [] [] pos) (tMeth C m sp dvs E ta tNil) := by
  intro pins s σ H Q I h
  refine PySem.W.methodCall_KW (pl := pl) (thn (he pins s σ H _ I h) fun u s1 ⟨x, H1, I1, rx, a, dx, fs, ex, ea, l, q⟩ => ?_) ht
  subst ex
  obtain rfl : u = Value.ref a := rx
  refine getmeth_ok I1 ea c hm l ?_
  exact PySem.W.callWith_K0 (first := [.ref a]) I1.kIn hm.kp (run_fn (us := [.ref a]) (vs := [.ref a]) F hr hb hd hx I1 (.cons rfl .nil) q)

/-- what a class must have to be made -/
structure Mk (K : PySem.W.Frag) (C f : Addr) : Prop where
  makes : PySem.W.makesIn K C = true
  init : PySem.W.findIn K (.ref C) "__init__" = some (some (.ref f))
  fn : PySem.W.isFn K (.ref f) = true
  kp : PySem.W.keepIn K (.ref C) = true

theorem run_make {pins : List (Addr × Obj)} {σ : St} {H : Hp} {s : Shared} {Q : VK} {us : List Value} {vs : List V} (M : Mk X.K C f) (F : FnOk X.prog X.w X.K X.mg X.base CX k f fd ps sp) (hr : Room (k + 1) X.A) (hb : Binds X.K fd ps ds) (hd : Vals dvs ds)
    (hx : Passes CX X E) (I : Inv X pins σ H s) (r : Vals vs us)
    (h : ∀ x dx, H x = none → H dx = none → dx ≠ x → sp (.ref x :: (vs ++ dvs)) (upd (upd H dx (.own x)) x (.ins C dx [])) (fun v H2 => v = .non ∧ Q (.ref x) H2) E) :
    wpAny (model X.prog X.w) X.A (call (.ref C) us) (EP X pins σ Q) X.xe s := by
  have hq := h (s.heap.objs.size + 1) s.heap.objs.size (I.hok.fresh (Nat.le_succ _)) (I.hok.fresh (Nat.le_refl _)) (Nat.ne_of_lt (Nat.lt_succ_self _))
  have I2 := Inv.made (C := C) I
  have r2 : Vals (V.ref (s.heap.objs.size + 1) :: (vs ++ dvs)) (Value.ref (s.heap.objs.size + 1) :: (us ++ ds)) := .cons rfl (r.append hd)
  have hl : (Value.ref (s.heap.objs.size + 1) :: us ++ ds).length = ps.length := by
    have e := r2.length
    rw [F.len _ _ _ _ hq] at e
    exact e.symm
  refine wpAny_call (make_map (f := f) I.kIn M.makes M.init (beq_iff_eq.mp M.fn) (codeAny_mono (F.run _ X.stack _ _ ⟨Value.ref (s.heap.objs.size + 1) :: us, []⟩ (Value.ref (s.heap.objs.size + 1) :: (us ++ ds)) _ _ E (hr.make C us [])
    (I2.env0.make C us []) (hb _ (Value.ref (s.heap.objs.size + 1) :: us) I2.kIn hl) r2 hq) fun r s' hq' => ?_))
  cases r with
  | error e => exact hx pins σ _ _ e s' I2 hq'
  | ok fl =>
    cases fl with
    | ret u =>
      obtain ⟨v, H', I3, rv, ev, q3⟩ := I2.after hq'
      subst ev
      exact ⟨rv, ⟨V.ref (s.heap.objs.size + 1), H', I3, rfl, q3⟩⟩
    | next => exact False.elim hq'
    | brk => exact False.elim hq'
    | cont => exact False.elim hq'
theorem pe_make (M : Mk X.K C f) (F : FnOk X.prog X.w X.K X.mg X.base CX k f fd ps sp) (hr : Room (k + 1) X.A) (hg : Gl X x) (hm : X.mg x = some (.ref C)) (hb : Binds X.K fd ps ds) (hd : Vals dvs ds) (hx : Passes CX X E)
    (ha : PA X (e :: es) t) (hdb : (x == ("__debug__" : Str)) = false := by decide) (he : starEach (e :: es) X.env = (false, eval e X.env) :: starEach es X.env := by rfl) (hpl : (backTo pos (starEach es X.env)).any (·.1) = false := by rfl) :
    PE X (.Call (.Name x p) (e :: es) [] pos) (tMake C sp dvs E t) := by
  intro pins s σ H Q I h
  refine wpAny_Call_Name_kw (ld_glob I hg hm ?_ hdb)
  refine PySem.W.callWith_K (h₀ := X.base) I.ok.mod.kin M.kp (thn (ha pos pins s σ H _ I h) fun us s1 ⟨vs, H1, I1, r, q⟩ => ⟨I1.kIn, ?_⟩) he hpl
  exact run_make M F hr hb hd hx I1 r q
theorem pe_make0 (M : Mk X.K C f) (F : FnOk X.prog X.w X.K X.mg X.base CX k f fd ps sp) (hr : Room (k + 1) X.A) (hg : Gl X x) (hm : X.mg x = some (.ref C)) (hb : Binds X.K fd ps ds) (hd : Vals dvs ds) (hx : Passes CX X E)
    (hdb : (x == ("__debug__" : Str)) = false := by decide) : PE X (.Call (.Name x p) [] [] pos) (tMake C sp dvs E tNil) := by
  intro pins s σ H Q I h
  refine wpAny_Call_Name_kw (ld_glob I hg hm ?_ hdb)
  exact PySem.W.callWith_K0 I.kIn M.kp (run_make (us := []) M F hr hb hd hx I .nil h)
end

/-! ### keywords -/
/-- the values of the keywords, from the left -/
def PK (X : Cx) (kws : List Keyword) (t : TA) : Prop :=
  ∀ (pos : Pos) (pins : List (Addr × Obj)) (s : Shared) (σ : St) (H : Hp) (Q : List V → Hp → Prop), Inv X pins σ H s → t σ H Q → wpAny (model X.prog X.w) X.A (evalAll ((backToKw pos (keywordEach kws X.env)).map (·.2))) (AP X pins σ Q) X.xe s
section
variable {X : Cx} {CX : CXT} {k : Nat} {f C : Addr} {fd : FuncData} {ps ks : List Str} {sp : Sp} {E : XK} {x m : Str} {p pos apos kpos : Pos} {e o : Expr} {es : List Expr} {kws : List Keyword} {te ta : TE} {t tk : TA} {nm : Option Str}
theorem pk_nil : PK X [] tNil := fun _ _ _ _ H Q I h => wpAny_evalAll_nil ⟨[], H, I, .nil, h⟩
theorem pk_cons (ha : PE X e te) (hr : PK X kws t) : PK X (⟨nm, e, kpos⟩ :: kws) (tCons te t) := by
  intro pos pins s σ H Q I h
  show wpAny _ _ (evalAll ((do let v ← eval e X.env; standAt pos; pure v) :: (backToKw pos (keywordEach kws X.env)).map (·.2))) _ _ s
  refine wpAny_evalAll_cons (wpAny_bind (thn (ha pins s σ H _ I h) fun u s1 ⟨x, H1, I1, r1, q1⟩ => wpAny_bind (wpAny_standAt (wpAny_pure ?_))))
  exact thn (hr pos pins s1 σ H1 _ I1 q1) fun us s2 ⟨xs, H2, I2, r2, q2⟩ => ⟨x :: xs, H2, I2, .cons r1 r2, q2⟩

/-- how a call with keywords binds: g puts the positional values us and the keywords' values ws (names ks) in the parameters' order, defaults among them -/
structure KBinds (K : PySem.W.Frag) (fd : FuncData) (ps ks : List Str) (g : List Value → List Value → List Value) (gV : List V → List V → List V) : Prop where
  to : ∀ (s : Shared) (us ws : List Value), K.In s.heap → (g us ws).length = ps.length → BindsTo s fd ⟨us, ks.zip ws⟩ (ps.zip (g us ws))
  rel : ∀ {vs : List V} {us : List Value} {zs : List V} {ws : List Value}, Vals vs us → Vals zs ws → Vals (gV vs zs) (g us ws)
def tCallK (sp : Sp) (gV : List V → List V → List V) (E : XK) (t tk : TA) : TE := fun σ H Q => t σ H fun vs H1 => tk σ H1 fun zs H2 => sp (gV vs zs) H2 Q E
variable {g : List Value → List Value → List Value} {gV : List V → List V → List V}
theorem run_fnk {pins : List (Addr × Obj)} {σ : St} {H : Hp} {s : Shared} {Q : VK} {us ws : List Value} {vs zs : List V} (F : FnOk X.prog X.w X.K X.mg X.base CX k f fd ps sp) (hr : Room k X.A) (hb : KBinds X.K fd ps ks g gV) (hx : Passes CX X E)
    (I : Inv X pins σ H s) (r : Vals vs us) (rz : Vals zs ws) (h : sp (gV vs zs) H Q E) : wpAny (model X.prog X.w) X.A (call (.ref f) us (ks.zip ws)) (EP X pins σ Q) X.xe s := by
  have r2 := hb.rel r rz
  have hl : (g us ws).length = ps.length := by rw [← r2.length]; exact F.len _ _ _ _ h
  refine wpAny_call (codeAny_mono (F.run X.A X.stack s H ⟨us, ks.zip ws⟩ (g us ws) (gV vs zs) Q E hr I.env0 (hb.to s us ws I.kIn hl) r2 h) fun r s' hq => ?_)
  cases r with
  | error e => exact hx pins σ H s e s' I hq
  | ok fl =>
    cases fl with
    | ret u => exact I.after hq
    | next => exact False.elim hq
    | brk => exact False.elim hq
    | cont => exact False.elim hq
/-- f(e, .., k = v, ..) -/
theorem pe_callK (F : FnOk X.prog X.w X.K X.mg X.base CX k f fd ps sp) (hr : Room k X.A) (hg : Gl X x) (hm : X.mg x = some (.ref f)) (hk : PySem.W.keepIn X.K (.ref f) = true) (hb : KBinds X.K fd ps ks g gV) (hx : Passes CX X E)
    (ha : PA X (e :: es) t) (hkw : PK X kws tk) (hall : (backToKw pos (keywordEach kws X.env)).all (·.1.isSome) = true := by rfl) (hks : (backToKw pos (keywordEach kws X.env)).filterMap (·.1) = ks := by rfl)
    (hdb : (x == ("__debug__" : Str)) = false := by decide) (he : starEach (e :: es) X.env = (false, eval e X.env) :: starEach es X.env := by rfl)
    (hpl : ((backTo pos (starEach (e :: es) X.env)).any (·.1) || (backToKw pos (keywordEach kws X.env)).any (·.1.isNone)) = false := by rfl) :
    PE X (.Call (.Name x p) (e :: es) kws pos) (tCallK sp gV E t tk) := by
  intro pins s σ H Q I h
  refine wpAny_Call_Name_kw (ld_glob I hg hm ?_ hdb)
  refine PySem.W.callWith_KW (h₀ := X.base) I.ok.mod.kin hk hall (thn (ha pos pins s σ H _ I h) fun us s1 ⟨vs, H1, I1, r, q⟩ => ?_) hpl he
  refine thn (hkw pos pins s1 σ H1 _ I1 q) fun ws s2 ⟨zs, H2, I2, rz, q2⟩ => ⟨I2.kIn, ?_⟩
  rw [hks]
  exact run_fnk F hr hb hx I2 r rz q2
end

/-! ### a def's body keeps its promise -/
/-- names: the parameters first -/
structure FnScope (N P : List Str) (sc : Scope) : Prop where
  kind : sc.kind = .function
  co : sc.isCoroutine = false
  gen : sc.isGenerator = false
  nd : N.Nodup
  pre : N.take P.length = P
  par : ∀ x ∈ P, sc.names.lookup x = some .local ∨ sc.names.lookup x = some .cell
  nofree : ∀ y ∈ sc.names, y.2 ≠ .free

theorem bindL_out {kindOf : Str → Option NameKind} {x : Str} : ∀ {binds : List (Str × Value)} {m : Str → Option Value}, (∀ v, (x, v) ∉ binds) → bindL kindOf binds m x = m x
  | [], _, _ => rfl
  | (n, v) :: r, m, h => by
    unfold bindL
    rw [bindL_out fun w hw => h w (List.mem_cons_of_mem _ hw)]
    split
    · have : x ≠ n := by rintro rfl; exact h v List.mem_cons_self
      simp [this]
    · rfl
theorem bindC_out {kindOf : Str → Option NameKind} {x : Str} : ∀ {binds : List (Str × Value)} {m : Str → Option Value}, (∀ v, (x, v) ∉ binds) → bindC kindOf binds m x = m x
  | [], _, _ => rfl
  | (n, v) :: r, m, h => by
    unfold bindC
    rw [bindC_out fun w hw => h w (List.mem_cons_of_mem _ hw)]
    split
    · rfl
    · have : x ≠ n := by rintro rfl; exact h v List.mem_cons_self
      simp [this]
theorem bindL_get {kindOf : Str → Option NameKind} {x : Str} {v : Value} : ∀ {P : List Str} {vs : List Value} {i : Nat} {m : Str → Option Value}, P.Nodup → P[i]? = some x → vs[i]? = some v → kindOf x = some .local →
    bindL kindOf (P.zip vs) m x = some v
  | [], _, _, _, _, h, _, _ => by simp at h
  | _ :: _, [], _, _, _, _, h, _ => by simp at h
  | p :: P, w :: vs, 0, m, nd, h1, h2, hk => by
    simp at h1 h2; subst h1; subst h2
    show bindL kindOf ((p, w) :: P.zip vs) m p = _
    unfold bindL
    rw [bindL_out fun v hv => (List.nodup_cons.mp nd).1 (List.of_mem_zip hv).1, if_pos hk]
    simp
  | p :: P, w :: vs, i + 1, m, nd, h1, h2, hk => by
    show bindL kindOf ((p, w) :: P.zip vs) m x = _
    unfold bindL
    exact bindL_get (i := i) (List.nodup_cons.mp nd).2 (by simpa using h1) (by simpa using h2) hk
theorem bindC_get {kindOf : Str → Option NameKind} {x : Str} {v : Value} : ∀ {P : List Str} {vs : List Value} {i : Nat} {m : Str → Option Value}, P.Nodup → P[i]? = some x → vs[i]? = some v → kindOf x ≠ some .local →
    bindC kindOf (P.zip vs) m x = some v
  | [], _, _, _, _, h, _, _ => by simp at h
  | _ :: _, [], _, _, _, _, h, _ => by simp at h
  | p :: P, w :: vs, 0, m, nd, h1, h2, hk => by
    simp at h1 h2; subst h1; subst h2
    show bindC kindOf ((p, w) :: P.zip vs) m p = _
    unfold bindC
    rw [bindC_out fun v hv => (List.nodup_cons.mp nd).1 (List.of_mem_zip hv).1, if_neg hk]
    simp
  | p :: P, w :: vs, i + 1, m, nd, h1, h2, hk => by
    show bindC kindOf ((p, w) :: P.zip vs) m x = _
    unfold bindC
    exact bindC_get (i := i) (List.nodup_cons.mp nd).2 (by simpa using h1) (by simpa using h2) hk

/-- the names' values at the entry -/
def start (N : List Str) (vs : List V) : St := vs.map some ++ List.replicate (N.length - vs.length) none

/-- the context of a def's body, at its entry; an exception leaves the frame, then lies as CX says -/
def cxOf (CX : CXT) (P : Program) (w : World) (K : PySem.W.Frag) (mg : Str → Option Value) (base : Heap) (N : List Str) (qual : Str) (scope : Scope) (f : Addr) (cd : Value) (A : Around) (outer : List Env) (s : Shared) (H : Hp) (E : XK) : Cx where
  prog := P
  w := w
  K := K
  mg := mg
  base := base
  A := A.deeper (envOfC qual scope s.heap.objs.size f cd)
  N := N
  s₀ := s
  H₀ := H
  env := envOfC qual scope s.heap.objs.size f cd
  outer := outer
  stack := envOfC qual scope s.heap.objs.size f cd :: outer
  ex := []
  calm := true
  fn := fun _ => true
  pn := []
  xe := fun e s' => wpAny (model P w) (A.deeper (envOfC qual scope s.heap.objs.size f cd)) (leaving (envOfC qual scope s.heap.objs.size f cd) e) (fun _ s'' => CX outer H s E e s'') (fun e' s'' => CX outer H s E e' s'') s'

theorem cell_has {sc : Scope} {n : Nat} {x : Str} (h : sc.names.lookup x = some .cell) : ∃ c, (cellsFrom n sc.names []).lookup x = some c := by
  have q := PySem.W.cellsFrom_some sc.names n [] (.inl h)
  exact Option.isSome_iff_exists.mp q

theorem inv_start {CX : CXT} {P : Program} {w : World} {K : PySem.W.Frag} {mg : Str → Option Value} {base : Heap} {N ps : List Str} {qual : Str} {scope : Scope} {f : Addr} {cd : Value} {A : Around} {outer : List Env} {s s1 : Shared} {H : Hp} {E : XK} {us : List Value} {vs : List V}
    (S : FnScope N ps scope) (hd : A.handled = none) (e0 : Env0 P w K mg base A outer s H) (hl : vs.length = ps.length) (r : Vals vs us)
    (x : InCallC s s.heap.objs.size (bindL (envOfC qual scope s.heap.objs.size f cd).kindOf (ps.zip us) fun _ => none) (cellsFrom (s.heap.objs.size + 1) scope.names []) (bindC (envOfC qual scope s.heap.objs.size f cd).kindOf (ps.zip us) fun _ => none) s1) :
    Inv (cxOf CX P w K mg base N qual scope f cd A outer s H E) [] (start N vs) H s1 := by
  have hpl : ps.length ≤ N.length := by have := congrArg List.length S.pre; rw [List.length_take] at this; omega
  obtain ⟨h1, tk, rfl, hk⟩ := x.done
  have noA : ∀ b : Addr, b ∉ (cxOf CX P w K mg base N qual scope f cd A outer s H E).ex := fun b z => absurd (show b ∈ ([] : List Addr) from z) (by simp)
  refine ⟨⟨e0.mod, S.kind, rfl, rfl, Nat.le_refl _, fun y z c h1 h2 => ?_, fun y hy => ?_, fun y c _ h => ?_, fun _ => hd, Around.frames_deeper e0.frames, .inr ⟨rfl, rfl⟩, fun b z => absurd z (noA b), e0.bs, e0.bsz, fun b _ _ => noA b, fun b z => absurd z (noA b), e0.funs, e0.frf⟩,
    rfl, e0.bare, Un.kept hk, ⟨_, x.toInCall.ns, fun i y v h1 h2 h3 => ?_⟩, fun y c h => ⟨_, x.cell y c h⟩, e0.hok.fresh (Nat.le_refl _), fun y c h => ?_, fun p hp => absurd (show p ∈ ([] : List (Addr × Obj)) from hp) (by simp), e0.hok.kept hk, ?_⟩
  · exact name_of_addr x.apart (PySem.mem_of_lookup h1) (PySem.mem_of_lookup h2)
  · have hy : scope.names.lookup y = some .cell ∨ scope.names.lookup y = some .free := hy
    rcases hy with hy | hy
    · exact cell_has hy
    · exact absurd rfl (S.nofree _ (PySem.mem_of_lookup hy))
  · exact Nat.le_of_lt (x.above y c (PySem.mem_of_lookup h))
  · have hi : i < vs.length := by
      unfold start at h2
      by_cases hi : i < vs.length
      · exact hi
      · rw [List.getElem?_append_right (by simpa using hi)] at h2
        rw [List.getElem?_replicate] at h2
        split at h2 <;> cases h2
    have ha : vs[i]? = some v := by
      unfold start at h2
      rw [List.getElem?_append_left (by simpa using hi), List.getElem?_map] at h2
      cases e : vs[i]? with
      | none => rw [e] at h2; cases h2
      | some a => rw [e] at h2; cases h2; rfl
    obtain ⟨u, hu, rv⟩ := r.get ha
    have hp : ps[i]? = some y := by
      rw [← S.pre, List.getElem?_take_of_lt (by omega)]; exact h1
    have ndP : ps.Nodup := by rw [← S.pre]; exact S.nd.sublist (List.take_sublist _ _)
    refine ⟨u, rv, ?_⟩
    rcases S.par y (List.mem_of_getElem? hp) with k | k
    · exact .inl ⟨k, bindL_get ndP hp hu k⟩
    · obtain ⟨c, e⟩ := cell_has (n := s.heap.objs.size + 1) k
      refine .inr ⟨.inl k, c, e, ?_⟩
      have q := x.cell y c e
      rw [bindC_get ndP hp hu (by show scope.names.lookup y ≠ _; rw [k]; decide)] at q
      exact q
  · exact e0.hok.fresh (Nat.le_of_lt (x.above y c (PySem.mem_of_lookup h)))
  · unfold start
    show _ = N.length
    rw [List.length_append, List.length_map, List.length_replicate]
    omega

/-- THE RULE: a def (or a method) of the text, by its body. The body's reading t is chosen for each entry; it is run at the parameters' values -/
theorem fn_of {CX : CXT} {P : Program} {w : World} {K : PySem.W.Frag} {mg : Str → Option Value} {base : Heap} {k : Nat} {f : Addr} {name qual : Str} {params : Arguments} {body : List Stmt} {scope : Scope} {dV kV doc pm cdv ct oc : Value} {an od : Option Addr}
    {osl : Array (Option Value)} {N ps : List Str} {sp : Sp} (lk : K.lookup f = some ⟨oc, od, .func (PySem.W.fnOf name qual params body scope dV kV doc pm an cdv ct), osl⟩) (hcd : PySem.W.codeIn K cdv qual = true) (S : FnScope N ps scope)
    (len : ∀ vs H Q E, sp vs H Q E → vs.length = ps.length)
    (hbody : ∀ (A : Around) (outer : List Env) (s : Shared) (H : Hp) (vs : List V) (Q : VK) (E : XK), Room k (A.deeper (envOfC qual scope s.heap.objs.size f cdv)) → sp vs H Q E →
      ∃ t, PSs (cxOf CX P w K mg base N qual scope f cdv A outer s H E) body t ∧ t { nx := fun _ H' => Q .non H', rt := Q } (start N vs) H) :
    FnOk P w K mg base CX (k + 1) f (PySem.W.fnOf name qual params body scope dV kV doc pm an cdv ct) ps sp := by
  refine ⟨len, fun A outer s H args us vs Q E hr e0 hb r hsp => ?_⟩
  have hl := len _ _ _ _ hsp
  have KX : K.In s.heap := e0.mod.kin.keeps fun b o e => (e0.bs b o e).1
  have lim : s.heap.NoLimit := e0.mod.nolimit.keeps fun b o e => (e0.bs b o e).1
  have hkind : ∀ y ∈ ps.zip us, scope.names.lookup y.1 = some .local ∨ (scope.names.lookup y.1 = some .cell ∧ ((cellsFrom (s.heap.objs.size + 1) scope.names []).lookup y.1).isSome = true) := fun ⟨n, v⟩ hy => by
    rcases S.par n (List.of_mem_zip hy).1 with q | q
    · exact .inl q
    · exact .inr ⟨q, PySem.W.cellsFrom_some _ _ _ (.inl q)⟩
  refine codeAny_call_function hr.depth (KX _ _ lk) rfl S.co S.gen rfl (PySem.W.codeRec_of KX hcd) (hb _ _ _ _ ?_)
  refine wpAny_newFunctionEnv_cells S.kind hkind fun env he s1 x => ?_
  subst he
  refine ⟨lim.keeps x.toInCall.keep, codeAny_func ?_⟩
  obtain ⟨t, ht, hq⟩ := hbody A outer s H vs Q E (hr.deeper _) hsp
  have I : Inv (cxOf CX P w K mg base N qual scope f cdv A outer s H E) [] (start N vs) H s1 := inv_start S hr.hd e0 hl r x
  refine wpAny_mono (ht [] s1 (start N vs) H _ I hq) (fun fl s' hs => ?_) fun e s' hs => hs
  have fin : ∀ {σ' : St} {H' : Hp} {v : V} {u : Value}, Inv (cxOf CX P w K mg base N qual scope f cdv A outer s H E) [] σ' H' s' → RelV v u → Q v H' → CE outer P w H s Q u s' :=
    fun {σ' H' v u} J rv q => ⟨v, H', J.os, J.bare, J.base, J.hok, rv, q⟩
  cases fl with
  | ret u =>
    obtain ⟨v, σ', H', J, rv, q⟩ := hs
    exact fin J rv q
  | next =>
    obtain ⟨σ', H', J, q⟩ := hs
    exact fin (v := V.non) (u := Value.none) J rfl q
  | brk =>
    obtain ⟨_, _, _, q⟩ := hs
    exact False.elim q
  | cont =>
    obtain ⟨_, _, _, q⟩ := hs
    exact False.elim q
end L2

namespace L2
open PySem PySem.Spec PyProof.Rows
section
variable {X : Cx} {x : Str} {p pos : Pos} {e : Expr} {es : List Expr} {t : TA} {id T : String} {r : List V → Hp → VK → Prop}

def tCB (r : List V → Hp → VK → Prop) (t : TA) : TE := fun σ H Q => t σ H fun vs H1 => r vs H1 Q
/-- f(e, ..), f a built-in function -/
theorem pe_callB (hc : CallR X (.builtin id) r) (hg : Gl X x) (hm : X.mg x = none) (hv : bootBuiltins x = some (.builtin id)) (ha : PA X (e :: es) t) (hn : x ≠ "__name__" := by decide) (hdb : (x == ("__debug__" : Str)) = false := by decide)
    (he : starEach (e :: es) X.env = (false, eval e X.env) :: starEach es X.env := by rfl) (hpl : (backTo pos (starEach es X.env)).any (·.1) = false := by rfl) : PE X (.Call (.Name x p) (e :: es) [] pos) (tCB r t) := by
  intro pins s σ H Q I h
  refine wpAny_Call_Name_kw (ld_blt I hg hm hv ?_ hn hdb)
  exact PyProof.Rows.callWith_builtin1 (thn (ha pos pins s σ H _ I h) fun us s1 ⟨vs, H1, I1, r1, q1⟩ => hc pins s1 σ H1 vs us Q I1 r1 q1) he hpl
/-- T(e, ..), T a built-in type -/
theorem pe_callTy (hc : CallR X (.type T) r) (hg : Gl X x) (hm : X.mg x = none) (hv : bootBuiltins x = some (.type T)) (ha : PA X (e :: es) t) (hn : x ≠ "__name__" := by decide) (hdb : (x == ("__debug__" : Str)) = false := by decide)
    (he : starEach (e :: es) X.env = (false, eval e X.env) :: starEach es X.env := by rfl) (hpl : (backTo pos (starEach es X.env)).any (·.1) = false := by rfl) : PE X (.Call (.Name x p) (e :: es) [] pos) (tCB r t) := by
  intro pins s σ H Q I h
  refine wpAny_Call_Name_kw (ld_blt I hg hm hv ?_ hn hdb)
  exact PyProof.Rows.callWith_type1 (thn (ha pos pins s σ H _ I h) fun us s1 ⟨vs, H1, I1, r1, q1⟩ => hc pins s1 σ H1 vs us Q I1 r1 q1) he hpl
/-- T() -/
theorem pe_callTy0 (hc : CallR X (.type T) r) (hg : Gl X x) (hm : X.mg x = none) (hv : bootBuiltins x = some (.type T)) (hn : x ≠ "__name__" := by decide) (hdb : (x == ("__debug__" : Str)) = false := by decide) :
    PE X (.Call (.Name x p) [] [] pos) (tCB r tNil) := by
  intro pins s σ H Q I h
  refine wpAny_Call_Name_kw (ld_blt I hg hm hv ?_ hn hdb)
  exact PyProof.Rows.callWith_type0 (hc pins s σ H [] [] Q I .nil h)
end
end L2

namespace HT
open PySem PyProof.Rows

/-- t < u of tuples of ints -/
def lexLt : List Int → List Int → Bool
  | [], [] => false
  | [], _ :: _ => true
  | _ :: _, [] => false
  | x :: xs, y :: ys => if x = y then lexLt xs ys else decide (x < y)
theorem lexLt_cons (x y : Int) (xs ys : List Int) : lexLt (x :: xs) (y :: ys) = if x = y then lexLt xs ys else decide (x < y) := rfl
theorem lexLt_nil_nil : lexLt [] [] = false := rfl
theorem lexLt_nil_cons (y : Int) (ys : List Int) : lexLt [] (y :: ys) = true := rfl
theorem lexLt_cons_nil (x : Int) (xs : List Int) : lexLt (x :: xs) [] = false := rfl

theorem eqAt_int (A : Around) (s : Shared) (a : Int) (t : Tok) (c : Int) (u : Tok) : ∃ e, SeqAt.EqAt A s (.int a t) (.int c u) e ∧ (e = true ↔ a = c) :=
  ⟨(a == c), SeqAt.EqAt.int_int a t c u, by simp⟩
theorem rcLt_int (A : Around) (s : Shared) (a : Int) (t : Tok) (c : Int) (u : Tok) (prog : Program) (w : World) (E : Value → Shared → Prop) (Q : Value → Shared → Prop) (h : Q (.bool (decide (a < c))) s) :
    wpAny (model prog w) A (richCompare .Lt (.int a t) (.int c u)) Q E s :=
  (PyProof.Rows.lt_int h : wpAny (model prog w) A (compareOp .Lt (.int a t) (.int c u)) Q E s)

section
open PySem.SeqAt
open PySem.AutoSeq1 (wpAny_loadPart')
open PySem.MeetsSeq PySem.MeetsSeq2 PySem.MeetsSeq3

theorem tuple_lt_ints (l b : Addr) (items items2 : Array Value) (n n2 : Nat) (dd dd2 : Option Addr) (sl sl2 : Array (Option Value)) (ns ms : List Int) (hi : IntsAre items.toList ns) (hj : IntsAre items2.toList ms) :
    Meets (Builtin.«tuple.__lt__» ⟨[.ref l, .ref b], []⟩)
      (fun _ R s => s.heap.get? l = some { cls := .type "tuple", dict := dd, data := .seq items n, slots := sl } ∧ s.heap.get? b = some { cls := .type "tuple", dict := dd2, data := .seq items2 n2, slots := sl2 } ∧
        R (.ok (.ret (.bool (lexLt ns ms)))) s) :=
  .of_wp fun prog w A R s h => by
    obtain ⟨hp, g, d, tk, os⟩ := s; obtain ⟨hl, hb, h⟩ := h
    have f2 := AutoSeq1.sub_tuple_tuple
    have z1 : items.size = ns.length := by rw [← hi.length]; simp
    have z2 : items2.size = ms.length := by rw [← hj.length]; simp
    wp_walk using wpAny_loadPart' hl, wpAny_loadPart' hb, wpAny_forIn_list _ (fun rest b s' => b.1 = none ∧ s' = ⟨hp, g, d, tk, os⟩ ∧ ∃ (vs ws : List Value) (ns' ms' : List Int), rest = vs.zip ws ∧
      IntsAre vs ns' ∧ IntsAre ws ms' ∧ ns'.length + items2.size = ms'.length + items.size ∧ R (.ok (.ret (.bool (lexLt ns' ms')))) ⟨hp, g, d, tk, os⟩) _
    case turn =>
      rintro ⟨y, x⟩ rest b s' ⟨hb', rfl, vs, ws, ns', ms', hz, hvi, hwi, hlen, hR⟩
      cases hvi with
      | nil => rw [List.zip_nil_left] at hz; cases hz
      | cons a t hvi' =>
        cases hwi with
        | nil => rw [List.zip_nil_right] at hz; cases hz
        | cons c u hwi' =>
          rw [List.zip_cons_cons] at hz
          injection hz with hyx hrest
          injection hyx with hy hx
          subst hy hx
          rw [lexLt_cons] at hR
          simp only [List.length_cons] at hlen
          obtain ⟨e, he, hiff⟩ := eqAt_int A.in1 ⟨hp, g, d, tk, os⟩ a t c u
          refine wpAny_bind (he prog w _ _ ?_)
          cases e with
          | true =>
            rw [if_pos (hiff.mp rfl)] at hR
            wp_walk
            exact ⟨rfl, rfl, _, _, _, _, hrest, hvi', hwi', by omega, hR⟩
          | false =>
            rw [if_neg (fun q => absurd (hiff.mpr q) Bool.false_ne_true)] at hR
            have hri := rcLt_int A.in1 ⟨hp, g, d, tk, os⟩ a t c u prog w
            wp_walk using hri
            exact ⟨_, rfl, by simpa using hR⟩
    case fin =>
      rintro ⟨b1, b2⟩ s' ⟨hb', rfl, vs, ws, ns', ms', hz, hvi, hwi, hlen, hR⟩
      simp only at hb'
      subst hb'
      have hv : lexLt ns' ms' = decide (items.size < items2.size) := by
        cases hvi with
        | nil =>
          cases hwi with
          | nil =>
            simp only [List.length_nil] at hlen
            rw [lexLt_nil_nil]
            exact (decide_eq_false (by omega)).symm
          | cons c u hw =>
            simp only [List.length_nil, List.length_cons] at hlen
            rw [lexLt_nil_cons]
            exact (decide_eq_true (by omega)).symm
        | cons a t hv =>
          cases hwi with
          | nil =>
            simp only [List.length_nil, List.length_cons] at hlen
            rw [lexLt_cons_nil]
            exact (decide_eq_false (by omega)).symm
          | cons c u hw =>
            rw [List.zip_cons_cons] at hz
            cases hz
      rw [hv] at hR
      wp_walk
      exact ⟨_, rfl, by simpa [Builtin.Tuple.tupleCompareSizes] using hR⟩
    case h =>
      exact ⟨rfl, rfl, items.toList, items2.toList, ns, ms, rfl, hi, hj, by omega, h⟩
end

section
variable {prog : Program} {w : World} {A : Around} {E : Value → Shared → Prop} {s : Shared}

theorem lt_tupInts {l b : Addr} {items items2 : Array Value} {ns ms : List Int} {Q : Value → Shared → Prop} (hl : IsTup s.heap l items) (hb : IsTup s.heap b items2) (hi : IntsAre items.toList ns) (hj : IntsAre items2.toList ms)
    (hu : A.units < cLine) (h : Q (.bool (lexLt ns ms)) s) : wpAny (model prog w) A (compareOp .Lt (.ref l) (.ref b)) Q E s := by
  obtain ⟨⟨cls, dd, data, sl⟩, ho, hc, n, hd⟩ := id hl
  obtain ⟨⟨cls2, dd2, data2, sl2⟩, ho2, hc2, n2, hd2⟩ := id hb
  simp only at hc hd hc2 hd2
  subst hc hd hc2 hd2
  exact richCompare_meets_room (op := .Lt) ⟨_, ho, rfl⟩ ⟨_, ho2, rfl⟩ PySem.F.slot_tuple_lt PySem.F.entry_tuple_lt (PySem.F.args_tuple_lt_2 _ _) (tuple_lt_ints l b items items2 n n2 dd dd2 sl sl2 ns ms hi hj)
    ⟨ho, ho2, show Value.bool (lexLt ns ms) ≠ Value.notImplemented ∧ Q (.bool (lexLt ns ms)) s from ⟨(fun x => nomatch x), h⟩⟩ hu

/-- t + u, t not empty -/
theorem cat_tup {t b : Addr} {vs ws : List Value} {Q : Value → Shared → Prop} (ht : IsTup s.heap t vs.toArray) (hb : IsTup s.heap b ws.toArray) (hv : vs ≠ [])
    (h1 : ws = [] → Q (.ref t) s) (h2 : ws ≠ [] → Q (.ref s.heap.objs.size) { s with heap := s.heap.push { cls := .type "tuple", data := .seq (vs ++ ws).toArray } })
    (hsz : vs.length + ws.length ≤ sizeLine) : wpAny (model prog w) A (binaryOp .Add (.ref t) (.ref b)) Q E s := by
  obtain ⟨⟨cls, dd, data, sl⟩, ho, hc, n, hd⟩ := id ht
  obtain ⟨⟨cls2, dd2, data2, sl2⟩, ho2, hc2, n2, hd2⟩ := id hb
  simp only at hc hd hc2 hd2
  subst hc hd hc2 hd2
  have e : vs.toArray ++ ws.toArray = (vs ++ ws).toArray := by simp
  by_cases hw : ws = []
  · exact concat_meets ⟨_, ho, rfl⟩ ⟨_, ho2, rfl⟩ noFill_tuple_add seq_tuple_add PySem.F.slot_tuple_add PySem.F.entry_tuple_add (PySem.F.args_tuple_add_2 _ _)
      (tuple_addW1 t b vs.toArray ws.toArray n n2 dd dd2 sl sl2 (by simpa using hv) (by simp [hw])) ⟨ho, ho2, h1 hw⟩
  · refine concat_meets ⟨_, ho, rfl⟩ ⟨_, ho2, rfl⟩ noFill_tuple_add seq_tuple_add PySem.F.slot_tuple_add PySem.F.entry_tuple_add (PySem.F.args_tuple_add_2 _ _)
      (tuple_addW2 t b vs.toArray ws.toArray n n2 dd dd2 sl sl2 (by simpa using hv) (by simpa using hw) (by rw [List.size_toArray, List.size_toArray]; exact hsz)) ⟨ho, ho2, ?_⟩
    rw [e]
    exact h2 hw

/-! ### t[a:b], not the whole -/
/-- a slice's bound as a place among n (d where it is left out) -/
def sIx (n d : Nat) : Option Int → Nat
  | none => d
  | some v => if v < 0 then (v + (n : Int)).toNat else min v.toNat n
theorem sIx_none (n d : Nat) : sIx n d none = d := rfl
theorem sIx_nat (n d k : Nat) : sIx n d (some (k : Int)) = min k n := by
  show (if (k : Int) < 0 then ((k : Int) + (n : Int)).toNat else min (k : Int).toNat n) = min k n
  rw [if_neg (by omega), Int.toNat_natCast]
theorem sIx_le (n d : Nat) (hd : d ≤ n) (o : Option Int) : sIx n d o ≤ n := by
  cases o with
  | none => exact hd
  | some v =>
    show (if v < 0 then (v + (n : Int)).toNat else min v.toNat n) ≤ n
    by_cases hv : v < 0
    · rw [if_pos hv]; omega
    · rw [if_neg hv]; exact Nat.min_le_right _ _
theorem clip_eq (v : Int) (n d : Nat) : (if v < 0 then max (v + (n : Int)) 0 else min v (n : Int)) = ((sIx n d (some v) : Nat) : Int) := by
  show (if v < 0 then max (v + (n : Int)) 0 else min v (n : Int)) = (((if v < 0 then (v + (n : Int)).toNat else min v.toNat n) : Nat) : Int)
  by_cases hv : v < 0
  · simp only [if_pos hv]; omega
  · simp only [if_neg hv]; omega
theorem adjust_gen (lo hi : Option Int) (n : Nat) : Builtin.Slice.sliceAdjust lo hi 1 (n : Int) = (((sIx n 0 lo : Nat) : Int), ((sIx n n hi : Nat) : Int)) := by
  have h1 : ¬ ((1 : Int) < 0) := by omega
  unfold Builtin.Slice.sliceAdjust
  simp only [h1, if_false]
  refine Prod.ext ?_ ?_
  · cases lo with
    | none => rfl
    | some v => exact clip_eq v n 0
  · cases hi with
    | none => rfl
    | some v => exact clip_eq v n n
theorem places_gen (i j : Nat) : Builtin.Slice.slicePlaces (i : Int) (j : Int) 1 = j - i := by
  unfold Builtin.Slice.slicePlaces
  have h1 : (1 : Int) > 0 := by omega
  simp only [h1, if_true, Int.ediv_one]
  split <;> omega
theorem slicePart_ {v : Value} {o : Option Int} {Q : Option Int → Shared → Prop} (p : IsPart v o) (h : Q o s) : wpAny (model prog w) A (Builtin.Slice.slicePartIndex v) Q E s := by
  cases p with
  | none => exact slicePart_none h
  | int i t => exact slicePart_int h
theorem sliceApplied_gen {sl : Addr} {vl vu : Value} {lo hi : Option Int} {n : Nat} {Q : Int × Int × Nat → Shared → Prop} (hs : s.heap.IsSliceOf sl vl vu .none) (pl : IsPart vl lo) (pu : IsPart vu hi)
    (h : Q (((sIx n 0 lo : Nat) : Int), 1, sIx n n hi - sIx n 0 lo) s) : wpAny (model prog w) A (Builtin.Slice.sliceApplied (.ref sl) (pure (n : Int))) Q E s := by
  obtain ⟨os, hos, hcs, hds⟩ := id hs
  unfold Builtin.Slice.sliceApplied Builtin.Slice.sliceFields
  refine wpAny_bind (wpAny_bind (wpAny_field hos hds (x := vl) rfl (wpAny_bind (wpAny_field hos hds (x := vu) rfl (wpAny_bind (wpAny_field hos hds (x := .none) rfl (wpAny_pure ?_)))))))
  refine wpAny_bind (slicePart_none ?_)
  show wpAny _ _ (if ((1 : Int) == 0) = true then _ else _) _ _ s
  rw [if_neg (by decide)]
  refine wpAny_bind (slicePart_ pl (wpAny_bind (slicePart_ pu (wpAny_bind (wpAny_pure ?_)))))
  show wpAny _ _ (match Builtin.Slice.sliceAdjust lo hi 1 (n : Int) with | (lo, hi) => pure (lo, (1 : Int), Builtin.Slice.slicePlaces lo hi 1)) _ _ s
  rw [adjust_gen lo hi n]
  show wpAny _ _ (pure (((sIx n 0 lo : Nat) : Int), (1 : Int), Builtin.Slice.slicePlaces ((sIx n 0 lo : Nat) : Int) ((sIx n n hi : Nat) : Int) 1)) _ _ s
  rw [places_gen]
  exact wpAny_pure h
theorem pick_gen (xs : Array Value) (i k : Nat) : ((List.range k).filterMap fun (m : Nat) => xs[((i : Int) + (m : Int) * 1).toNat]?).toArray = ((xs.toList.drop i).take k).toArray := by
  have e : (fun (m : Nat) => xs[((i : Int) + (m : Int) * 1).toNat]?) = fun m => xs[i + m]? := by
    funext m
    have : ((i : Int) + (m : Int) * 1).toNat = i + m := by omega
    rw [this]
  rw [e]
  have := pick_run xs i k
  rw [List.filterMap_map] at this
  have e2 : ((fun x => xs[x]?) ∘ fun x => i + x) = fun m => xs[i + m]? := rfl
  rw [e2] at this
  rw [this]

theorem getItem_tuple_cut {t sl : Addr} {items : Array Value} {vl vu : Value} {lo hi : Option Int} {Q : Value → Shared → Prop} (ht : IsTup s.heap t items) (hs : s.heap.IsSliceOf sl vl vu .none) (pl : IsPart vl lo) (pu : IsPart vu hi)
    (hw : ¬ (sIx items.size 0 lo = 0 ∧ sIx items.size items.size hi = items.size))
    (h : Q (.ref s.heap.objs.size) { s with heap := s.heap.push { cls := .type "tuple", data := .seq ((items.toList.drop (sIx items.size 0 lo)).take (sIx items.size items.size hi - sIx items.size 0 lo)).toArray } })
    (hsz : items.size ≤ sizeLine) : wpAny (model prog w) A (getItem (.ref t) (.ref sl)) Q E s := by
  have htake : sizeOk (.seq ((items.toList.drop (sIx items.size 0 lo)).take (sIx items.size items.size hi - sIx items.size 0 lo)).toArray) := by
    show ((items.toList.drop (sIx items.size 0 lo)).take (sIx items.size items.size hi - sIx items.size 0 lo)).toArray.size ≤ sizeLine
    rw [List.size_toArray, List.length_take, List.length_drop, Array.length_toList]
    omega
  have hj : sIx items.size items.size hi ≤ items.size := sIx_le _ _ (Nat.le_refl _) hi
  obtain ⟨os, hos, hcs, hds⟩ := id hs
  have hTs : s.TypeIs (.ref sl) "slice" := ⟨os, hos, hcs⟩
  unfold getItem
  try with_reducible refine wpAny_holding ?_
  first | refine wpAny_bind (wpAny_pure ?_) | skip
  refine wpAny_bind (wpAny_sequenceKey ht.typeIs (by decide) ?_)
  refine wpAny_bind (wpAny_callSpecial?_slot (name := Str.ofString "__getitem__") ht.typeIs PyProof.Rows.slot_tuple_getitem
    (wpAny_call_entry PyProof.Rows.slot_tuple_getitem ht.typeIs entry_tuple_getitem ?_ (args_tuple_getitem _ _)))
  show wpAny _ _ (Builtin.Tuple.tupleItemsOf (.ref t) >>= _) _ _ s
  refine wpAny_bind (tupleItemsOf_ ht ?_)
  refine wpAny_bind (wpAny_typeOf hTs ?_)
  rw [if_pos (by decide)]
  refine wpAny_bind (sliceApplied_gen hs pl pu ?_)
  have hno : ¬ ((((sIx items.size 0 lo : Nat) : Int) == 0 && (1 : Int) == 1 && (sIx items.size items.size hi - sIx items.size 0 lo) == items.size) = true) := by
    intro q
    rw [Bool.and_eq_true, Bool.and_eq_true] at q
    have q1 : ((sIx items.size 0 lo : Nat) : Int) = 0 := eq_of_beq q.1.1
    have q2 : sIx items.size items.size hi - sIx items.size 0 lo = items.size := eq_of_beq q.2
    exact hw ⟨by omega, by omega⟩
  show wpAny _ _ (if (((sIx items.size 0 lo : Nat) : Int) == 0 && (1 : Int) == 1 && (sIx items.size items.size hi - sIx items.size 0 lo) == items.size) = true then _ else _) _ _ s
  rw [if_neg hno, pick_gen]
  first
    | exact wpAny_bind (m := Builtin.Tuple.tupleExact _) (wpAny_newObj_type (wpAny_pure ⟨_, rfl, wpAny_pure h⟩) htake)
    | exact wpAny_bind (m := Builtin.Tuple.tupleExact _) (wpAny_newObj_type (wpAny_bind (wpAny_pure (wpAny_pure ⟨_, rfl, wpAny_pure h⟩))) htake)
    | exact wpAny_bind (wpAny_bind (m := Builtin.Tuple.tupleExact _) (wpAny_newObj_type (wpAny_pure (wpAny_pure ⟨_, rfl, wpAny_pure h⟩)) htake))
    | exact wpAny_bind (wpAny_bind (m := Builtin.Tuple.tupleExact _) (wpAny_newObj_type (wpAny_pure ⟨_, rfl, wpAny_pure h⟩) htake))
end
end HT

namespace L2
open PySem PySem.Spec PyProof.Rows

/-! ### the parts of a slice -/
abbrev TO := St → Hp → (Option Int → Hp → Prop) → Prop
/-- a slice's part (left out, or an int) -/
def PO (X : Cx) (e : Option Expr) (t : TO) : Prop :=
  ∀ (pins : List (Addr × Obj)) (s : Shared) (σ : St) (H : Hp) (Q : Option Int → Hp → Prop), Inv X pins σ H s → t σ H Q →
    wpAny (model X.prog X.w) X.A (evalPart e X.env) (fun u s' => ∃ o H', Inv X pins σ H' s' ∧ IsPart u o ∧ Q o H') X.xe s
def tNoPart : TO := fun _ H Q => Q none H
def tPart (t : TE) : TO := fun σ H Q => t σ H fun x H1 => ∃ i, x = .int i ∧ Q (some i) H1

theorem intsAre_of {ns : List Int} : ∀ {us : List Value}, Vals (ns.map V.int) us → IntsAre us ns := by
  induction ns with
  | nil => intro us r; rw [List.map_nil] at r; cases r; exact .nil
  | cons n ns ih =>
    intro us r
    rw [List.map_cons] at r
    cases r with
    | cons r1 r2 =>
      obtain ⟨t, e⟩ := r1
      subst e
      exact .cons n t (ih r2)

section
variable {X : Cx} {e : Expr} {te : TE} {lo hi : Option Expr} {tl th : TO} {pos p2 : Pos}

theorem po_none : PO X none tNoPart := by
  intro pins s σ H Q I h
  rw [evalPart_none]
  exact wpAny_pure ⟨none, H, I, .none, h⟩
theorem po_some (h : PE X e te) : PO X (some e) (tPart te) := by
  intro pins s σ H Q I hw
  rw [evalPart_some]
  refine thn (h pins s σ H _ I hw) fun u s1 ⟨x, H1, I1, r1, q1⟩ => ?_
  obtain ⟨i, rfl, q⟩ := q1
  obtain ⟨t, rfl⟩ := r1
  exact ⟨some i, H1, I1, .int i t, q⟩

/-- what a slice of a value is, by values: the slice object stands at sl -/
def SlR (X : Cx) (r : V → Option Int → Option Int → Hp → VK → Prop) : Prop :=
  ∀ (pins : List (Addr × Obj)) (s : Shared) (σ : St) (H : Hp) (x : V) (v vl vu : Value) (lo hi : Option Int) (sl : Addr) (Q : VK), Inv X pins σ H s → RelV x v → s.heap.IsSliceOf sl vl vu .none → IsPart vl lo → IsPart vu hi → r x lo hi H Q →
    ∃ T id, typeLookup (.type T) "__getitem__" = pure (some (.builtin id)) ∧ s.TypeIs v T ∧ wpAny (model X.prog X.w) X.A (getItem v (.ref sl)) (EP X pins σ Q) X.xe s
theorem SlR.or {r r' : V → Option Int → Option Int → Hp → VK → Prop} (h : SlR X r) (h' : SlR X r') : SlR X (fun x lo hi H Q => r x lo hi H Q ∨ r' x lo hi H Q) := by
  intro pins s σ H x v vl vu lo hi sl Q I rx hs pl pu q
  rcases q with q | q
  · exact h pins s σ H x v vl vu lo hi sl Q I rx hs pl pu q
  · exact h' pins s σ H x v vl vu lo hi sl Q I rx hs pl pu q
def tSl (r : V → Option Int → Option Int → Hp → VK → Prop) (te : TE) (tl th : TO) : TE := fun σ H Q => te σ H fun x H1 => tl σ H1 fun l H2 => th σ H2 fun u H3 => r x l u H3 Q
/-- a[lo:hi], any a -/
theorem pe_slice {r : V → Option Int → Option Int → Hp → VK → Prop} (hr : SlR X r) (he : PE X e te) (hl : PO X lo tl) (hu : PO X hi th) : PE X (.Subscript e (.Slice lo hi none p2) pos) (tSl r te tl th) := by
  intro pins s σ H Q I h
  refine Subscript_ (thn (he pins s σ H _ I h) fun v s1 ⟨x, H1, I1, r1, q1⟩ => ?_)
  refine wpAny_Slice (thn (hl pins s1 σ H1 _ I1 q1) fun vl s2 ⟨l, H2, I2, pl, q2⟩ => thn (hu pins s2 σ H2 _ I2 q2) fun vu s3 ⟨u, H3, I3, pu, q3⟩ => ?_)
  rw [evalPart_none]
  refine wpAny_pure ?_
  have I4 : Inv X pins σ H3 { s3 with heap := s3.heap.push { cls := .type "slice", data := .fields #[vl, vu, .none] } } := I3.kept (t' := s3.toks) fun b ob q => Heap.get?_push_of_some _ q
  obtain ⟨T, id, hT, ht, hg⟩ := hr pins { s3 with heap := s3.heap.push { cls := .type "slice", data := .fields #[vl, vu, .none] } } σ H3 x v vl vu l u s3.heap.objs.size Q I4 r1 (Heap.IsSliceOf.new ..) pl pu q3
  show wpAny (model X.prog X.w) X.A (subscriptTail e (.Slice lo hi none p2) v (.ref s3.heap.objs.size)) (EP X pins σ Q) X.xe { s3 with heap := s3.heap.push { cls := .type "slice", data := .fields #[vl, vu, .none] } }
  exact tail_any (ops := [.ref s3.heap.objs.size, v]) ht hT hg (by with_unfolding_all rfl)

/-- the items of xs[lo:hi] -/
def cutV (xs : List V) (lo hi : Option Int) : List V := (xs.drop (HT.sIx xs.length 0 lo)).take (HT.sIx xs.length xs.length hi - HT.sIx xs.length 0 lo)
theorem cutV_length (xs : List V) (lo hi : Option Int) : (cutV xs lo hi).length ≤ xs.length := by
  unfold cutV
  rw [List.length_take, List.length_drop]
  omega
/-- t[lo:hi], not the whole of it (the whole would be t itself) -/
def rSlT (K : PySem.W.Frag) : V → Option Int → Option Int → Hp → VK → Prop := fun x lo hi H Q => ∃ a xs, x = .ref a ∧ SqT K H a xs ∧
  ¬ (HT.sIx xs.length 0 lo = 0 ∧ HT.sIx xs.length xs.length hi = xs.length) ∧ ∀ p, H p = none → Q (.ref p) (upd H p (.tup (cutV xs lo hi)))
theorem sl_tup : SlR X (rSlT X.K) := by
  intro pins s σ H x v vl vu lo hi sl Q I rx hs pl pu h
  obtain ⟨a, xs, rfl, hx, hw, q⟩ := h
  cases rx
  obtain ⟨its, r, ht, hz⟩ := I.tuple hx
  have hlen : its.toArray.size = xs.length := by rw [List.size_toArray]; exact r.length.symm
  refine ⟨"tuple", _, PyProof.Rows.slot_tuple_getitem.lookup, ht.typeIs, ?_⟩
  refine HT.getItem_tuple_cut ht hs pl pu (by rw [hlen]; exact hw) ?_ (by rw [hlen]; exact hz)
  rw [hlen]
  refine ⟨.ref s.heap.objs.size, _, I.laid (t' := s.toks) (o := .tup (cutV xs lo hi)) (fun b ob q => Heap.get?_push_of_some _ q) (Nat.le_refl _) ?_, rfl, q _ (I.hok.fresh (Nat.le_refl _))⟩
  exact ⟨Nat.le_trans (cutV_length xs lo hi) hz, _, (r.drop (HT.sIx xs.length 0 lo)).take (HT.sIx xs.length xs.length hi - HT.sIx xs.length 0 lo), IsTup.new _ _⟩

/-! ### t < u, t + u -/
def rLtT (K : PySem.W.Frag) : R2 := fun x y H Q => ∃ a b ns ms, x = .ref a ∧ y = .ref b ∧ SqT K H a (ns.map V.int) ∧ SqT K H b (ms.map V.int) ∧ Q (.bl (HT.lexLt ns ms)) H
theorem op_ltT (hu : X.A.units < cLine) : OpR X (compareOp .Lt) (rLtT X.K) := by
  intro pins s σ H x y v u Q I rx ry h
  obtain ⟨a, b, ns, ms, rfl, rfl, ha, hb, q⟩ := h
  cases rx
  cases ry
  obtain ⟨its, r1, p1, _⟩ := I.tuple ha
  obtain ⟨its2, r2, p2, _⟩ := I.tuple hb
  have i1 : IntsAre its.toArray.toList ns := intsAre_of r1
  have i2 : IntsAre its2.toArray.toList ms := intsAre_of r2
  exact HT.lt_tupInts p1 p2 i1 i2 hu ⟨.bl (HT.lexLt ns ms), H, I, rfl, q⟩
/-- t + u, t not empty: u empty gives t itself -/
def rCatT (K : PySem.W.Frag) : R2 := fun x y H Q => ∃ a b xs ys, x = .ref a ∧ y = .ref b ∧ SqT K H a xs ∧ SqT K H b ys ∧ xs ≠ [] ∧ xs.length + ys.length ≤ sizeLine ∧
  (ys = [] → Q (.ref a) H) ∧ (ys ≠ [] → ∀ p, H p = none → Q (.ref p) (upd H p (.tup (xs ++ ys))))
theorem Vals.nil_iff {xs : List V} {us : List Value} (r : Vals xs us) : us = [] ↔ xs = [] := by
  cases r with
  | nil => simp
  | cons _ _ => simp
theorem op_catT : OpR X (binaryOp .Add) (rCatT X.K) := by
  intro pins s σ H x y v u Q I rx ry h
  obtain ⟨a, b, xs, ys, rfl, rfl, ha, hb, hx, hz, q1, q2⟩ := h
  cases rx
  cases ry
  obtain ⟨its, r1, p1, _⟩ := I.tuple ha
  obtain ⟨its2, r2, p2, _⟩ := I.tuple hb
  refine HT.cat_tup p1 p2 (fun z => hx (r1.nil_iff.mp z)) (fun z => ⟨.ref a, H, I, rfl, q1 (r2.nil_iff.mp z)⟩) (fun z => ?_) (by rw [← r1.length, ← r2.length]; exact hz)
  refine ⟨.ref s.heap.objs.size, _, I.laid (t' := s.toks) (o := .tup (xs ++ ys)) (fun b ob q => Heap.get?_push_of_some _ q) (Nat.le_refl _) ?_, rfl, q2 (fun w => z (r2.nil_iff.mpr w)) _ (I.hok.fresh (Nat.le_refl _))⟩
  exact ⟨by rw [List.length_append]; exact hz, _, r1.append r2, IsTup.new _ _⟩
/-- tuple(t) -/
theorem call_tupleT : CallR X (.type "tuple") (fun xs H Q => ∃ a ys, xs = [.ref a] ∧ SqT X.K H a ys ∧ Q (.ref a) H) := by
  intro pins s σ H xs us Q I r h
  obtain ⟨a, ys, rfl, ha, q⟩ := h
  obtain ⟨u, rfl, ru⟩ := vals1 r
  cases ru
  obtain ⟨its, _, p1, _⟩ := I.tuple ha
  exact call_tuple_same (items := its.toArray) p1 ⟨.ref a, H, I, rfl, q⟩
end
end L2

namespace L2
open PySem PySem.Spec PyProof.Rows

/-! ### places -/
/-- the place that an index of any sign means -/
def ixN (n : Nat) (i : Int) : Option Nat := if 0 ≤ i then (if i < n then some i.toNat else none) else if -(n : Int) ≤ i then some (i + n).toNat else none
def atI {α : Type} (xs : List α) (i : Int) : Option α := (ixN xs.length i).bind fun j => xs[j]?
theorem ixN_seq {n : Nat} {i : Int} {j : Nat} (h : ixN n i = some j) : seqIndex? i n = some j ∧ j < n ∧ -(n : Int) ≤ i ∧ i < n := by
  unfold ixN at h
  by_cases h0 : 0 ≤ i
  · rw [if_pos h0] at h
    by_cases h1 : i < n
    · rw [if_pos h1] at h
      have e : i.toNat = j := Option.some.inj h
      exact ⟨by rw [seqIndex_of h0 h1, e], by omega, by omega, h1⟩
    · rw [if_neg h1] at h; cases h
  · rw [if_neg h0] at h
    by_cases h1 : -(n : Int) ≤ i
    · rw [if_pos h1] at h
      have e : (i + n).toNat = j := Option.some.inj h
      exact ⟨by rw [seqIndex_neg (by omega) h1, e], by omega, h1, by omega⟩
    · rw [if_neg h1] at h; cases h
theorem atI_get {α : Type} {xs : List α} {i : Int} {v : α} (h : atI xs i = some v) : ∃ j, seqIndex? i xs.length = some j ∧ xs[j]? = some v ∧ j < xs.length ∧ -(xs.length : Int) ≤ i ∧ i < xs.length := by
  unfold atI at h
  cases e : ixN xs.length i with
  | none => rw [e] at h; cases h
  | some j =>
    rw [e] at h
    obtain ⟨h1, h2, h3, h4⟩ := ixN_seq e
    exact ⟨j, h1, h, h2, h3, h4⟩
theorem atI_nat {α : Type} {xs : List α} {j : Nat} {v : α} (h : xs[j]? = some v) : atI xs (j : Int) = some v := by
  have hj : j < xs.length := (List.getElem?_eq_some_iff.mp h).1
  have e : ixN xs.length (j : Int) = some j := by
    unfold ixN
    rw [if_pos (by omega), if_pos (by omega)]; simp
  unfold atI; rw [e]; exact h
theorem atI_last {α : Type} (xs : List α) (v : α) : atI (xs ++ [v]) (-1) = some v := by
  have hl : (xs ++ [v]).length = xs.length + 1 := by simp
  have e : ixN (xs ++ [v]).length (-1) = some xs.length := by
    unfold ixN
    rw [hl, if_neg (by decide), if_pos (by omega)]
    congr 1
    omega
  unfold atI
  rw [e]
  show (xs ++ [v])[xs.length]? = some v
  simp

/-! ### what may be subscripted -/
/-- what stands as an index of a plain subscript -/
def PlainIx (b : Expr) : Prop := ∀ o i, subscripted b false o i = operate [o, i] (getItem o i)
/-- a subscript by values -/
def IxR (X : Cx) (r : R2) : Prop :=
  ∀ (value slice : Expr) (pins : List (Addr × Obj)) (s : Shared) (σ : St) (H : Hp) (x y : V) (v u : Value) (Q : VK), Inv X pins σ H s → RelV x v → RelV y u → r x y H Q →
    subscripted slice false v u = operate [v, u] (getItem v u) → wpAny (model X.prog X.w) X.A (subscriptTail value slice v u) (EP X pins σ Q) X.xe s
/-- a call of a builtin's method by values: the receiver, the arguments -/
def MtR (X : Cx) (id : String) (r : V → List V → Hp → VK → Prop) : Prop :=
  ∀ (pins : List (Addr × Obj)) (s : Shared) (σ : St) (H : Hp) (x : V) (xs : List V) (v : Value) (us : List Value) (Q : VK), Inv X pins σ H s → RelV x v → Vals xs us → r x xs H Q →
    wpAny (model X.prog X.w) X.A (call (.builtin id) (v :: us)) (EP X pins σ Q) X.xe s
section
variable {X : Cx} {a b : Expr} {ta tb : TE} {pos : Pos}
theorem IxR.or {r r' : R2} (h : IxR X r) (h' : IxR X r') : IxR X (fun x y H Q => r x y H Q ∨ r' x y H Q) := by
  intro value slice pins s σ H x y v u Q I rx ry q hs
  rcases q with q | q
  · exact h value slice pins s σ H x y v u Q I rx ry q hs
  · exact h' value slice pins s σ H x y v u Q I rx ry q hs
theorem MtR.or {id : String} {r r' : V → List V → Hp → VK → Prop} (h : MtR X id r) (h' : MtR X id r') : MtR X id (fun x xs H Q => r x xs H Q ∨ r' x xs H Q) := by
  intro pins s σ H x xs v us Q I rx rs q
  rcases q with q | q
  · exact h pins s σ H x xs v us Q I rx rs q
  · exact h' pins s σ H x xs v us Q I rx rs q
/-- a[b] -/
theorem pe_ix {r : R2} (hr : IxR X r) (ha : PE X a ta) (hb : PE X b tb) (hs : PlainIx b) : PE X (.Subscript a b pos) (tOp r ta tb) := by
  intro pins s σ H Q I h
  exact Subscript_ (binT ha hb I h fun v u s2 x y H2 I2 rx ry q => hr a b pins s2 σ H2 x y v u Q I2 rx ry q (hs _ _))

def rIxL (K : PySem.W.Frag) : R2 := fun x y H Q => ∃ p xs i v, x = .ref p ∧ y = .int i ∧ SqL K H p xs ∧ atI xs i = some v ∧ Q v H
def rIxT (K : PySem.W.Frag) : R2 := fun x y H Q => ∃ p xs i v, x = .ref p ∧ y = .int i ∧ SqT K H p xs ∧ atI xs i = some v ∧ Q v H
def rIxS : R2 := fun x y H Q => ∃ z i c, x = .str z ∧ y = .int i ∧ z.length ≤ sizeLine ∧ atI z.cps.toList i = some c ∧ Q (.str ⟨#[c]⟩) H
theorem ix_list : IxR X (rIxL X.K) := by
  intro value slice pins s σ H x y v u Q I rx ry h hs
  obtain ⟨p, xs, i, z, rfl, rfl, hq, he, q⟩ := h
  cases rx
  obtain ⟨t, rfl⟩ := ry
  obtain ⟨its, r, pl, hz⟩ := I.list hq
  obtain ⟨j, h1, h2, h3, h4, h5⟩ := atI_get he
  obtain ⟨w, ew, rw'⟩ := r.get h2
  have hl := r.length
  have hn := line63
  have fin : EP X pins σ Q w s := ⟨z, H, I, rw', q⟩
  by_cases h0 : 0 ≤ i
  · have hj : i.toNat = j := by
      rw [seqIndex_of h0 h5] at h1
      exact Option.some.inj h1
    exact item_listR pl.isList h0 (by omega) (by rw [hj]; simpa using ew) fin hs
  · have hj : (i + (its.toArray.size : Int)).toNat = j := by
      rw [seqIndex_neg (by omega) h4] at h1
      rw [List.size_toArray, ← hl]
      exact Option.some.inj h1
    exact subscriptTail_builtinR (x := w) pl.isList.typeIs slot_list_getitem.lookup
      (wpAny_getItem_list_neg (Q := fun r s' => r = w ∧ EP X pins σ Q r s') pl.isList (by omega) (by rw [List.size_toArray] <;> omega) (by omega) (by rw [hj]; simpa using ew) ⟨rfl, fin⟩) hs
theorem ix_tup : IxR X (rIxT X.K) := by
  intro value slice pins s σ H x y v u Q I rx ry h hs
  obtain ⟨p, xs, i, z, rfl, rfl, hq, he, q⟩ := h
  cases rx
  obtain ⟨t, rfl⟩ := ry
  obtain ⟨its, r, pl, hz⟩ := I.tuple hq
  obtain ⟨j, h1, h2, h3, h4, h5⟩ := atI_get he
  obtain ⟨w, ew, rw'⟩ := r.get h2
  have hl := r.length
  have hn := line63
  have fin : EP X pins σ Q w s := ⟨z, H, I, rw', q⟩
  exact subscriptTail_builtinR (x := w) pl.typeIs slot_tuple_getitem.lookup
    (getItem_tuple (j := j) (Q := fun r s' => r = w ∧ EP X pins σ Q r s') pl (by omega) (by omega) (by rw [List.size_toArray, ← hl]; exact h1) (by simpa using ew) ⟨rfl, fin⟩) hs
theorem ix_str : IxR X rIxS := by
  intro value slice pins s σ H x y v u Q I rx ry h hs
  obtain ⟨z, i, c, rfl, rfl, hz, he, q⟩ := h
  obtain ⟨t, rfl⟩ := rx
  obtain ⟨t', rfl⟩ := ry
  obtain ⟨j, h1, h2, h3, h4, h5⟩ := atI_get he
  have hl : z.cps.toList.length = z.length := by simp [Str.length]
  rw [hl] at h1 h4 h5
  have hn := line63
  exact tail_any (typeIs_str s z t) slot_str_getitem.lookup (getItem_str (c := c) (by
    have e1 : decide (i < -(2 ^ 63 : Int)) = false := decide_eq_false (by omega)
    have e2 : decide (i ≥ 2 ^ 63) = false := decide_eq_false (by omega)
    rw [e1, e2, Bool.or_false]) (by rw [h1]; simpa using h2) ⟨.str ⟨#[c]⟩, H, I.tok _, ⟨_, rfl⟩, q⟩) hs
/-- list, tuple or str -/
def rIx (K : PySem.W.Frag) : R2 := fun x y H Q => rIxL K x y H Q ∨ rIxT K x y H Q ∨ rIxS x y H Q
theorem ix_seq : IxR X (rIx X.K) := ix_list.or (ix_tup.or ix_str)

/-! ### xs[i] = v, any sign -/
/-- the list's object behind a store -/
theorem mapSeq_set (its : List Value) (n j : Nat) (u : Value) : Obj.mapSeq (·.setIfInBounds j u) { cls := .type "list", data := .seq its.toArray n } = { cls := .type "list", data := .seq (its.set j u).toArray n } := by
  simp [Obj.mapSeq]
theorem Inv.lst {pins : List (Addr × Obj)} {σ : St} {H : Hp} {s : Shared} {p : Addr} {xs : List V} (I : Inv X pins σ H s) (h : H p = some (.lst xs)) :
    ∃ (its : List Value) (n : Nat), Vals xs its ∧ s.heap.get? p = some { cls := .type "list", data := .seq its.toArray n } ∧ xs.length ≤ sizeLine := by
  obtain ⟨z, its, n, r, e⟩ := I.hok p _ h
  exact ⟨its, n, r, e, z⟩
/-- the list at p is written by an update of its object -/
theorem Inv.lstUpd {pins : List (Addr × Obj)} {σ : St} {H : Hp} {s : Shared} {p : Addr} {xs ys : List V} {its its' : List Value} {n n' : Nat} {f : Obj → Obj} (I : Inv X pins σ H s) (h : H p = some (.lst xs))
    (ho : s.heap.get? p = some { cls := .type "list", data := .seq its.toArray n }) (hf : f { cls := .type "list", data := .seq its.toArray n } = { cls := .type "list", data := .seq its'.toArray n' }) (r : Vals ys its') (hz : ys.length ≤ sizeLine) (t : Nat) :
    Inv X pins σ (upd H p (.lst ys)) { s with heap := s.heap.update p f, toks := t } := by
  have e : (s.heap.update p f).get? p = some { cls := .type "list", data := .seq its'.toArray n' } := by
    rw [Heap.get?_update_self f ho (by rw [hf] <;> rfl), hf]
  refine I.write (x := p) (e := p) (by rw [h]; trivial) (.inl rfl) (fun b u hb q => (Heap.get?_update_other _ _ (Ne.symm hb)).trans q) ⟨_, e⟩ ?_
  exact ⟨hz, its', n', r, e⟩
def rSetL : V → V → V → Hp → (Hp → Prop) → Prop := fun o i v H Q => ∃ p xs k j, o = .ref p ∧ i = .int k ∧ H p = some (.lst xs) ∧ ixN xs.length k = some j ∧ Q (upd H p (.lst (xs.set j v)))
theorem set_list : PSet X rSetL := by
  intro pins s σ H o i v ov iv u Q I ro ri rv h
  obtain ⟨p, xs, k, j, rfl, rfl, hp, hj, q⟩ := h
  cases ro
  obtain ⟨t, rfl⟩ := ri
  obtain ⟨its, n, r, ho, hz⟩ := I.lst hp
  obtain ⟨h1, h2, h3, h4⟩ := ixN_seq hj
  have hl := r.length
  have hn := line63
  have I' : Inv X pins σ (upd H p (.lst (xs.set j v))) { s with heap := s.heap.update p (Obj.mapSeq (·.setIfInBounds j u)) } :=
    I.lstUpd hp ho (mapSeq_set its n j u) (r.set rv j) (by rw [List.length_set]; exact hz) s.toks
  by_cases h0 : 0 ≤ k
  · have hk : k.toNat = j := by
      rw [seqIndex_of h0 h4] at h1
      exact Option.some.inj h1
    exact PySem.W.ki_setAt ho h0 (by omega) (by rw [List.size_toArray, ← hl]; exact h4) (by rw [hk]; exact ⟨_, I', q⟩)
  · have hk : (k + (its.toArray.size : Int)).toNat = j := by
      rw [seqIndex_neg (by omega) h3] at h1
      rw [List.size_toArray, ← hl]
      exact Option.some.inj h1
    exact PySem.W.ki_setBack ho (by omega) (by rw [List.size_toArray, ← hl]; exact h3) (by omega) (by rw [hk]; exact ⟨_, I', q⟩)

/-! ### slices -/
theorem slice_bounds (lo hi : Option Int) (n : Nat) : (sliceBounds lo hi none n).1 = ((HT.sIx n 0 lo : Nat) : Int) ∧ (sliceBounds lo hi none n).2.1 = ((HT.sIx n n hi : Nat) : Int) ∧ (sliceBounds lo hi none n).2.2 = 1 := by
  refine ⟨?_, ?_, rfl⟩
  · cases lo with
    | none => simp [sliceBounds, HT.sIx]
    | some i =>
      simp only [sliceBounds, HT.sIx, Option.getD_none, show (1 : Int) > 0 by decide, if_true]
      by_cases h : i < 0
      · simp only [h, if_true] <;> omega
      · simp only [h, if_false] <;> omega
  · cases hi with
    | none => simp [sliceBounds, HT.sIx]
    | some i =>
      simp only [sliceBounds, HT.sIx, Option.getD_none, show (1 : Int) > 0 by decide, if_true]
      by_cases h : i < 0
      · simp only [h, if_true] <;> omega
      · simp only [h, if_false] <;> omega
theorem slicePick_cut (its : List Value) (lo hi : Option Int) : slicePick its.toArray lo hi none = ((its.drop (HT.sIx its.length 0 lo)).take (HT.sIx its.length its.length hi - HT.sIx its.length 0 lo)).toArray := by
  obtain ⟨h1, h2, h3⟩ := slice_bounds lo hi its.toArray.size
  unfold slicePick
  rw [h1, h2, h3]
  simp only [sliceRange_one, pick_run, List.size_toArray] <;> rfl
/-- xs[lo:hi] of a list: a new list -/
def rSlL (K : PySem.W.Frag) : V → Option Int → Option Int → Hp → VK → Prop := fun x lo hi H Q => ∃ a xs, x = .ref a ∧ SqL K H a xs ∧ ∀ p, H p = none → Q (.ref p) (upd H p (.lst (cutV xs lo hi)))
theorem sl_list : SlR X (rSlL X.K) := by
  intro pins s σ H x v vl vu lo hi sl Q I rx hs pl pu h
  obtain ⟨a, xs, rfl, hx, q⟩ := h
  cases rx
  obtain ⟨its, r, ht, hz⟩ := I.list hx
  have hlen := r.length
  refine ⟨"list", _, slot_list_getitem.lookup, ht.isList.typeIs, ?_⟩
  refine wpAny_getItem_list_slice ht.isList hs pl pu .none (by simp) ?_ (by rw [List.size_toArray] <;> omega)
  rw [slicePick_cut, ← hlen]
  refine ⟨.ref s.heap.objs.size, _, I.laid (t' := s.toks) (o := .lst (cutV xs lo hi)) (fun b ob q => Heap.get?_push_of_some _ q) (Nat.le_refl _) ?_, rfl, q _ (I.hok.fresh (Nat.le_refl _))⟩
  exact ⟨Nat.le_trans (cutV_length xs lo hi) hz, _, 0, (r.drop (HT.sIx xs.length 0 lo)).take (HT.sIx xs.length xs.length hi - HT.sIx xs.length 0 lo), Heap.get?_push_size _ rfl⟩

/-! ### in, not in: flat items -/
def flatV : V → Bool
  | .non => true
  | .bl _ => true
  | .int _ => true
  | .str _ => true
  | _ => false
/-- == of flat values -/
def eqV : V → V → Bool
  | .non, .non => true
  | .bl a, .bl b => a == b
  | .bl a, .int b => (if a then 1 else 0) == b
  | .int a, .bl b => a == (if b then 1 else 0)
  | .int a, .int b => a == b
  | .str a, .str b => a == b
  | _, _ => false
theorem eqAt_V {A : Around} {s : Shared} {y x : V} {u v : Value} (ry : RelV y u) (rx : RelV x v) (fy : flatV y = true) (fx : flatV x = true) : SeqAt.EqAt A s u v (eqV y x) := by
  cases y with
  | non =>
    cases ry
    cases x with
    | non => cases rx; exact SeqAt.EqAt.same _
    | bl b => cases rx; exact SeqAt.EqAt.none_bool b
    | int b => obtain ⟨t, rfl⟩ := rx; exact SeqAt.EqAt.none_int b t
    | str b => obtain ⟨t, rfl⟩ := rx; exact SeqAt.EqAt.none_str b t
    | _ => exact absurd (show false = true from fx) Bool.false_ne_true
  | bl a =>
    cases ry
    cases x with
    | non => cases rx; exact SeqAt.EqAt.bool_none a
    | bl b => cases rx; exact SeqAt.EqAt.bool_bool a b
    | int b => obtain ⟨t, rfl⟩ := rx; exact SeqAt.EqAt.bool_int a b t
    | str b => obtain ⟨t, rfl⟩ := rx; exact SeqAt.EqAt.bool_str a b t
    | _ => exact absurd (show false = true from fx) Bool.false_ne_true
  | int a =>
    obtain ⟨t', rfl⟩ := ry
    cases x with
    | non => cases rx; exact SeqAt.EqAt.int_none a t'
    | bl b => cases rx; exact SeqAt.EqAt.int_bool a t' b
    | int b => obtain ⟨t, rfl⟩ := rx; exact SeqAt.EqAt.int_int a t' b t
    | str b => obtain ⟨t, rfl⟩ := rx; exact SeqAt.EqAt.int_str a t' b t
    | _ => exact absurd (show false = true from fx) Bool.false_ne_true
  | str a =>
    obtain ⟨t', rfl⟩ := ry
    cases x with
    | non => cases rx; exact SeqAt.EqAt.str_none a t'
    | bl b => cases rx; exact SeqAt.EqAt.str_bool a t' b
    | int b => obtain ⟨t, rfl⟩ := rx; exact SeqAt.EqAt.str_int a t' b t
    | str b => obtain ⟨t, rfl⟩ := rx; exact SeqAt.EqAt.str_str a t' b t
    | _ => exact absurd (show false = true from fx) Bool.false_ne_true
  | _ => exact absurd (show false = true from fy) Bool.false_ne_true
/-- the items' answers, read off the values (a value's own answer does not lean on its token) -/
def eqU (x : V) (u : Value) : Bool := match u with
  | .none => eqV .non x
  | .bool b => eqV (.bl b) x
  | .int i _ => eqV (.int i) x
  | .str z _ => eqV (.str z) x
  | _ => false
theorem eqU_of {x y : V} {u : Value} (r : RelV y u) (f : flatV y = true) : eqU x u = eqV y x := by
  cases y with
  | non => cases r; rfl
  | bl b => cases r; rfl
  | int i => obtain ⟨t, rfl⟩ := r; rfl
  | str z => obtain ⟨t, rfl⟩ := r; rfl
  | _ => exact absurd (show false = true from f) Bool.false_ne_true
theorem any_eqU {x : V} : ∀ {xs : List V} {us : List Value}, Vals xs us → xs.all flatV = true → us.any (eqU x) = xs.any fun y => eqV y x
  | _, _, .nil, _ => rfl
  | y :: xs, u :: us, .cons r t, f => by
    rw [List.all_cons, Bool.and_eq_true] at f
    rw [List.any_cons, List.any_cons, eqU_of r f.1, any_eqU t f.2]
theorem mem_eqAt {A : Around} {s : Shared} {x : V} {v : Value} (rx : RelV x v) (fx : flatV x = true) : ∀ {xs : List V} {us : List Value}, Vals xs us → xs.all flatV = true → ∀ u ∈ us, SeqAt.EqAt A s u v (eqU x u)
  | _, _, .nil, _ => fun u hu => by cases hu
  | y :: xs, u :: us, .cons r t, f => fun u' hu => by
    rw [List.all_cons, Bool.and_eq_true] at f
    rcases List.mem_cons.mp hu with rfl | hu
    · rw [eqU_of r f.1]; exact eqAt_V r rx f.1 fx
    · exact mem_eqAt rx fx t f.2 u' hu
def inV (x : V) (xs : List V) : Bool := xs.any fun y => eqV y x
/-- x in a list or tuple of flat items -/
def rIn (K : PySem.W.Frag) (neg : Bool) : R2 := fun x y H Q => ∃ p xs, y = .ref p ∧ (SqL K H p xs ∨ SqT K H p xs) ∧ flatV x = true ∧ xs.all flatV = true ∧ Q (.bl (if neg then !inV x xs else inV x xs)) H
theorem op_in_seq : OpR X (compareOp .In) (rIn X.K false) := by
  intro pins s σ H x y v u Q I rx ry h
  obtain ⟨p, xs, rfl, hq, fx, fs, q⟩ := h
  cases ry
  rcases hq with hq | hq
  · obtain ⟨its, r, pl, hz⟩ := I.list hq
    refine SeqAt.in_listAt (eqU x) pl.isList (fun w hw => mem_eqAt rx fx r fs w (by simpa using hw)) ⟨.bl _, H, I, rfl, ?_⟩
    rw [show its.toArray.any (eqU x) = its.any (eqU x) by simp, any_eqU r fs]
    exact q
  · obtain ⟨its, r, pl, hz⟩ := I.tuple hq
    refine SeqAt.in_tupleAt (eqU x) pl (fun w hw => mem_eqAt rx fx r fs w (by simpa using hw)) ⟨.bl _, H, I, rfl, ?_⟩
    rw [show its.toArray.any (eqU x) = its.any (eqU x) by simp, any_eqU r fs]
    exact q
theorem op_notIn_seq : OpR X (compareOp .NotIn) (rIn X.K true) := by
  intro pins s σ H x y v u Q I rx ry h
  obtain ⟨p, xs, rfl, hq, fx, fs, q⟩ := h
  cases ry
  rcases hq with hq | hq
  · obtain ⟨its, r, pl, hz⟩ := I.list hq
    refine SeqAt.notIn_listAt (eqU x) pl.isList (fun w hw => mem_eqAt rx fx r fs w (by simpa using hw)) ⟨.bl _, H, I, rfl, ?_⟩
    rw [show its.toArray.any (eqU x) = its.any (eqU x) by simp, any_eqU r fs]
    exact q
  · obtain ⟨its, r, pl, hz⟩ := I.tuple hq
    refine SeqAt.notIn_tupleAt (eqU x) pl (fun w hw => mem_eqAt rx fx r fs w (by simpa using hw)) ⟨.bl _, H, I, rfl, ?_⟩
    rw [show its.toArray.any (eqU x) = its.any (eqU x) by simp, any_eqU r fs]
    exact q
theorem op_notIn_str : OpR X (compareOp .NotIn) (fun x y H Q => ∃ i j, x = .str i ∧ y = .str j ∧ Q (.bl (!(!(Builtin.Str.occurrences j i 0 j.length 1).isEmpty))) H) := by
  intro pins s σ H x y v u Q I rx ry h
  obtain ⟨i, j, rfl, rfl, q⟩ := h
  obtain ⟨t, rfl⟩ := rx
  obtain ⟨t', rfl⟩ := ry
  exact notIn_str ⟨.bl _, H, I, rfl, q⟩

/-! ### len, list(x), tuple(x) of any list or tuple that is read -/
theorem call_len_seq : CallR X (.builtin "len") (fun xs H Q => ∃ p ys, xs = [.ref p] ∧ (SqL X.K H p ys ∨ SqT X.K H p ys) ∧ Q (.int ys.length) H) := by
  intro pins s σ H xs us Q I r h
  obtain ⟨p, ys, rfl, hq, q⟩ := h
  obtain ⟨u, rfl, rx⟩ := vals1 r
  cases rx
  have hn := line63
  rcases hq with hq | hq
  · obtain ⟨its, r', pl, hz⟩ := I.list hq
    have hlen := r'.length
    exact Calls.call_len_list pl.isList (by simp only [List.size_toArray] <;> omega) ⟨.int ys.length, H, I.tok _, ⟨s.toks + 1, by rw [List.size_toArray, hlen]⟩, q⟩
  · obtain ⟨its, r', pl, hz⟩ := I.tuple hq
    have hlen := r'.length
    exact len_tuple pl (by simp only [List.size_toArray] <;> omega) ⟨.int ys.length, H, I.tok _, ⟨s.toks + 1, by rw [List.size_toArray, hlen]⟩, q⟩
theorem call_len_str : CallR X (.builtin "len") (fun xs H Q => ∃ z, xs = [.str z] ∧ z.length ≤ sizeLine ∧ Q (.int z.length) H) := by
  intro pins s σ H xs us Q I r h
  obtain ⟨z, rfl, hz, q⟩ := h
  obtain ⟨u, rfl, t, rfl⟩ := vals1 r
  have hn := line63
  exact len_str (by omega) ⟨.int z.length, H, I.tok _, ⟨_, rfl⟩, q⟩
theorem CallR.or {f : Value} {r r' : List V → Hp → VK → Prop} (h : CallR X f r) (h' : CallR X f r') : CallR X f (fun xs H Q => r xs H Q ∨ r' xs H Q) := by
  intro pins s σ H xs us Q I rs q
  rcases q with q | q
  · exact h pins s σ H xs us Q I rs q
  · exact h' pins s σ H xs us Q I rs q
theorem call_list_of : CallR X (.type "list") (fun xs H Q => ∃ p ys, xs = [.ref p] ∧ (SqL X.K H p ys ∨ SqT X.K H p ys) ∧ ∀ l, H l = none → Q (.ref l) (upd H l (.lst ys))) := by
  intro pins s σ H xs us Q I r h
  obtain ⟨p, ys, rfl, hq, q⟩ := h
  obtain ⟨u, rfl, rx⟩ := vals1 r
  cases rx
  have fin : ∀ (its : List Value), Vals ys its → ys.length ≤ sizeLine → ∀ (h' : Heap) (c' : Nat), (∀ b o', s.heap.get? b = some o' → h'.get? b = some o') →
      h'.get? s.heap.objs.size = some { cls := .type "list", dict := none, data := .seq its.toArray c', slots := #[] } → EP X pins σ Q (.ref s.heap.objs.size) { s with heap := h' } := fun its r' hz h' c' kp e =>
    ⟨.ref s.heap.objs.size, _, I.laid (t' := s.toks) kp (Nat.le_refl _) (show ObjOk X.prog X.w _ h' _ (.lst ys) from ⟨hz, its, c', r', e⟩), rfl, q _ (I.hok.fresh (Nat.le_refl _))⟩
  rcases hq with hq | hq
  · obtain ⟨its, r', pl, hz⟩ := I.list hq
    have hlen := r'.length
    obtain ⟨o, ho, hc, n, hd⟩ := pl.isList
    exact call_list_seq p (.inl rfl) ho hc hd (fun h' c' kp e => fin its r' hz h' c' kp e) (by simp only [List.size_toArray] <;> omega)
  · obtain ⟨its, r', pl, hz⟩ := I.tuple hq
    have hlen := r'.length
    obtain ⟨o, ho, hc, n, hd⟩ := pl
    exact call_list_seq p (.inr rfl) ho hc hd (fun h' c' kp e => fin its r' hz h' c' kp e) (by simp only [List.size_toArray] <;> omega)
theorem call_tuple_of : CallR X (.type "tuple") (fun xs H Q => ∃ p ys, xs = [.ref p] ∧ ((SqL X.K H p ys ∧ ∀ l, H l = none → Q (.ref l) (upd H l (.tup ys))) ∨ (SqT X.K H p ys ∧ Q (.ref p) H))) := by
  intro pins s σ H xs us Q I r h
  obtain ⟨p, ys, rfl, h⟩ := h
  obtain ⟨u, rfl, rx⟩ := vals1 r
  cases rx
  rcases h with ⟨hq, q⟩ | ⟨hq, q⟩
  · obtain ⟨its, r', pl, hz⟩ := I.list hq
    have hlen := r'.length
    refine call_tuple_list pl.isList (fun h' kp => ?_) (by simp only [List.size_toArray] <;> omega)
    have I1 : Inv X pins σ H { s with heap := h' } := I.kept (t' := s.toks) kp
    have I2 : Inv X pins σ (upd H h'.objs.size (.tup ys)) { s with heap := h'.push { cls := .type "tuple", data := .seq its.toArray } } :=
      I1.laid (t' := s.toks) (fun b o e => Heap.get?_push_of_some _ e) (Nat.le_refl _) (show ObjOk X.prog X.w _ _ _ (.tup ys) from ⟨hz, its, r', IsTup.new _ _⟩)
    exact ⟨.ref h'.objs.size, _, I2, rfl, q _ (I1.hok.fresh (Nat.le_refl _))⟩
  · obtain ⟨its, r', pl, hz⟩ := I.tuple hq
    exact call_tuple_same pl ⟨.ref p, H, I, rfl, q⟩

/-! ### the call of a builtin's method: o.m(..) -/
/-- the value is of that builtin type -/
def tyV (K : PySem.W.Frag) (T : String) (x : V) (H : Hp) : Prop := match x with
  | .str _ => T = "str"
  | .int _ => T = "int"
  | .ref p => (T = "list" ∧ ∃ xs, SqL K H p xs) ∨ (T = "tuple" ∧ ∃ o, K.lookup p = some o ∧ o.cls = .type "tuple" ∧ o.dict = none) ∨
      (T = "dict" ∧ ((∃ kvs, H p = some (.dK kvs)) ∨ ∃ kvs, H p = some (.dT kvs))) ∨ (T = "set" ∧ ∃ S n, H p = some (.set S n))
  | _ => False
theorem tyV_is {pins : List (Addr × Obj)} {σ : St} {H : Hp} {s : Shared} {T : String} {x : V} {v : Value} (I : Inv X pins σ H s) (r : RelV x v) (ty : tyV X.K T x H) :
    s.TypeIs v T ∧ ∀ a, v = .ref a → ∃ ob, s.heap.get? a = some ob ∧ ob.dict = none := by
  cases x with
  | str z =>
    obtain ⟨t, rfl⟩ := r
    cases (show T = "str" from ty)
    exact ⟨typeIs_str s z t, fun _ e => nomatch e⟩
  | int i =>
    obtain ⟨t, rfl⟩ := r
    cases (show T = "int" from ty)
    exact ⟨typeIs_int s i t, fun _ e => nomatch e⟩
  | ref p =>
    cases r
    rcases ty with ⟨rfl, xs, hq⟩ | ⟨rfl, o, hk, hc, hd⟩ | ⟨rfl, hk⟩ | ⟨rfl, S, n, hk⟩
    · obtain ⟨its, _, pl, _⟩ := I.list hq
      refine ⟨pl.isList.typeIs, fun a e => ?_⟩
      cases e
      obtain ⟨o, n, e, c, hd, _⟩ := pl
      exact ⟨o, e, hd⟩
    · refine ⟨⟨o, I.kIn p o hk, hc⟩, fun a e => ?_⟩
      cases e
      exact ⟨o, I.kIn _ o hk, hd⟩
    · have z : ∃ o, s.heap.get? p = some o ∧ o.ExactDict := by
        rcases hk with ⟨kvs, hk⟩ | ⟨kvs, hk⟩
        · obtain ⟨_, _, _, _, o, _, _, e, ex, _⟩ := I.hok p _ hk
          exact ⟨o, e, ex⟩
        · obtain ⟨_, _, _, _, o, _, _, e, ex, _⟩ := I.hok p _ hk
          exact ⟨o, e, ex⟩
      obtain ⟨o, e, ex⟩ := z
      refine ⟨⟨o, e, ex.1⟩, fun a e2 => ?_⟩
      cases e2
      exact ⟨o, e, ex.2.1⟩
    · obtain ⟨o, _, _, _, e, ex, _⟩ := I.hok p _ hk
      refine ⟨⟨o, e, ex.1⟩, fun a e2 => ?_⟩
      cases e2
      exact ⟨o, e, ex.2.1⟩
  | _ => exact False.elim ty
def tBM0 (K : PySem.W.Frag) (T : String) (r : V → List V → Hp → VK → Prop) (to : TE) : TE := fun σ H Q => to σ H fun x H1 => tyV K T x H1 ∧ r x [] H1 Q
def tBM (K : PySem.W.Frag) (T : String) (r : V → List V → Hp → VK → Prop) (to : TE) (t : TA) : TE := fun σ H Q => to σ H fun x H1 => tyV K T x H1 ∧ t σ H1 fun xs H2 => r x xs H2 Q
variable {o e : Expr} {es : List Expr} {to : TE} {t : TA} {name : Str} {apos cpos : Pos} {T id : String} {r : V → List V → Hp → VK → Prop}
theorem pe_bm0 (pa : PlainAttrs T) (slot : Slot T name id) (hty : typeOf (.builtin id) = pure (.type "method_descriptor")) (hm : MtR X id r) (ho : PE X o to)
    (hbase : attributeBase o name X.env (eval o X.env) = eval o X.env := by rfl) (hline : (apos.endLine == cpos.line) = true := by rfl) : PE X (.Call (.Attribute o name apos) [] [] cpos) (tBM0 X.K T r to) := by
  intro pins s σ H Q I h
  refine wpAny_Call_method0_late hbase hline (thn (ho pins s σ H _ I h) fun v s1 ⟨x, H1, I1, r1, ty, q1⟩ => ?_)
  obtain ⟨h1, h2⟩ := tyV_is I1 r1 ty
  exact ⟨T, id, pa, slot, hty, h1, h2, Calls.callWith_builtin rfl (PySem.evalArgs_none (hm pins s1 σ H1 x [] v [] Q I1 r1 .nil q1))⟩
theorem pe_bm (pa : PlainAttrs T) (slot : Slot T name id) (hty : typeOf (.builtin id) = pure (.type "method_descriptor")) (hm : MtR X id r) (ho : PE X o to) (ha : PA X (e :: es) t)
    (hbase : attributeBase o name X.env (eval o X.env) = eval o X.env := by rfl)
    (hfew : ((backTo cpos (starEach (e :: es) X.env)).all (fun x => !x.1) && (backToKw cpos (keywordEach [] X.env)).all (fun x => x.1.isSome)
      && decide ((e :: es).length + ([] : List Keyword).length + (if ([] : List Keyword).isEmpty then 0 else 1) < 30)) = true := by rfl)
    (hline : (apos.endLine == cpos.line) = true := by rfl) (hs : starEach (e :: es) X.env = (false, eval e X.env) :: starEach es X.env := by rfl) (hplain : (backTo cpos (starEach es X.env)).any (·.1) = false := by rfl) :
    PE X (.Call (.Attribute o name apos) (e :: es) [] cpos) (tBM X.K T r to t) := by
  intro pins s σ H Q I h
  refine wpAny_Call_method_late hbase hfew hline rfl (thn (ho pins s σ H _ I h) fun v s1 ⟨x, H1, I1, r1, ty, q1⟩ => ?_)
  obtain ⟨h1, h2⟩ := tyV_is I1 r1 ty
  refine ⟨T, id, pa, slot, hty, h1, h2, ?_⟩
  have hA := ha cpos pins s1 σ H1 _ I1 q1
  rw [hs] at hA ⊢
  refine Calls.callWith_builtin (by show (false || (backTo cpos (starEach es X.env)).any (·.1)) = false; rw [hplain] <;> rfl) (Calls.evalArgs_plain ?_)
  exact thn hA fun us s2 ⟨vs, H2, I2, r2, q2⟩ => hm pins s2 σ H2 x vs v us Q I2 r1 r2 q2
/- xs.append(e), list.index on a module's tuple .. are MtR facts of 06m -/
end
end L2

namespace L2
open PySem PySem.Spec PyProof.Rows

def MtM (X : Cx) (id : String) (r : V → List V → Hp → VK → Prop) : Prop :=
  ∀ (pins : List (Addr × Obj)) (s : Shared) (σ : St) (H : Hp) (x : V) (xs : List V) (v : Value) (us : List Value) (Q : VK), Inv X pins σ H s → RelV x v → Vals xs us → r x xs H Q →
    wpAny (model X.prog X.w) X.A (call (.builtin id) (v :: us)) (EP X pins σ Q) X.xe s

/-! ### lists of values -/
theorem Vals.one : ∀ {x : V} {us : List Value}, Vals [x] us → ∃ u, us = [u] ∧ RelV x u
  | _, _, .cons r .nil => ⟨_, rfl, r⟩
theorem Vals.two : ∀ {x y : V} {us : List Value}, Vals [x, y] us → ∃ u v, us = [u, v] ∧ RelV x u ∧ RelV y v
  | _, _, _, .cons r (.cons q .nil) => ⟨_, _, rfl, r, q⟩
theorem Vals.zero : ∀ {us : List Value}, Vals [] us → us = []
  | _, .nil => rfl
theorem Vals.dropLast {xs : List V} {us : List Value} (h : Vals xs us) : Vals xs.dropLast us.dropLast := by
  induction h with
  | nil => exact .nil
  | cons r t ih =>
    cases t with
    | nil => exact .nil
    | cons q t' => exact .cons r ih
theorem Vals.eraseIdx : ∀ {xs : List V} {us : List Value} (i : Nat), Vals xs us → Vals (xs.eraseIdx i) (us.eraseIdx i)
  | _, _, _, .nil => .nil
  | _, _, 0, .cons _ t => t
  | _, _, i + 1, .cons r t => .cons r (Vals.eraseIdx i t)
theorem Vals.reverse {xs : List V} {us : List Value} (h : Vals xs us) : Vals xs.reverse us.reverse := by
  induction h with
  | nil => exact .nil
  | cons r t ih => rw [List.reverse_cons, List.reverse_cons]; exact Vals.append ih (.cons r .nil)
theorem Vals.rep {xs : List V} {us : List Value} (h : Vals xs us) : ∀ k : Nat, Vals (List.replicate k xs).flatten (List.replicate k us).flatten
  | 0 => .nil
  | k + 1 => by
    rw [List.replicate_succ, List.replicate_succ, List.flatten_cons, List.flatten_cons]
    exact Vals.append h (Vals.rep h k)
theorem erase_last {α : Type} (l : List α) : l.eraseIdx (l.length - 1) = l.dropLast := by
  induction l with
  | nil => rfl
  | cons a r ih =>
    cases r with
    | nil => rfl
    | cons b r =>
      have e : (a :: b :: r).length - 1 = ((b :: r).length - 1) + 1 := by
        have h1 : (a :: b :: r).length = r.length + 2 := rfl
        have h2 : (b :: r).length = r.length + 1 := rfl
        omega
      rw [e, List.eraseIdx_cons_succ, ih]
      all_goals rfl
theorem len_erase {α : Type} : ∀ (l : List α) (i : Nat), (l.eraseIdx i).length ≤ l.length
  | [], _ => Nat.le_refl _
  | _ :: _, 0 => Nat.le_succ _
  | _ :: r, i + 1 => Nat.succ_le_succ (len_erase r i)
theorem foldl_rep (its : List Value) : ∀ (k : Nat) (acc : List Value),
    List.foldl (fun x1 x2 => x1 ++ x2) acc.toArray (List.replicate k its.toArray) = (acc ++ (List.replicate k its).flatten).toArray
  | 0, acc => by simp
  | k + 1, acc => by
    have e : acc.toArray ++ its.toArray = (acc ++ its).toArray := by simp
    have e2 : (acc ++ its) ++ (List.replicate k its).flatten = acc ++ (List.replicate (k + 1) its).flatten := by
      rw [List.replicate_succ, List.flatten_cons, List.append_assoc]
    rw [← e2, ← foldl_rep its k (acc ++ its), ← e, List.replicate_succ, List.foldl_cons]

section
variable {X : Cx} {pins : List (Addr × Obj)} {σ : St} {H : Hp} {s : Shared} {l b : Addr} {xs ys zs : List V}

/-! ### the two steps: a tracked list is rewritten, a new list is laid -/
theorem Inv.lset {its its' : List Value} {n : Nat} {f : Array Value → Array Value} {t' : Nat} (I : Inv X pins σ H s) (hH : H l = some (.lst xs))
    (e : s.heap.get? l = some { cls := .type "list", data := .seq its.toArray n }) (hf : f its.toArray = its'.toArray) (hv : Vals ys its') (hz : ys.length ≤ sizeLine) :
    Inv X pins σ (upd H l (.lst ys)) { s with heap := s.heap.update l (Obj.mapSeq f), toks := t' } := by
  have q := PySem.IsL.update e f
  rw [hf] at q
  refine I.write (x := l) (e := l) (by rw [hH]; exact trivial) (.inl rfl) (fun b' u hb hu => (Heap.get?_update_other s.heap (Obj.mapSeq f) (Ne.symm hb)).trans hu) ⟨_, q⟩ ?_
  exact ⟨hz, its', _, hv, q⟩
theorem Inv.lnew {its : List Value} {t' : Nat} (I : Inv X pins σ H s) (hv : Vals ys its) (hz : ys.length ≤ sizeLine) :
    Inv X pins σ (upd H s.heap.objs.size (.lst ys)) { s with heap := s.heap.push { cls := .type "list", data := .seq its.toArray }, toks := t' } :=
  I.laid (fun _ _ q => Heap.get?_push_of_some _ q) (Nat.le_refl _) ⟨hz, its, 0, hv, Heap.get?_push_size _ rfl⟩
theorem Inv.fresh (I : Inv X pins σ H s) : H s.heap.objs.size = none := I.hok.fresh (Nat.le_refl _)
theorem Inv.lstM (I : Inv X pins σ H s) (hH : H l = some (.lst xs)) : xs.length ≤ sizeLine ∧ ∃ (its : List Value) (n : Nat), Vals xs its ∧ xs.length = its.length ∧ s.heap.get? l = some { cls := .type "list", data := .seq its.toArray n } := by
  obtain ⟨z, its, n, r, e⟩ := I.hok l _ hH
  exact ⟨z, its, n, r, r.length, e⟩

theorem notLongL {n : Nat} (h : n ≤ sizeLine) : Builtin.List.listTooLong n = false := by
  unfold Builtin.List.listTooLong
  exact decide_eq_false (by omega)
end

section
variable {X : Cx}

/-! ### methods -/
def rAppend : V → List V → Hp → VK → Prop := fun x vs H Q => ∃ l xs y, x = .ref l ∧ vs = [y] ∧ H l = some (.lst xs) ∧ xs.length < sizeLine ∧ Q .non (upd H l (.lst (xs ++ [y])))
theorem mt_append : MtM X "list.append" rAppend := by
  intro pins s σ H x vs v us Q I rx rv h
  obtain ⟨l, xs, y, rfl, rfl, hH, hz, q⟩ := h
  cases rx
  obtain ⟨u, rfl, ru⟩ := rv.one
  obtain ⟨z, its, n, r, hl, e⟩ := I.lstM hH
  refine call_meets F.slot_list_append ⟨_, e, rfl⟩ F.entry_list_append (F.args_list_append_2 _ _) (PySem.list_append l its.toArray n u (by rw [List.size_toArray]; omega)) ⟨e, ?_⟩
  refine ⟨.non, _, I.lset (its' := its ++ [u]) hH e (by simp) (r.append (.cons ru .nil)) ?_, rfl, q⟩
  rw [List.length_append, List.length_singleton]
  omega

def rExtend : V → List V → Hp → VK → Prop := fun x vs H Q => ∃ l b xs zs, x = .ref l ∧ vs = [.ref b] ∧ H l = some (.lst xs) ∧ H b = some (.lst zs) ∧ xs.length + zs.length ≤ sizeLine ∧ Q .non (upd H l (.lst (xs ++ zs)))
theorem mt_extend : MtM X "list.extend" rExtend := by
  intro pins s σ H x vs v us Q I rx rv h
  obtain ⟨l, b, xs, zs, rfl, rfl, hH, hB, hz, q⟩ := h
  cases rx
  obtain ⟨u, rfl, ru⟩ := rv.one
  cases ru
  obtain ⟨z, its, n, r, hl, e⟩ := I.lstM hH
  obtain ⟨z2, its2, n2, r2, hl2, e2⟩ := I.lstM hB
  have hsz : its.toArray.size + its2.toArray.size ≤ sizeLine := by rw [List.size_toArray, List.size_toArray]; omega
  have hlong : ¬ (!its.toArray.isEmpty && Builtin.List.listTooLong (its.toArray.size + its2.toArray.size)) = true := by
    rw [notLongL hsz, Bool.and_false]
    exact Bool.false_ne_true
  refine call_meets F.slot_list_extend ⟨_, e, rfl⟩ F.entry_list_extend (F.args_list_extend_2 _ _)
    (AutoSeq1.list_extend_list_list_0 l its.toArray n b its2.toArray n2 hlong (by rw [List.size_toArray]; omega) (by omega)) ⟨e, e2, ?_⟩
  refine ⟨.non, _, I.lset (its' := its ++ its2) hH e (by simp) (r.append r2) ?_, rfl, q⟩
  rw [List.length_append]
  omega

def rPop : V → List V → Hp → VK → Prop := fun x vs H Q => ∃ l xs y, x = .ref l ∧ vs = [] ∧ H l = some (.lst xs) ∧ xs[xs.length - 1]? = some y ∧ Q y (upd H l (.lst xs.dropLast))
theorem mt_pop : MtM X "list.pop" rPop := by
  intro pins s σ H x vs v us Q I rx rv h
  obtain ⟨l, xs, y, rfl, rfl, hH, hy, q⟩ := h
  cases rx
  have hus := rv.zero
  subst hus
  obtain ⟨z, its, n, r, hl, e⟩ := I.lstM hH
  obtain ⟨u, hu, ru⟩ := r.get hy
  have hy' : its.toArray[its.toArray.size - 1]? = some u := by
    show its.toArray[its.length - 1]? = some u
    rw [← Array.getElem?_toList, ← hl]
    exact hu
  refine call_meets F.slot_list_pop ⟨_, e, rfl⟩ F.entry_list_pop (F.args_list_pop_1 _) (MeetsSeq.list_pop_last l its.toArray n u hy' (by rw [List.size_toArray]; omega)) ⟨e, ?_⟩
  refine ⟨y, _, I.lset (its' := its.dropLast) hH e ?_ r.dropLast ?_, ru, q⟩
  · show its.toArray.eraseIdxIfInBounds (its.toArray.size - 1) = its.dropLast.toArray
    rw [List.size_toArray, List.eraseIdxIfInBounds_toArray, erase_last]
  · rw [List.length_dropLast]
    omega

def rPopAt : V → List V → Hp → VK → Prop := fun x vs H Q => ∃ l xs i k y, x = .ref l ∧ vs = [.int i] ∧ H l = some (.lst xs) ∧ -(2 ^ 63) ≤ i ∧ i < 2 ^ 63 ∧ seqIndex? i xs.length = some k ∧ xs[k]? = some y ∧ Q y (upd H l (.lst (xs.eraseIdx k)))
theorem mt_popAt : MtM X "list.pop" rPopAt := by
  intro pins s σ H x vs v us Q I rx rv h
  obtain ⟨l, xs, i, k, y, rfl, rfl, hH, h1, h2, hk, hy, q⟩ := h
  cases rx
  obtain ⟨u, rfl, ru⟩ := rv.one
  obtain ⟨t, rfl⟩ := ru
  obtain ⟨z, its, n, r, hl, e⟩ := I.lstM hH
  obtain ⟨w, hw, rw'⟩ := r.get hy
  refine call_meets F.slot_list_pop ⟨_, e, rfl⟩ F.entry_list_pop (F.args_list_pop_2 _ _)
    (MeetsSeq.list_pop_at l its.toArray n i t k w (fitsIndex_both h1 h2) (by rw [List.size_toArray, ← hl]; exact hk) (by rw [← Array.getElem?_toList]; exact hw) (by rw [List.size_toArray]; omega)) ⟨e, ?_⟩
  refine ⟨y, _, I.lset (its' := its.eraseIdx k) hH e ?_ (r.eraseIdx k) ?_, rw', q⟩
  · show its.toArray.eraseIdxIfInBounds k = (its.eraseIdx k).toArray
    rw [List.eraseIdxIfInBounds_toArray]
  · have := len_erase xs k
    omega

def rReverse : V → List V → Hp → VK → Prop := fun x vs H Q => ∃ l xs, x = .ref l ∧ vs = [] ∧ H l = some (.lst xs) ∧ Q .non (upd H l (.lst xs.reverse))
theorem mt_reverse : MtM X "list.reverse" rReverse := by
  intro pins s σ H x vs v us Q I rx rv h
  obtain ⟨l, xs, rfl, rfl, hH, q⟩ := h
  cases rx
  have hus := rv.zero
  subst hus
  obtain ⟨z, its, n, r, hl, e⟩ := I.lstM hH
  refine call_meets F.slot_list_reverse ⟨_, e, rfl⟩ F.entry_list_reverse (F.args_list_reverse_1 _) (AutoSeq1.list_reverse_list_0 l its.toArray n (by rw [List.size_toArray]; omega)) ⟨e, ?_⟩
  refine ⟨.non, _, I.lset (its' := its.reverse) hH e (by simp) r.reverse ?_, rfl, q⟩
  rw [List.length_reverse]
  omega

def rClear : V → List V → Hp → VK → Prop := fun x vs H Q => ∃ l xs, x = .ref l ∧ vs = [] ∧ H l = some (.lst xs) ∧ Q .non (upd H l (.lst []))
theorem mt_clear : MtM X "list.clear" rClear := by
  intro pins s σ H x vs v us Q I rx rv h
  obtain ⟨l, xs, rfl, rfl, hH, q⟩ := h
  cases rx
  have hus := rv.zero
  subst hus
  obtain ⟨z, its, n, r, hl, e⟩ := I.lstM hH
  refine call_meets F.slot_list_clear ⟨_, e, rfl⟩ F.entry_list_clear (F.args_list_clear_1 _) (AutoSeq1.list_clear_list_0 l its.toArray n (by rw [List.size_toArray]; omega)) ⟨e, ?_⟩
  exact ⟨.non, _, I.lset (its' := []) (ys := []) hH e rfl .nil (Nat.zero_le _), rfl, q⟩

/-! ### list + list, list += list, list * int -/
def rCat : R2 := fun x y H Q => ∃ l b xs zs, x = .ref l ∧ y = .ref b ∧ H l = some (.lst xs) ∧ H b = some (.lst zs) ∧ xs.length + zs.length ≤ sizeLine ∧ ∀ p, H p = none → Q (.ref p) (upd H p (.lst (xs ++ zs)))
theorem op_cat : OpR X (binaryOp .Add) rCat := by
  intro pins s σ H x y v u Q I rx ry h
  obtain ⟨l, b, xs, zs, rfl, rfl, hH, hB, hz, q⟩ := h
  cases rx
  cases ry
  obtain ⟨z, its, n, r, hl, e⟩ := I.lstM hH
  obtain ⟨z2, its2, n2, r2, hl2, e2⟩ := I.lstM hB
  refine PySem.P.add_list e e2 ?_ (by rw [List.size_toArray, List.size_toArray]; omega)
  have ea : its.toArray ++ its2.toArray = (its ++ its2).toArray := by simp
  rw [ea]
  exact ⟨.ref _, _, I.lnew (t' := s.toks) (r.append r2) (by rw [List.length_append]; omega), rfl, q _ I.fresh⟩
/-- a list times an int (a negative one is nothing) -/
def rRep : R2 := fun x y H Q => ∃ l k xs, x = .ref l ∧ y = .int k ∧ H l = some (.lst xs) ∧ -(2 ^ 63) ≤ k ∧ k < 2 ^ 63 ∧ xs.length * k.toNat ≤ sizeLine ∧
  ∀ p, H p = none → Q (.ref p) (upd H p (.lst (List.replicate k.toNat xs).flatten))
theorem len_rep {α : Type} (xs : List α) (k : Nat) : (List.replicate k xs).flatten.length = k * xs.length := by
  induction k with
  | zero => simp
  | succ k ih => rw [List.replicate_succ, List.flatten_cons, List.length_append, ih, Nat.succ_mul, Nat.add_comm]
theorem op_rep : OpR X (binaryOp .Mult) rRep := by
  intro pins s σ H x y v u Q I rx ry h
  obtain ⟨l, k, xs, rfl, rfl, hH, h1, h2, hz, q⟩ := h
  cases rx
  obtain ⟨t, rfl⟩ := ry
  obtain ⟨z, its, n, r, hl, e⟩ := I.lstM hH
  have hlen : its.toArray.size * k.toNat ≤ sizeLine := by rw [List.size_toArray, ← hl]; exact hz
  have hcap : ¬ its.toArray.size * k.toNat > (2 ^ 63 - 1) / 8 := by
    have : (sizeLine : Nat) ≤ (2 ^ 63 - 1) / 8 := by decide
    omega
  have hfit : ¬ (!Builtin.List.listFitsIndex k) = true := by
    rw [fitsIndex_both h1 h2]
    exact Bool.false_ne_true
  have hlong : ¬ Builtin.List.listTooLong (its.toArray.size * k.toNat) = true := by
    rw [notLongL hlen]
    exact Bool.false_ne_true
  have hnew : List.foldl (fun x1 x2 => x1 ++ x2) #[] (List.replicate (if its.toArray.isEmpty = true then 0 else k.toNat) its.toArray) = (List.replicate k.toNat its).flatten.toArray := by
    have f0 : ∀ m : Nat, List.foldl (fun x1 x2 => x1 ++ x2) #[] (List.replicate m its.toArray) = (List.replicate m its).flatten.toArray := fun m => by
      have := foldl_rep its m []
      rw [List.nil_append] at this
      exact this
    rw [f0]
    cases its with
    | nil => simp
    | cons a r' => rw [if_neg (by simp)]
  refine wpAny_binaryOp_repeat_ref (T := "list") (U := "int") (by decide) ⟨_, e, rfl⟩ (fun s' => typeIs_int s' k t) noFill_list_mul F.fills_int_mul F.slot_int_rmul repeat_list F.slot_int_index.lookup
    (call_meets F.slot_int_rmul (typeIs_int s k t) F.entry_int_rmul (F.args_int_rmul_2 _ _) (int___rmul___int_list k t l its.toArray n)
      ⟨e, rfl, ⟨_, e, rfl⟩, call_meets F.slot_list_mul ⟨_, e, rfl⟩ F.entry_list_mul (F.args_list_mul_2 _ _) (AutoListH.list___mul___list_int_3 l its.toArray n k t hfit hcap hlong) ⟨e, ?_⟩⟩)
  rw [hnew]
  exact ⟨.ref _, _, I.lnew (t' := s.toks) (r.rep k.toNat) (by rw [len_rep, Nat.mul_comm]; exact hz), rfl, q _ I.fresh⟩

/-! ### del xs[i] -/
theorem del_list {pins : List (Addr × Obj)} {s : Shared} {σ : St} {H : Hp} {l : Addr} {xs : List V} {i : Int} {t : Tok} {k : Nat} {Q : Unit → Shared → Prop} (I : Inv X pins σ H s) (hH : H l = some (.lst xs))
    (h1 : -(2 ^ 63) ≤ i) (h2 : i < 2 ^ 63) (hk : seqIndex? i xs.length = some k) (h : ∀ s', Inv X pins σ (upd H l (.lst (xs.eraseIdx k))) s' → Q () s') :
    wpAny (model X.prog X.w) X.A (delItem (.ref l) (.int i t)) Q X.xe s := by
  obtain ⟨z, its, n, r, hl, e⟩ := I.lstM hH
  refine PySem.P.delItem_list (k := k) e (fitsIndex_both h1 h2) (by rw [List.size_toArray, ← hl]; exact hk) (h _ ?_) (by rw [List.size_toArray]; omega)
  refine I.lset (its' := its.eraseIdx k) (t' := s.toks) hH e ?_ (r.eraseIdx k) ?_
  · show its.toArray.eraseIdxIfInBounds k = (its.eraseIdx k).toArray
    rw [List.eraseIdxIfInBounds_toArray]
  · have := len_erase xs k
    omega
end

/-! ### xs[a:b] = ys -/
section
variable {prog : Program} {w : World} {A : Around} {E : Value → Shared → Prop} {s : Shared}
theorem splice_eq (its its2 : List Value) (a c : Nat) : its.toArray.extract 0 a ++ its2.toArray ++ its.toArray.extract c its.toArray.size = (its.take a ++ its2 ++ its.drop c).toArray := by
  apply Array.toList_inj.mp
  first
    | (simp
       exact List.take_of_length_le (by simp))
    | simp [List.take_of_length_le]
    | simp
theorem bounds_run {a c n : Nat} (hac : a ≤ c) (hc : c ≤ n) : sliceBounds (some (a : Int)) (some (c : Int)) none n = ((a : Int), (c : Int), 1) := by
  simp only [sliceBounds, Option.getD_none]
  have h1 : ¬ ((a : Int) < 0) := by omega
  have h2 : ¬ ((c : Int) < 0) := by omega
  simp only [h1, h2, if_false, show (1 : Int) > 0 by decide, if_true]
  congr 1
  · omega
  · congr 1; omega
set_option maxRecDepth 100000 in
/-- list.__setitem__ with a slice of step one and another list -/
theorem setItem_slice {l b sl : Addr} {items new : Array Value} {n n2 : Nat} {vl vu : Value} {a c : Nat} {Q : Unit → Shared → Prop}
    (e : s.heap.get? l = some { cls := .type "list", data := .seq items n }) (e2 : s.heap.get? b = some { cls := .type "list", data := .seq new n2 }) (hne : l ≠ b)
    (hs : s.heap.IsSliceOf sl vl vu .none) (pl : IsPart vl (some (a : Int))) (pu : IsPart vu (some (c : Int))) (hac : a ≤ c) (hc : c ≤ items.size)
    (hsz : items.size + new.size ≤ sizeLine) (h : Q () { s with heap := s.heap.update l (Obj.mapSeq fun xs => xs.extract 0 a ++ new ++ xs.extract c xs.size) }) :
    wpAny (model prog w) A (setItem (.ref l) (.ref sl) (.ref b)) Q E s := by
  have hl : s.heap.IsList l items := PySem.IsL.isList e
  have hb : s.heap.IsList b new := PySem.IsL.isList e2
  obtain ⟨os, hos, hcs, hds⟩ := id hs
  have hTs : s.TypeIs (.ref sl) "slice" := ⟨os, hos, hcs⟩
  have hstep : ¬ ((rawPart none == rawInt 0) = true) := Bool.false_ne_true
  have hsame : Builtin.List.listSameRef (.ref l) (.ref b) = false := by
    unfold Builtin.List.listSameRef
    exact beq_eq_false_iff_ne.mpr hne
  have hmax : (max (a : Int) (c : Int)).toNat = c := by omega
  have hz' : ((fun xs : Array Value => xs.extract 0 a ++ new ++ xs.extract c xs.size) items).size ≤ sizeLine + 1 := by
    simp only [Array.size_append, Array.size_extract]
    omega
  unfold setItem
  try with_reducible refine wpAny_holding ?_
  first | refine wpAny_bind (wpAny_pure ?_) | skip
  refine wpAny_bind (wpAny_sequenceKey hl.typeIs (by decide) ?_)
  refine wpAny_bind (wpAny_callSpecial?_slot (name := Str.ofString "__setitem__") hl.typeIs slot_list_setitem
    (wpAny_call_entry slot_list_setitem hl.typeIs entry_list_setitem ?_ (args_list_setitem _ _ _)))
  show wpAny _ _ (Builtin.List.listSubscript? (.ref sl) >>= _) _ _ s
  refine wpAny_bind ?_
  unfold Builtin.List.listSubscript?
  refine wpAny_bind (wpAny_specialOf hTs slice_no_index ?_)
  simp only [Option.isNone_none, if_true]
  refine wpAny_pure ?_
  show wpAny _ _ (typeOf (.ref sl) >>= _) _ _ s
  refine wpAny_bind (wpAny_typeOf hTs ?_)
  first
    | rw [if_neg (by decide)]
    | refine PySem.W.KFB.if_not (by decide) ?_
  rw [listSliceParts_eq]
  refine wpAny_bind (wpAny_bind (wpAny_field hos hds (x := .none) rfl (wpAny_bind (wpAny_listPart .none ?_))))
  rw [if_neg hstep]
  refine wpAny_bind (wpAny_field hos hds (x := vl) rfl (wpAny_bind (wpAny_listPart pl ?_)))
  refine wpAny_bind (wpAny_field hos hds (x := vu) rfl (wpAny_bind (wpAny_listPart pu (wpAny_pure ?_))))
  first
    | simp only [hsame, Bool.false_eq_true, if_false]
    | refine PySem.W.KFB.if_not hsame ?_
    | (dsimp only
       rw [if_neg (by rw [hsame]; exact Bool.false_ne_true)])
  refine wpAny_bind (m := Builtin.List.listAllItems (.ref b) "must assign iterable to extended slice") ?_
  unfold Builtin.List.listAllItems
  refine wpAny_bind (wpAny_typeOf hb.typeIs ?_)
  first
    | refine PySem.W.KFB.if_so (by decide) ?_
    | rw [if_pos (by decide)]
    | simp only [beq_self_eq_true, Bool.true_or, if_true]
  unfold Builtin.List.listItems
  refine wpAny_bind (wpAny_seqItems e2 rfl (wpAny_pure ?_))
  refine wpAny_bind (wpAny_bind (wpAny_seqItems e rfl (wpAny_pure ?_)))
  refine wpAny_bind (wpAny_of_eq ((sliceIndices_raw (some (a : Int)) (some (c : Int)) none items.size (by simp)).trans (congrArg (pure : Int × Int × Int → Sem (Int × Int × Int)) (bounds_run hac hc))) ?_)
  show wpAny _ _ (if ((1 : Int) == 1) = true then _ else _) _ _ s
  rw [if_pos (by decide)]
  refine wpAny_bind (wpAny_rule ?_)
  first
    | simp only [notLongL hsz, Bool.false_eq_true, if_false]
    | refine PySem.W.KFB.if_not (notLongL hsz) ?_
  first | refine wpAny_bind (wpAny_pure ?_) | skip
  show wpAny _ _ (updateSeq l (fun xs => xs.extract 0 ((a : Int)).toNat ++ new ++ xs.extract (max (a : Int) (c : Int)).toNat xs.size) >>= _) _ _ s
  rw [hmax, Int.toNat_natCast]
  refine wpAny_bind (wpAny_updateSeq (hz := Nat.le_trans (Nat.le_add_right _ _) hsz) (_hz' := hz') e rfl ?_)
  refine wpAny_bind (wpAny_letGo ?_)
  first
    | exact wpAny_bind (wpAny_pure (wpAny_pure ⟨.none, rfl, wpAny_pure h⟩))
    | exact wpAny_pure ⟨.none, rfl, wpAny_pure h⟩
end

section
variable {X : Cx}
/-- xs[a:c] = ys of another list, at the value level: sl is the slice object that was just made -/
theorem set_slice {pins : List (Addr × Obj)} {s : Shared} {σ : St} {H : Hp} {l b sl : Addr} {xs ys : List V} {a c : Int} {vl vu : Value} {Q : Unit → Shared → Prop} (I : Inv X pins σ H s)
    (hH : H l = some (.lst xs)) (hB : H b = some (.lst ys)) (hne : l ≠ b) (hs : s.heap.IsSliceOf sl vl vu .none) (ra : RelV (.int a) vl) (rc : RelV (.int c) vu) (h0 : 0 ≤ a) (hac : a ≤ c) (hc : c ≤ xs.length)
    (hz : xs.length + ys.length ≤ sizeLine) (h : ∀ s', Inv X pins σ (upd H l (.lst (xs.take a.toNat ++ ys ++ xs.drop c.toNat))) s' → Q () s') :
    wpAny (model X.prog X.w) X.A (setItem (.ref l) (.ref sl) (.ref b)) Q X.xe s := by
  obtain ⟨ta, rfl⟩ := ra
  obtain ⟨tc, rfl⟩ := rc
  obtain ⟨z, its, n, r, hl, e⟩ := I.lstM hH
  obtain ⟨z2, its2, n2, r2, hl2, e2⟩ := I.lstM hB
  obtain ⟨a', rfl⟩ := Int.eq_ofNat_of_zero_le h0
  obtain ⟨c', rfl⟩ := Int.eq_ofNat_of_zero_le (Int.le_trans h0 hac)
  simp only [Int.toNat_natCast] at h
  refine setItem_slice (a := a') (c := c') e e2 hne hs (.int _ _) (.int _ _) (by omega) (by rw [List.size_toArray]; omega) (by rw [List.size_toArray, List.size_toArray]; omega) (h _ ?_)
  refine I.lset (its' := its.take a' ++ its2 ++ its.drop c') (t' := s.toks) hH e ?_ (Vals.append (Vals.append (r.take _) r2) (r.drop _)) ?_
  · exact splice_eq its its2 a' c'
  · rw [List.length_append, List.length_append, List.length_take, List.length_drop]
    omega
end
end L2

namespace L2
open PySem PySem.Spec PyProof.Rows

/-! ### lists of pairs as tables -/
section
variable {κ : Type} [DecidableEq κ]
def valV (kvs : List (κ × V)) (k : κ) : Option V := (kvs.find? fun kv => decide (kv.1 = k)).map (·.2)
/-- in its place, or at the end -/
def putK (kvs : List (κ × V)) (k : κ) (v : V) : List (κ × V) :=
  if (kvs.any fun kv => decide (kv.1 = k)) = true then kvs.map (fun kv => if kv.1 = k then (kv.1, v) else kv) else kvs ++ [(k, v)]
def dropK (kvs : List (κ × V)) (k : κ) : List (κ × V) := kvs.filter fun kv => decide (kv.1 ≠ k)

theorem valV_nil {k : κ} : valV ([] : List (κ × V)) k = none := rfl
theorem valV_pos {p : κ × V} {r : List (κ × V)} {k : κ} (e : p.1 = k) : valV (p :: r) k = some p.2 := by simp [valV, List.find?_cons, e]
theorem valV_neg {p : κ × V} {r : List (κ × V)} {k : κ} (e : ¬ p.1 = k) : valV (p :: r) k = valV r k := by simp [valV, List.find?_cons, e]
theorem valV_any (k : κ) : ∀ kvs : List (κ × V), (kvs.any fun kv => decide (kv.1 = k)) = (valV kvs k).isSome
  | [] => rfl
  | p :: r => by
    rw [List.any_cons]
    by_cases e : p.1 = k
    · simp only [valV_pos e, decide_eq_true e, Bool.true_or, Option.isSome_some]
    · rw [valV_neg e, decide_eq_false e, Bool.false_or]; exact valV_any k r
theorem valV_map (k j : κ) (y : V) : ∀ kvs : List (κ × V), valV (kvs.map fun kv => if kv.1 = k then (kv.1, y) else kv) j = (valV kvs j).map fun x => if j = k then y else x
  | [] => rfl
  | p :: r => by
    have ih := valV_map k j y r
    rw [List.map_cons]
    by_cases h : p.1 = k
    · rw [if_pos h]
      by_cases e : p.1 = j
      · rw [valV_pos (p := (p.1, y)) e, valV_pos e, Option.map_some, if_pos (e.symm.trans h)]
      · rw [valV_neg (p := (p.1, y)) e, valV_neg e, ih]
    · rw [if_neg h]
      by_cases e : p.1 = j
      · rw [valV_pos (p := p) e, valV_pos e, Option.map_some, if_neg (fun z => h (e.trans z))]
      · rw [valV_neg (p := p) e, valV_neg e, ih]
theorem valV_snoc (k j : κ) (y : V) : ∀ kvs : List (κ × V), valV kvs k = none → valV (kvs ++ [(k, y)]) j = if j = k then some y else valV kvs j
  | [], _ => by
    by_cases e : k = j
    · rw [if_pos e.symm]; exact valV_pos (p := (k, y)) e
    · rw [if_neg (fun z => e z.symm)]; exact valV_neg (p := (k, y)) e
  | p :: r, hn => by
    rw [List.cons_append]
    have hk : ¬ p.1 = k := fun z => by rw [valV_pos z] at hn; cases hn
    rw [valV_neg hk] at hn
    have ih := valV_snoc k j y r hn
    by_cases e : p.1 = j
    · rw [valV_pos e, valV_pos e, if_neg (fun z => hk (e.trans z))]
    · rw [valV_neg e, valV_neg e, ih]
theorem valV_put (kvs : List (κ × V)) (k j : κ) (y : V) : valV (putK kvs k y) j = if j = k then some y else valV kvs j := by
  unfold putK
  by_cases a : (kvs.any fun kv => decide (kv.1 = k)) = true
  · rw [if_pos a, valV_map]
    rw [valV_any] at a
    by_cases e : j = k
    · obtain ⟨x, hx⟩ := Option.isSome_iff_exists.mp a
      rw [if_pos e, e, hx, Option.map_some, if_pos rfl]
    · rw [if_neg e]
      cases valV kvs j with
      | none => rfl
      | some x => rw [Option.map_some, if_neg e]
  · rw [if_neg a]
    refine valV_snoc k j y kvs ?_
    rw [valV_any] at a
    cases q : valV kvs k with
    | none => rfl
    | some x => rw [q] at a; exact (a rfl).elim
theorem length_putK (kvs : List (κ × V)) (k : κ) (v : V) : (putK kvs k v).length ≤ kvs.length + 1 := by
  unfold putK
  split
  · rw [List.length_map]; omega
  · rw [List.length_append, List.length_cons, List.length_nil]; omega
theorem putK_new {kvs : List (κ × V)} {k : κ} (v : V) (h : valV kvs k = none) : putK kvs k v = kvs ++ [(k, v)] := by
  unfold putK
  rw [valV_any, h]
  exact if_neg (by decide)

theorem RelO.isSome_eq {o : Option V} {u : Option Value} (r : RelO o u) : o.isSome = u.isSome := by
  cases o with
  | none => cases u with
    | none => rfl
    | some _ => exact (show False from r).elim
  | some _ => cases u with
    | none => exact (show False from r).elim
    | some _ => rfl
theorem RelO.getD {o : Option V} {u : Option Value} {d : V} {d' : Value} (r : RelO o u) (rd : RelV d d') : RelV (o.getD d) (u.getD d') := by
  cases o with
  | none => cases u with
    | none => exact rd
    | some _ => exact (show False from r).elim
  | some _ => cases u with
    | none => exact (show False from r).elim
    | some _ => exact r

/-- raw tables of the same keys -/
theorem KV.val {kvs : List (κ × V)} {vs : List (κ × Value)} (r : KV kvs vs) (k : κ) : RelO (valV kvs k) (valueAt vs k) := by
  unfold KV at r
  induction r with
  | nil => exact True.intro
  | @cons p q ps qs h t ih =>
    obtain ⟨h1, h2⟩ := h
    by_cases e : p.1 = k
    · have e' : q.1 = k := h1.symm.trans e
      have b : valueAt (q :: qs) k = some q.2 := by simp [valueAt, List.find?_cons, e']
      rw [valV_pos e, b]; exact h2
    · have e' : ¬ q.1 = k := fun z => e (h1.trans z)
      have b : valueAt (q :: qs) k = valueAt qs k := by simp [valueAt, List.find?_cons, e']
      rw [valV_neg e, b]; exact ih
theorem KV.any {kvs : List (κ × V)} {vs : List (κ × Value)} (r : KV kvs vs) (k : κ) : (kvs.any fun kv => decide (kv.1 = k)) = vs.any fun kv => decide (kv.1 = k) := by
  unfold KV at r
  induction r with
  | nil => rfl
  | cons h t ih => rw [List.any_cons, List.any_cons, ih, h.1]
theorem KV.repl {kvs : List (κ × V)} {vs : List (κ × Value)} (r : KV kvs vs) (k : κ) {y : V} {u : Value} (ry : RelV y u) :
    KV (kvs.map fun kv => if kv.1 = k then (kv.1, y) else kv) (vs.map fun kv => if kv.1 = k then (kv.1, u) else kv) := by
  unfold KV at r ⊢
  induction r with
  | nil => exact .nil
  | @cons p q ps qs h t ih =>
    rw [List.map_cons, List.map_cons]
    refine .cons ?_ ih
    obtain ⟨h1, h2⟩ := h
    by_cases e : p.1 = k
    · rw [if_pos e, if_pos (h1.symm.trans e)]; exact ⟨h1, ry⟩
    · rw [if_neg e, if_neg (fun z => e (h1.trans z))]; exact ⟨h1, h2⟩
theorem KV.put {kvs : List (κ × V)} {vs : List (κ × Value)} (r : KV kvs vs) (k : κ) {y : V} {u : Value} (ry : RelV y u) : KV (putK kvs k y) (stored vs k u) := by
  unfold putK stored
  rw [r.any k]
  by_cases e : (vs.any fun kv => decide (kv.1 = k)) = true
  · rw [if_pos e, if_pos e]; exact r.repl k ry
  · rw [if_neg e, if_neg e]; exact Paired.snoc r ⟨rfl, ry⟩
theorem KV.drop {kvs : List (κ × V)} {vs : List (κ × Value)} (r : KV kvs vs) (k : κ) : KV (dropK kvs k) (without vs k) := by
  unfold KV at r ⊢
  unfold dropK without
  induction r with
  | nil => exact .nil
  | @cons p q ps qs h t ih =>
    obtain ⟨h1, h2⟩ := h
    rw [List.filter_cons, List.filter_cons]
    by_cases e : p.1 = k
    · have a : ¬ decide (p.1 ≠ k) = true := by simp [e]
      have b : ¬ decide (q.1 ≠ k) = true := by simp [h1.symm.trans e]
      rw [if_neg a, if_neg b]; exact ih
    · have e' : ¬ q.1 = k := fun z => e (h1.trans z)
      have a : decide (p.1 ≠ k) = true := by simp [e]
      have b : decide (q.1 ≠ k) = true := by simp [e']
      rw [if_pos a, if_pos b]; exact .cons ⟨h1, h2⟩ ih
theorem KV.keys {kvs : List (κ × V)} {vs : List (κ × Value)} (r : KV kvs vs) : kvs.map (·.1) = vs.map (·.1) := by
  unfold KV at r
  induction r with
  | nil => rfl
  | cons h t ih => rw [List.map_cons, List.map_cons, ih, h.1]
theorem KV.length {kvs : List (κ × V)} {vs : List (κ × Value)} (r : KV kvs vs) : kvs.length = vs.length := Paired.length r
theorem dropK_le (kvs : List (κ × V)) (k : κ) : (dropK kvs k).length ≤ kvs.length := List.length_filter_le _ _
end


/-! ### a tracked dict, its keys ints and texts or tuples of these -/
theorem kV_is {P : Program} {w : World} {k : Key} {u : Value} (r : RelV (kV k) u) : (mixKind P w).is k u = true := by
  cases k with
  | inl i => obtain ⟨t, e⟩ := (show ∃ t, u = Value.int i t from r); subst e; exact mixKind_int P w i t
  | inr x => obtain ⟨t, e⟩ := (show ∃ t, u = Value.str x t from r); subst e; exact mixKind_str P w x t
theorem kV_inj {a b : Key} (e : kV a = kV b) : a = b := by
  cases a with
  | inl i => cases b with
    | inl j => have e' : V.int i = V.int j := e; injection e' with e'; rw [e']
    | inr y => exact nomatch (show V.int i = V.str y from e)
  | inr x => cases b with
    | inl j => exact nomatch (show V.str x = V.int j from e)
    | inr y => have e' : V.str x = V.str y := e; injection e' with e'; rw [e']
theorem kVs_inj : ∀ {a b : List Key}, a.map kV = b.map kV → a = b
  | [], [], _ => rfl
  | [], _ :: _, e => by simp at e
  | _ :: _, [], e => by simp at e
  | x :: xs, y :: ys, e => by
    rw [List.map_cons, List.map_cons] at e
    injection e with e1 e2
    rw [kV_inj e1, kVs_inj e2]
theorem items_are {P : Program} {w : World} : ∀ {ks : List Key} {us : List Value}, Vals (ks.map kV) us → ItemsAre (mixKind P w) ks us
  | [], _, r => by rw [List.map_nil] at r; cases r; exact .nil
  | k :: ks, _, r => by
    rw [List.map_cons] at r
    cases r with
    | cons h t => exact .cons (kV_is h) (items_are t)

/-- raw entries of a dict with tuple keys -/
abbrev KT (H : Hp) : List (List Key × V) → List (List Key × Addr × Value) → Prop := Paired fun p q => p.1 = q.1 ∧ H q.2.1 = some (.tup (p.1.map kV)) ∧ RelV p.2 q.2.2
theorem KT.val {H : Hp} {kvs : List (List Key × V)} {xs : List (List Key × Addr × Value)} (r : KT H kvs xs) (k : List Key) : RelO (valV kvs k) ((atKey xs k).map (·.2)) := by
  induction r with
  | nil => exact True.intro
  | @cons p q ps qs h t ih =>
    obtain ⟨h1, _, h2⟩ := h
    by_cases e : p.1 = k
    · have e' : q.1 = k := h1.symm.trans e
      have b : atKey (q :: qs) k = some q.2 := by simp [atKey, List.find?_cons, e']
      rw [valV_pos e, b]; exact h2
    · have e' : ¬ q.1 = k := fun z => e (h1.trans z)
      have b : atKey (q :: qs) k = atKey qs k := by simp [atKey, List.find?_cons, e']
      rw [valV_neg e, b]; exact ih
theorem KT.repl {H : Hp} {kvs : List (List Key × V)} {xs : List (List Key × Addr × Value)} (r : KT H kvs xs) (k : List Key) {y : V} {u : Value} (ry : RelV y u) :
    KT H (kvs.map fun kv => if kv.1 = k then (kv.1, y) else kv) (xs.map (putAt k u)) := by
  induction r with
  | nil => exact .nil
  | @cons p q ps qs h t ih =>
    rw [List.map_cons, List.map_cons]
    refine .cons ?_ ih
    obtain ⟨h1, h2, h3⟩ := h
    unfold putAt
    by_cases e : p.1 = k
    · rw [if_pos e, if_pos (h1.symm.trans e)]; exact ⟨h1, h2, ry⟩
    · rw [if_neg e, if_neg (fun z => e (h1.trans z))]; exact ⟨h1, h2, h3⟩
theorem KT.put {H : Hp} {kvs : List (List Key × V)} {xs : List (List Key × Addr × Value)} (r : KT H kvs xs) (k : List Key) {b : Addr} {y : V} {u : Value} (hb : H b = some (.tup (k.map kV))) (ry : RelV y u) :
    KT H (putK kvs k y) (storedH xs k b u) := by
  have e : (kvs.any fun kv => decide (kv.1 = k)) = (atKey xs k).isSome := by
    rw [valV_any, (r.val k).isSome_eq, Option.isSome_map]
  unfold putK storedH
  rw [e]
  by_cases q : (atKey xs k).isSome = true
  · rw [if_pos q, if_pos q]; exact r.repl k ry
  · rw [if_neg q, if_neg q]; exact Paired.snoc r ⟨rfl, hb, ry⟩
theorem KT.keeps {H H' : Hp} {kvs : List (List Key × V)} {xs : List (List Key × Addr × Value)} (r : KT H kvs xs) (ht : ∀ b ys, H b = some (.tup ys) → H' b = some (.tup ys)) : KT H' kvs xs :=
  Paired.mapP r fun _ _ z => ⟨z.1, ht _ _ z.2.1, z.2.2⟩

section
variable {P : Program} {w : World} {H : Hp} {h : Heap} {a : Addr}
theorem rd_of {u : HO} (ok : HOk P w H h) (e : Rd H a u) : ObjOk P w H h a u := e.ok ok
theorem dk_rd {kvs : List (Key × V)} (ok : HOk P w H h) (e : Rd H a (.dK kvs)) : kvs.length ≤ sizeLine ∧ (a == sysModules) = false ∧ ∃ vs, KV kvs vs ∧ h.DictOf (mixKind P w) a vs :=
  show ObjOk P w H h a (.dK kvs) from rd_of ok e
theorem dk_of {kvs : List (Key × V)} (ok : HOk P w H h) (e : H a = some (.dK kvs)) : kvs.length ≤ sizeLine ∧ (a == sysModules) = false ∧ ∃ vs, KV kvs vs ∧ h.DictOf (mixKind P w) a vs := dk_rd ok (.inl e)
/-- a tracked tuple of ints and texts is a key -/
theorem key_of {ks : List Key} (ok : HOk P w H h) (e : H a = some (.tup (ks.map kV))) : (tupleKind (mixKind P w)).is h ks a := by
  obtain ⟨_, its, r, o, h1, h2, n, h3⟩ := (show ObjOk P w H h a (.tup (ks.map kV)) from ok a _ e)
  exact ⟨o, its.toArray, n, h1, h2, h3, by simpa using items_are r⟩
theorem dt_rd {kvs : List (List Key × V)} (ok : HOk P w H h) (e : Rd H a (.dT kvs)) : kvs.length ≤ sizeLine ∧ (a == sysModules) = false ∧
    ∃ xs, KT H kvs xs ∧ h.DictOfH (tupleKind (mixKind P w)) a xs := by
  obtain ⟨z, y, xs, r, o, es, ep, h1, h2, h3, h4, h5⟩ := (show ObjOk P w H h a (.dT kvs) from rd_of ok e)
  refine ⟨z, y, xs, r, o, es, ep, h1, h2, h3, h4, fun x hx => ?_, h5⟩
  have all : ∀ {l : List (List Key × V)} {m : List (List Key × Addr × Value)}, KT H l m → ∀ x ∈ m, (tupleKind (mixKind P w)).is h x.1 x.2.1 := by
    intro l m q
    induction q with
    | nil => intro x hx; exact nomatch hx
    | @cons p q ps qs hq t ih =>
      intro x hx
      rcases List.mem_cons.mp hx with e | hx
      · subst e
        exact key_of ok (by rw [← hq.1]; exact hq.2.1)
      · exact ih x hx
  exact all r x hx
theorem dt_of {kvs : List (List Key × V)} (ok : HOk P w H h) (e : H a = some (.dT kvs)) : kvs.length ≤ sizeLine ∧ (a == sysModules) = false ∧
    ∃ xs, KT H kvs xs ∧ h.DictOfH (tupleKind (mixKind P w)) a xs := dt_rd ok (.inl e)
end

/-- what the dict at a holds at the key y -/
def DGet (H : Hp) (a : Addr) (y : V) (r : Option V) : Prop :=
  (∃ kvs k, Rd H a (.dK kvs) ∧ y = kV k ∧ r = valV kvs k) ∨ ∃ kvs k b, Rd H a (.dT kvs) ∧ y = .ref b ∧ H b = some (.tup (k.map kV)) ∧ r = valV kvs k
/-- the heap behind a[y] = v -/
def DPut (H : Hp) (a : Addr) (y v : V) (H' : Hp) : Prop :=
  (∃ kvs k, H a = some (.dK kvs) ∧ y = kV k ∧ kvs.length < sizeLine ∧ H' = upd H a (.dK (putK kvs k v))) ∨
  ∃ kvs k b, H a = some (.dT kvs) ∧ y = .ref b ∧ H b = some (.tup (k.map kV)) ∧ kvs.length < sizeLine ∧ H' = upd H a (.dT (putK kvs k v))
theorem DGet.k {H : Hp} {a : Addr} {kvs : List (Key × V)} {k : Key} (e : H a = some (.dK kvs)) : DGet H a (kV k) (valV kvs k) := .inl ⟨kvs, k, .inl e, rfl, rfl⟩
theorem DGet.t {H : Hp} {a b : Addr} {kvs : List (List Key × V)} {k : List Key} (e : H a = some (.dT kvs)) (eb : H b = some (.tup (k.map kV))) : DGet H a (.ref b) (valV kvs k) := .inr ⟨kvs, k, b, .inl e, rfl, eb, rfl⟩
theorem DPut.k {H : Hp} {a : Addr} {kvs : List (Key × V)} {k : Key} {v : V} (e : H a = some (.dK kvs)) (hl : kvs.length < sizeLine) : DPut H a (kV k) v (upd H a (.dK (putK kvs k v))) := .inl ⟨kvs, k, e, rfl, hl, rfl⟩
theorem DPut.t {H : Hp} {a b : Addr} {kvs : List (List Key × V)} {k : List Key} {v : V} (e : H a = some (.dT kvs)) (eb : H b = some (.tup (k.map kV))) (hl : kvs.length < sizeLine) :
    DPut H a (.ref b) v (upd H a (.dT (putK kvs k v))) := .inr ⟨kvs, k, b, e, rfl, eb, hl, rfl⟩


section
variable {X : Cx} {pins : List (Addr × Obj)} {σ : St} {H : Hp} {s : Shared} {a : Addr} {y v : V} {u r : Value} {o : Option V} {A : Around} {E : Value → Shared → Prop}

theorem Inv.big (I : Inv X pins σ H s) : sysModules < s.heap.objs.size := by
  have h : mainGlobals < s.heap.objs.size := (I.mod.glob.keeps I.bk).lt
  exact Nat.lt_trans (by decide) h

/-- d[y], there -/
theorem d_getItem {Q : Value → Shared → Prop} (hu : A.units + 1 < cLine) (I : Inv X pins σ H s) (g : DGet H a y (some v)) (ry : RelV y u) (h : ∀ w' s', Inv X pins σ H s' → RelV v w' → Q w' s') :
    wpAny (model X.prog X.w) A (getItem (.ref a) u) Q E s := by
  rcases g with ⟨kvs, k, e, ey, l⟩ | ⟨kvs, k, b, e, ey, eb, l⟩
  · subst ey
    obtain ⟨z, hd, vs, rel, dd⟩ := dk_rd I.hok e
    obtain ⟨w', hw, rw'⟩ := RelO.some_of (v := v) (o := valueAt vs k) (by rw [l]; exact rel.val k)
    exact wpAny_getItem_of (kV_is ry) dd.mapOf hw (h w' _ (I.tok _) rw')
  · subst ey
    cases (show u = Value.ref b from ry)
    obtain ⟨z, hd, xs, rel, dd⟩ := dt_rd I.hok e
    obtain ⟨w', hw, rw'⟩ := RelO.some_of (v := v) (o := (atKey xs k).map (·.2)) (by rw [l]; exact rel.val k)
    obtain ⟨p, hp, hp2⟩ := Option.map_eq_some_iff.mp hw
    refine wpAny_getItem_heap (tupleKind_room_in1 hu) (key_of I.hok eb) dd hp ?_
    rw [hp2]
    exact h w' _ (I.tok _) rw'
/-- y in d -/
theorem d_in {Q : Value → Shared → Prop} (hu : A.units + 1 < cLine) (I : Inv X pins σ H s) (g : DGet H a y o) (ry : RelV y u) (h : ∀ s', Inv X pins σ H s' → Q (.bool o.isSome) s') :
    wpAny (model X.prog X.w) A (compareOp .In u (.ref a)) Q E s := by
  rcases g with ⟨kvs, k, e, ey, l⟩ | ⟨kvs, k, b, e, ey, eb, l⟩
  · subst ey
    obtain ⟨z, hd, vs, rel, dd⟩ := dk_rd I.hok e
    refine wpAny_in_of (kV_is ry) hd dd.mapOf ?_
    rw [← (rel.val k).isSome_eq, ← l]
    exact h _ (I.tok _)
  · subst ey
    cases (show u = Value.ref b from ry)
    obtain ⟨z, hd, xs, rel, dd⟩ := dt_rd I.hok e
    refine wpAny_in_heap (tupleKind_room_in1 hu) (key_of I.hok eb) hd dd ?_
    have q := (rel.val k).isSome_eq
    rw [Option.isSome_map] at q
    rw [← q, ← l]
    exact h _ (I.tok _)
theorem d_notIn {Q : Value → Shared → Prop} (hu : A.units + 1 < cLine) (I : Inv X pins σ H s) (g : DGet H a y o) (ry : RelV y u) (h : ∀ s', Inv X pins σ H s' → Q (.bool (!o.isSome)) s') :
    wpAny (model X.prog X.w) A (compareOp .NotIn u (.ref a)) Q E s := by
  rcases g with ⟨kvs, k, e, ey, l⟩ | ⟨kvs, k, b, e, ey, eb, l⟩
  · subst ey
    obtain ⟨z, hd, vs, rel, dd⟩ := dk_rd I.hok e
    refine wpAny_notIn_of (kV_is ry) hd dd.mapOf ?_
    rw [← (rel.val k).isSome_eq, ← l]
    exact h _ (I.tok _)
  · subst ey
    cases (show u = Value.ref b from ry)
    obtain ⟨z, hd, xs, rel, dd⟩ := dt_rd I.hok e
    refine wpAny_notIn_heap (tupleKind_room_in1 hu) (key_of I.hok eb) hd dd ?_
    have q := (rel.val k).isSome_eq
    rw [Option.isSome_map] at q
    rw [← q, ← l]
    exact h _ (I.tok _)
/-- a dict's object is replaced -/
theorem d_write {h' : Heap} {t' : Nat} {ob : HO} (I : Inv X pins σ H s) (mu : Mut (H a)) (hs : Heap.SameBut a s.heap h') (he : ∃ q, h'.get? a = some q) (new : ObjOk X.prog X.w (upd H a ob) h' a ob) :
    Inv X pins σ (upd H a ob) { s with heap := h', toks := t' } :=
  I.write (x := a) (e := a) mu (.inl rfl) (fun b q hb z => (hs.2 b hb).trans z) he new
theorem dk_new {P : Program} {w : World} {H' : Hp} {h' : Heap} {kvs : List (Key × V)} {vs : List (Key × Value)} (z : kvs.length ≤ sizeLine) (hd : (a == sysModules) = false) (rel : KV kvs vs) (dd : h'.DictOf (mixKind P w) a vs) :
    ObjOk P w H' h' a (.dK kvs) := ⟨z, hd, vs, rel, dd⟩
/-- d[y] = v -/
theorem d_setItem {H' : Hp} {Q : Unit → Shared → Prop} (hu : A.units + 1 < cLine) (I : Inv X pins σ H s) (g : DPut H a y v H') (ry : RelV y u) (rv : RelV v r) (h : ∀ s', Inv X pins σ H' s' → Q () s') :
    wpAny (model X.prog X.w) A (setItem (.ref a) u r) Q E s := by
  rcases g with ⟨kvs, k, e, ey, l, eH⟩ | ⟨kvs, k, b, e, ey, eb, l, eH⟩
  · subst ey eH
    obtain ⟨z, hd, vs, rel, dd⟩ := dk_of I.hok e
    have hz : vs.length ≤ sizeLine := by rw [← rel.length]; exact z
    have hl : (putK kvs k v).length ≤ sizeLine := by have := length_putK kvs k v; omega
    refine wpAny_setItem_pairs (hsz := hz) (kV_is ry) dd fun h' dd' hs => h _ ?_
    have he : ∃ q, h'.get? a = some q := let ⟨q, _, _, hq, _⟩ := dd'; ⟨q, hq⟩
    exact d_write I (by rw [e]; exact True.intro) hs he (dk_new hl hd (rel.put k rv) dd')
  · subst ey eH
    cases (show u = Value.ref b from ry)
    obtain ⟨z, hd, xs, rel, dd⟩ := dt_of I.hok e
    have hz : xs.length ≤ sizeLine := by rw [← Paired.length rel]; exact z
    have hl : (putK kvs k v).length ≤ sizeLine := by have := length_putK kvs k v; omega
    refine wpAny_setItem_heap (hsz := hz) (tupleKind_room_in1 hu) (key_of I.hok eb) dd fun h' dd' hs => h _ ?_
    obtain ⟨q, es, ep, hq, h2, h3, h4, _, h5⟩ := dd'
    refine d_write I (by rw [e]; exact True.intro) hs ⟨q, hq⟩ ⟨hl, hd, _, (rel.put k eb rv).keeps fun c ys ec => ?_, q, es, ep, hq, h2, h3, h4, h5⟩
    rw [upd_ne (ne_of ec e (fun z => nomatch z))]
    exact ec
end

section
variable {X : Cx} {pins : List (Addr × Obj)} {σ : St} {H : Hp} {s : Shared} {a : Addr} {kvs : List (Key × V)} {k : Key} {u : Value} {A : Around} {E : Value → Shared → Prop}
/-- del d[k] -/
theorem d_delItem {Q : Unit → Shared → Prop} (I : Inv X pins σ H s) (e : H a = some (.dK kvs)) (ry : RelV (kV k) u) (l : (valV kvs k).isSome = true) (h : ∀ s', Inv X pins σ (upd H a (.dK (dropK kvs k))) s' → Q () s') :
    wpAny (model X.prog X.w) A (delItem (.ref a) u) Q E s := by
  obtain ⟨z, hd, vs, rel, dd⟩ := dk_of I.hok e
  refine wpAny_delItem_slot dd.typeIs (by decide) PySem.F.slot_dict_delitem
    (call_meetsIn PySem.F.slot_dict_delitem dd.typeIs PySem.F.entry_dict_delitem (PySem.F.args_dict_delitem_2 _ _) (meets_dict_delitem_pairs (mixKind X.prog X.w) a (kV_is ry)) ⟨vs, dd, by rw [← rel.length]; exact z, by rw [← (rel.val k).isSome_eq]; exact l, fun h' dd' hs => h _ ?_⟩)
  have he : ∃ q, h'.get? a = some q := let ⟨q, _, _, hq, _⟩ := dd'; ⟨q, hq⟩
  exact d_write I (by rw [e]; exact True.intro) hs he (dk_new (Nat.le_trans (dropK_le kvs k) z) hd (rel.drop k) dd')
/-- d.pop(k[, x]), there -/
theorem d_pop {v : V} {more : List Value} {Q : Value → Shared → Prop} (I : Inv X pins σ H s) (e : H a = some (.dK kvs)) (ry : RelV (kV k) u) (l : valV kvs k = some v) (hm : more = [] ∨ ∃ x, more = [x])
    (h : ∀ w' s', Inv X pins σ (upd H a (.dK (dropK kvs k))) s' → RelV v w' → Q w' s') : wpAny (model X.prog X.w) A (call (.builtin "dict.pop") (.ref a :: u :: more)) Q E s := by
  obtain ⟨z, hd, vs, rel, dd⟩ := dk_of I.hok e
  obtain ⟨w', hw, rw'⟩ := RelO.some_of (v := v) (o := valueAt vs k) (by rw [← l]; exact rel.val k)
  have hp : (keyPart u).isSome = true := by
    cases k with
    | inl i => obtain ⟨t, q⟩ := (show ∃ t, u = Value.int i t from ry); subst q; rfl
    | inr x => obtain ⟨t, q⟩ := (show ∃ t, u = Value.str x t from ry); subst q; rfl
  have ha : argsOk "dict.pop" ⟨.ref a :: u :: more, []⟩ := by
    rcases hm with q | ⟨x, q⟩
    · subst q; exact PySem.F.args_dict_pop_2 _ _
    · subst q; exact PySem.F.args_dict_pop_3 _ _ _
  refine call_meetsIn PySem.F.slot_dict_pop dd.typeIs PySem.F.entry_dict_pop ha (meets_dict_pop_there (mixKind X.prog X.w) a (kV_is ry) more hm hp)
    ⟨vs, w', dd, by rw [← rel.length]; exact z, hw, fun h' dd' hs => h w' _ ?_ rw'⟩
  have he : ∃ q, h'.get? a = some q := let ⟨q, _, _, hq, _⟩ := dd'; ⟨q, hq⟩
  exact d_write I (by rw [e]; exact True.intro) hs he (dk_new (Nat.le_trans (dropK_le kvs k) z) hd (rel.drop k) dd')
/-- d.pop(k, x), not there -/
theorem d_popD {r : Value} {Q : Value → Shared → Prop} (I : Inv X pins σ H s) (e : H a = some (.dK kvs)) (ry : RelV (kV k) u) (l : valV kvs k = none) (h : ∀ s', Inv X pins σ H s' → Q r s') :
    wpAny (model X.prog X.w) A (call (.builtin "dict.pop") [.ref a, u, r]) Q E s := by
  obtain ⟨z, hd, vs, rel, dd⟩ := dk_of I.hok e
  have hn : valueAt vs k = none := RelO.none_of (by rw [← l]; exact rel.val k)
  have hp : (keyPart u).isSome = true := by
    cases k with
    | inl i => obtain ⟨t, q⟩ := (show ∃ t, u = Value.int i t from ry); subst q; rfl
    | inr x => obtain ⟨t, q⟩ := (show ∃ t, u = Value.str x t from ry); subst q; rfl
  exact call_meetsIn PySem.F.slot_dict_pop dd.typeIs PySem.F.entry_dict_pop (PySem.F.args_dict_pop_3 _ _ _) (meets_dict_pop_default (mixKind X.prog X.w) a (kV_is ry) hd hp r) ⟨vs, dd, hn, h _ (I.tok _)⟩
/-- d.clear() -/
theorem d_clear {Q : Value → Shared → Prop} (I : Inv X pins σ H s) (e : H a = some (.dK kvs)) (h : ∀ s', Inv X pins σ (upd H a (.dK [])) s' → Q .none s') : wpAny (model X.prog X.w) A (call (.builtin "dict.clear") [.ref a]) Q E s := by
  obtain ⟨z, hd, vs, rel, dd⟩ := dk_of I.hok e
  refine call_meetsIn PySem.F.slot_dict_clear dd.typeIs PySem.F.entry_dict_clear (PySem.F.args_dict_clear_1 _) (meets_dict_clear (mixKind X.prog X.w) a) ⟨vs, dd, by rw [← rel.length]; exact z, fun h' dd' hs => h _ ?_⟩
  have he : ∃ q, h'.get? a = some q := let ⟨q, _, _, hq, _⟩ := dd'; ⟨q, hq⟩
  exact d_write (t' := s.toks) I (by rw [e]; exact True.intro) hs he (dk_new (Nat.zero_le _) hd .nil dd')
/-- len(d) -/
theorem d_len {Q : Value → Shared → Prop} (I : Inv X pins σ H s) (e : Rd H a (.dK kvs)) (h : ∀ t s', Inv X pins σ H s' → Q (.int kvs.length t) s') : wpAny (model X.prog X.w) A (call (.builtin "len") [.ref a]) Q E s := by
  obtain ⟨z, hd, vs, rel, dd⟩ := dk_rd I.hok e
  refine call_len_dict hd dd (by rw [← rel.length]; rw [sizeLine_eq] at z; omega) ?_
  rw [← rel.length]
  exact h _ _ (I.tok _)
/-- if d -/
theorem d_truth {Q : Bool → Shared → Prop} (I : Inv X pins σ H s) (e : Rd H a (.dK kvs)) (h : ∀ s', Inv X pins σ H s' → Q (!kvs.isEmpty) s') : wpAny (model X.prog X.w) A (truthy (.ref a)) Q E s := by
  obtain ⟨z, hd, vs, rel, dd⟩ := dk_rd I.hok e
  refine wpAny_truthy_dict hd dd (by rw [← rel.length]; rw [sizeLine_eq] at z; omega) ?_
  have q : kvs.isEmpty = vs.isEmpty := by cases rel <;> rfl
  rw [← q]
  exact h _ (I.tok _)
end


/-! ### readings and rules -/
/-- the element of a subscription, not a slice -/
def NoSl (i : Expr) : Prop := ∀ ov iv, subscripted i false ov iv = operate [ov, iv] (getItem ov iv)
theorem subD_of {prog : Program} {w : World} {A : Around} {E : Value → Shared → Prop} {s : Shared} {env : Env} {value slice : Expr} {pos : Pos} {T id : String} {Q : Value → Shared → Prop}
    (hl : typeLookup (.type T) "__getitem__" = pure (some (.builtin id))) (hs : NoSl slice)
    (h : wpAny (model prog w) A (eval value env) (fun o s₁ => wpAny (model prog w) A (eval slice env) (fun i s₂ => s₂.TypeIs o T ∧ wpAny (model prog w) A (getItem o i) Q E s₂) E s₁) E s) :
    wpAny (model prog w) A (eval (.Subscript value slice pos) env) Q E s := by
  refine Subscript_ (wpAny_mono h (fun o s₁ h₁ => wpAny_mono h₁ (fun i s₂ h₂ => ?_) fun _ _ x => x) fun _ _ x => x)
  obtain ⟨hT, h₂⟩ := h₂
  unfold subscriptTail
  refine wpAny_bind ?_
  rw [getitemInPython_of_ne hT.not_modules]
  refine wpAny_bind (wpAny_specialOf hT hl ?_)
  have fin : wpAny (model prog w) A (subscripted slice false o i) (fun r s₃ => wpAny (model prog w) A (letTemporaryGo value o r >>= fun _ => pure r) Q E s₃) E s₂ := by
    rw [hs o i]
    exact wpAny_operating (wpAny_mono h₂ (fun r s₃ h₃ => wpAny_bind (wpAny_letTemporaryGo (wpAny_pure h₃))) fun _ _ x => x)
  first
    | exact wpAny_pure (wpAny_bind fin)
    | exact wpAny_bind (wpAny_pure (wpAny_bind fin))
    | exact wpAny_bind fin

theorem dict_typeIs {X : Cx} {pins : List (Addr × Obj)} {σ : St} {H : Hp} {s : Shared} {a : Addr} {y : V} {o : Option V} (I : Inv X pins σ H s) (g : DGet H a y o) : s.TypeIs (.ref a) "dict" := by
  rcases g with ⟨kvs, k, e, _, _⟩ | ⟨kvs, k, b, e, _, _, _⟩
  · obtain ⟨_, _, vs, _, dd⟩ := dk_rd I.hok e
    exact dd.typeIs
  · obtain ⟨_, _, xs, _, dd⟩ := dt_rd I.hok e
    exact dd.typeIs
theorem dict_noDict {X : Cx} {pins : List (Addr × Obj)} {σ : St} {H : Hp} {s : Shared} {a : Addr} {y : V} {o : Option V} (I : Inv X pins σ H s) (g : DGet H a y o) :
    ∀ b, Value.ref a = .ref b → ∃ ob, s.heap.get? b = some ob ∧ ob.dict = none := fun b q => by
  cases q
  rcases g with ⟨kvs, k, e, _, _⟩ | ⟨kvs, k, b, e, _, _, _⟩
  · obtain ⟨_, _, vs, _, ob, _, _, h1, h2, _⟩ := dk_rd I.hok e
    exact ⟨ob, h1, h2.2.1⟩
  · obtain ⟨_, _, xs, _, ob, _, _, h1, h2, _⟩ := dt_rd I.hok e
    exact ⟨ob, h1, h2.2.1⟩

/-- d[y] -/
def tDGet (td ty : TE) : TE := fun σ H Q => td σ H fun x H1 => ty σ H1 fun y H2 => ∃ a v, x = .ref a ∧ DGet H2 a y (some v) ∧ Q v H2
/-- y in d, y not in d -/
def tDIn (ty td : TE) : TE := fun σ H Q => ty σ H fun y H1 => td σ H1 fun x H2 => ∃ a o, x = .ref a ∧ DGet H2 a y o ∧ Q (.bl o.isSome) H2
def tDNotIn (ty td : TE) : TE := fun σ H Q => ty σ H fun y H1 => td σ H1 fun x H2 => ∃ a o, x = .ref a ∧ DGet H2 a y o ∧ Q (.bl (!o.isSome)) H2
/-- d[y] = v -/
def sDPut (td ty tv : TE) : TS := fun D σ H => tv σ H fun v H1 => td σ H1 fun x H2 => ty σ H2 fun y H3 => ∃ a H4, x = .ref a ∧ DPut H3 a y v H4 ∧ D.nx σ H4
/-- d[y] op= v -/
def sDAug (td ty tv : TE) (rd : V → V → Hp → VK → Prop) : TS := fun D σ H => td σ H fun x H1 => ty σ H1 fun y H2 => ∃ a v, x = .ref a ∧ DGet H2 a y (some v) ∧
  tv σ H2 fun y2 H3 => rd v y2 H3 fun z H4 => ∃ H5, DPut H4 a y z H5 ∧ D.nx σ H5
/-- del d[y] -/
def sDDel (td ty : TE) : TS := fun D σ H => td σ H fun x H1 => ty σ H1 fun y H2 => ∃ a kvs k, x = .ref a ∧ H2 a = some (.dK kvs) ∧ y = kV k ∧ (valV kvs k).isSome = true ∧ D.nx σ (upd H2 a (.dK (dropK kvs k)))

section
variable {X : Cx} {o i e value : Expr} {pos pos' tpos : Pos} {td ty tv : TE}
theorem pe_dget (hu : X.A.units + 1 < cLine) (ho : PE X o td) (hi : PE X i ty) (hs : NoSl i) : PE X (.Subscript o i pos) (tDGet td ty) := by
  intro pins s σ H Q I h
  refine subD_of PySem.F.slot_dict_getitem.lookup hs (thn (ho pins s σ H _ I h) fun u s1 ⟨x, H1, I1, rx, q1⟩ => thn (hi pins s1 σ H1 _ I1 q1) fun iv s2 ⟨y, H2, I2, ry, a, v, ex, g, q2⟩ => ?_)
  subst ex
  obtain rfl : u = Value.ref a := rx
  exact ⟨dict_typeIs I2 g, d_getItem hu I2 g ry fun w' s3 I3 rw' => ⟨v, H2, I3, rw', q2⟩⟩
theorem pc_din (hu : X.A.units + 1 < cLine) (hi : PE X i ty) (ho : PE X o td) : PC X .In i o (tDIn ty td) := by
  intro pins s σ H Q I h
  refine thn (hi pins s σ H _ I h) fun iv s1 ⟨y, H1, I1, ry, q1⟩ => thn (ho pins s1 σ H1 _ I1 q1) fun u s2 ⟨x, H2, I2, rx, a, ov, ex, g, q2⟩ => ?_
  subst ex
  obtain rfl : u = Value.ref a := rx
  exact d_in hu I2 g ry fun s3 I3 => ⟨.bl ov.isSome, H2, I3, rfl, q2⟩
theorem pc_dnotin (hu : X.A.units + 1 < cLine) (hi : PE X i ty) (ho : PE X o td) : PC X .NotIn i o (tDNotIn ty td) := by
  intro pins s σ H Q I h
  refine thn (hi pins s σ H _ I h) fun iv s1 ⟨y, H1, I1, ry, q1⟩ => thn (ho pins s1 σ H1 _ I1 q1) fun u s2 ⟨x, H2, I2, rx, a, ov, ex, g, q2⟩ => ?_
  subst ex
  obtain rfl : u = Value.ref a := rx
  exact d_notIn hu I2 g ry fun s3 I3 => ⟨.bl (!ov.isSome), H2, I3, rfl, q2⟩
theorem ps_dput (hu : X.A.units + 1 < cLine) (ho : PE X o td) (hi : PE X i ty) (hv : PE X value tv) (hs : swapsWith value (some (.Subscript o i pos')) pos.line X.env = pure false) :
    PS X (.Assign [.Subscript o i pos'] value pos) (sDPut td ty tv) := by
  intro pins s σ H D I h
  refine wpAny_Assign_Subscript (thn (hv pins s σ H _ I h) fun r s1 ⟨v, H1, I1, rv, q1⟩ => thn (ho pins s1 σ H1 _ I1 q1) fun u s2 ⟨x, H2, I2, rx, q2⟩ => thn (hi pins s2 σ H2 _ I2 q2) fun iv s3 ⟨y, H3, I3, ry, a, H4, ex, g, q3⟩ => ?_) hs
  subst ex
  obtain rfl : u = Value.ref a := rx
  exact d_setItem hu I3 g ry rv fun s4 I4 => ⟨σ, H4, I4, q3⟩
theorem ps_daug {op : Operator} {rd : V → V → Hp → VK → Prop} (hu : X.A.units + 1 < cLine) (ho : PE X o td) (hi : PE X i ty) (hv : PE X value tv) (hop : InOp X op rd)
    (ha : ∀ ov iv new, augStore i ov iv new = (do holding [new, ov, iv] (setItem ov iv new); release [new, ov, iv] []; pure .next)) : PS X (.AugAssign (.Subscript o i tpos) op value pos) (sDAug td ty tv rd) := by
  intro pins s σ H D I h
  refine wpAny_AugAssign_SubscriptAny (thn (ho pins s σ H _ I h) fun u s1 ⟨x, H1, I1, rx, q1⟩ => thn (hi pins s1 σ H1 _ I1 q1) fun iv s2 ⟨y, H2, I2, ry, a, v, ex, g, q2⟩ => ?_) ha
  subst ex
  obtain rfl : u = Value.ref a := rx
  refine d_getItem hu I2 g ry fun w' s3 I3 rw' => thn (hv pins s3 σ H2 _ I3 q2) fun w2 s4 ⟨y2, H3, I4, ry2, q3⟩ => thn (hop pins s4 σ H3 v y2 w' w2 _ I4 rw' ry2 q3) fun w3 s5 ⟨z, H4, I5, rz, H5, g5, q4⟩ => ?_
  exact d_setItem hu I5 g5 ry rz fun s6 I6 => ⟨σ, H5, I6, q4⟩
theorem ps_ddel (ho : PE X o td) (hi : PE X i ty) : PS X (.Delete [.Subscript o i tpos] pos) (sDDel td ty) := by
  intro pins s σ H D I h
  refine wpAny_Delete (wpAny_deleteEach_cons (wpAny_delete_Subscript (thn (ho pins s σ H _ I h) fun u s1 ⟨x, H1, I1, rx, q1⟩ => thn (hi pins s1 σ H1 _ I1 q1) fun iv s2 ⟨y, H2, I2, ry, a, kvs, k, ex, e, ey, l, q2⟩ => ?_)))
  subst ex ey
  obtain rfl : u = Value.ref a := rx
  exact d_delItem I2 e ry l fun s3 I3 => wpAny_deleteEach_nil ⟨σ, _, I3, q2⟩
end


/-! ### displays -/
theorem dk_empty {P : Program} {w : World} {H : Hp} (h : Heap) (hb : sysModules < h.objs.size) : ObjOk P w H (h.push { cls := .type "dict", data := .dict #[] }) h.objs.size (.dK []) :=
  ⟨Nat.zero_le _, beq_eq_false_iff_ne.mpr (Ne.symm (Nat.ne_of_lt hb)), [], .nil, Heap.DictOf.new h⟩
theorem dt_empty {P : Program} {w : World} {H : Hp} (h : Heap) (hb : sysModules < h.objs.size) : ObjOk P w H (h.push { cls := .type "dict", data := .dict #[] }) h.objs.size (.dT []) :=
  ⟨Nat.zero_le _, beq_eq_false_iff_ne.mpr (Ne.symm (Nat.ne_of_lt hb)), [], .nil, _, #[], 0, Heap.get?_push_size _ rfl, ⟨rfl, rfl, rfl⟩, rfl, rfl, List.nodup_nil⟩
/-- {}, to be a dict of the kind that is wanted -/
def tDNewK : TE := fun _ H Q => ∀ p, H p = none → Q (.ref p) (upd H p (.dK []))
def tDNewT : TE := fun _ H Q => ∀ p, H p = none → Q (.ref p) (upd H p (.dT []))
section
variable {X : Cx} {pos : Pos}
theorem pe_dnewK : PE X (.Dict [] [] pos) tDNewK := fun pins s σ H Q I h =>
  wpAny_Dict_empty ⟨.ref s.heap.objs.size, _, I.laid (a := s.heap.objs.size) (o := .dK []) (t' := s.toks) (fun _ _ q => Heap.get?_push_of_some _ q) (Nat.le_refl _) (dk_empty s.heap I.big), rfl, h _ (I.hok.fresh (Nat.le_refl _))⟩
theorem pe_dnewT : PE X (.Dict [] [] pos) tDNewT := fun pins s σ H Q I h =>
  wpAny_Dict_empty ⟨.ref s.heap.objs.size, _, I.laid (a := s.heap.objs.size) (o := .dT []) (t' := s.toks) (fun _ _ q => Heap.get?_push_of_some _ q) (Nat.le_refl _) (dt_empty s.heap I.big), rfl, h _ (I.hok.fresh (Nat.le_refl _))⟩
end

/-- the pairs of a display, from the left -/
def tPairs : List (TE × TE) → St → Hp → (List (V × V) → Hp → Prop) → Prop
  | [], _, H, Q => Q [] H
  | (tk, tv) :: r, σ, H, Q => tk σ H fun x H1 => tv σ H1 fun y H2 => tPairs r σ H2 fun ps H3 => Q ((x, y) :: ps) H3
abbrev VV : List (V × V) → List (Value × Value) → Prop := Paired fun p q => RelV p.1 q.1 ∧ RelV p.2 q.2
def PPs (X : Cx) (pos : Pos) (keys : List (Option Expr)) (values : List Expr) (trs : List (TE × TE)) : Prop :=
  ∀ (pins : List (Addr × Obj)) (s : Shared) (σ : St) (H : Hp) (Q : List (V × V) → Hp → Prop), Inv X pins σ H s → tPairs trs σ H Q →
    wpAny (model X.prog X.w) X.A (evalPairs (pairTrees keys values X.env pos)) (fun vs s' => ∃ ps H', Inv X pins σ H' s' ∧ VV ps vs ∧ Q ps H') X.xe s
theorem pps_nil {X : Cx} {pos : Pos} : PPs X pos [] [] [] := fun pins s σ H Q I h => pairTrees_nil_walk ⟨[], H, I, .nil, h⟩
theorem pps_cons {X : Cx} {pos : Pos} {k v : Expr} {ks : List (Option Expr)} {vs : List Expr} {tk tv : TE} {trs : List (TE × TE)} (hk : PE X k tk) (hv : PE X v tv) (hr : PPs X pos ks vs trs) :
    PPs X pos (some k :: ks) (v :: vs) ((tk, tv) :: trs) := fun pins s σ H Q I h =>
  pairTrees_cons_walk (thn (hk pins s σ H _ I h) fun u s1 ⟨x, H1, I1, rx, q1⟩ => thn (hv pins s1 σ H1 _ I1 q1) fun w2 s2 ⟨y, H2, I2, ry, q2⟩ =>
    thn (hr pins s2 σ H2 _ I2 q2) fun ws s3 ⟨ps, H3, I3, rel, q3⟩ => ⟨(x, y) :: ps, H3, I3, .cons ⟨rx, ry⟩ rel, q3⟩)

def mergeK (kvs more : List (Key × V)) : List (Key × V) := more.foldl (fun acc kv => putK acc kv.1 kv.2) kvs
theorem KV.merge : ∀ {more : List (Key × V)} {rs : List (Key × Value)} {kvs : List (Key × V)} {vs : List (Key × Value)}, KV more rs → KV kvs vs → KV (mergeK kvs more) (merged vs rs) := by
  intro more rs kvs vs r
  unfold KV at r
  induction r generalizing kvs vs with
  | nil => intro q; exact q
  | @cons p q ps qs h t ih =>
    intro r0
    have e : KV (putK kvs p.1 p.2) (stored vs q.1 q.2) := by
      have := r0.put p.1 h.2
      rw [← h.1]; exact this
    exact ih e
theorem length_mergeK : ∀ (more kvs : List (Key × V)), (mergeK kvs more).length ≤ kvs.length + more.length
  | [], kvs => by show kvs.length ≤ kvs.length + 0; omega
  | p :: r, kvs => by
    have h1 := length_mergeK r (putK kvs p.1 p.2)
    have h2 := length_putK kvs p.1 p.2
    show (mergeK (putK kvs p.1 p.2) r).length ≤ _
    rw [List.length_cons]; omega
theorem carries_of {P : Program} {w : World} : ∀ {kvs : List (Key × V)} {ws : List (Value × Value)}, VV (kvs.map fun kv => (kV kv.1, kv.2)) ws → ∃ rs, Carries (mixKind P w) ws rs ∧ KV kvs rs
  | [], _, r => by rw [List.map_nil] at r; cases r; exact ⟨[], True.intro, .nil⟩
  | p :: kvs, _, r => by
    rw [List.map_cons] at r
    cases r with
    | @cons a b as bs h t =>
      obtain ⟨rs, c, q⟩ := carries_of (P := P) (w := w) t
      obtain ⟨b1, b2⟩ := b
      exact ⟨(p.1, b2) :: rs, ⟨kV_is h.1, rfl, c⟩, .cons ⟨rfl, h.2⟩ q⟩
/-- {k: v, ..} with keys ints and texts; the new dict stands empty while the pairs are made -/
def tDisp (trs : List (TE × TE)) : TE := fun σ H Q => ∀ p, H p = none → tPairs trs σ (upd H p (.dK [])) fun ps H2 => H2 p = some (.dK []) ∧ ∃ kvs : List (Key × V), ps = kvs.map (fun kv => (kV kv.1, kv.2)) ∧ kvs.length ≤ 15 ∧ Q (.ref p) (upd H2 p (.dK (mergeK [] kvs)))
theorem pe_disp {X : Cx} {pos : Pos} {keys : List (Option Expr)} {values : List Expr} {trs : List (TE × TE)} (h : PPs X pos keys values trs) (hall : keys.all (·.isSome) = true) (hl : keys.length = values.length) (h0 : keys ≠ [])
    (h15 : keys.length ≤ 15) : PE X (.Dict keys values pos) (tDisp trs) := by
  intro pins s σ H Q I q
  have hn := I.hok.fresh (Nat.le_refl s.heap.objs.size)
  have I1 := I.laid (a := s.heap.objs.size) (o := .dK []) (h' := s.heap.push { cls := .type "dict", data := .dict #[] }) (t' := s.toks) (fun _ _ q => Heap.get?_push_of_some _ q) (Nat.le_refl _) (dk_empty s.heap I.big)
  refine wpAny_Dict_walk (knd := mixKind X.prog X.w) hall hl h0 h15 (thn (h pins _ σ _ _ I1 (q _ hn)) fun ws s2 ⟨ps, H2, I2, rel, e, kvs, ep, lk, q2⟩ => ?_)
  subst ep
  obtain ⟨rs, c, rk⟩ := carries_of (P := X.prog) (w := X.w) rel
  obtain ⟨z, hd, vs0, r0, dd⟩ := dk_of I2.hok e
  cases r0
  refine ⟨rs, c, dd, fun h' dd' hs => ⟨.ref s.heap.objs.size, _, ?_, rfl, q2⟩⟩
  have hz : (mergeK [] kvs).length ≤ sizeLine := by
    have h1 := length_mergeK kvs []
    rw [List.length_nil] at h1
    rw [sizeLine_eq]; omega
  have he : ∃ q, h'.get? s.heap.objs.size = some q := let ⟨q, _, _, hq, _⟩ := dd'; ⟨q, hq⟩
  exact d_write I2 (by rw [e]; exact True.intro) hs he (dk_new hz hd (rk.merge .nil) dd')


/-! ### methods -/
/-- a method call o.m(e) of a built-in, with one argument: what must be seen of the text -/
structure M1 (X : Cx) (o : Expr) (m : Str) (apos : Pos) (e : Expr) (cpos : Pos) : Prop where
  base : attributeBase o m X.env (eval o X.env) = eval o X.env
  few : ((backTo cpos (starEach [e] X.env)).all (fun x => !x.1) && (backToKw cpos (keywordEach [] X.env)).all (fun x => x.1.isSome)
    && decide (([e] : List Expr).length + ([] : List Keyword).length + (if ([] : List Keyword).isEmpty then 0 else 1) < 30)) = true
  line : (apos.endLine == cpos.line) = true
  trees : backTo cpos (starEach [e] X.env) = [(false, eval e X.env)]
structure M2 (X : Cx) (o : Expr) (m : Str) (apos : Pos) (e f : Expr) (cpos : Pos) : Prop where
  base : attributeBase o m X.env (eval o X.env) = eval o X.env
  few : ((backTo cpos (starEach [e, f] X.env)).all (fun x => !x.1) && (backToKw cpos (keywordEach [] X.env)).all (fun x => x.1.isSome)
    && decide (([e, f] : List Expr).length + ([] : List Keyword).length + (if ([] : List Keyword).isEmpty then 0 else 1) < 30)) = true
  line : (apos.endLine == cpos.line) = true
  trees : backTo cpos (starEach [e, f] X.env) = [(false, eval e X.env), (false, eval f X.env)]

/-- a is a dict, whatever its keys -/
def IsD (H : Hp) (a : Addr) : Prop := (∃ kvs, Rd H a (.dK kvs)) ∨ ∃ kvs, Rd H a (.dT kvs)
theorem isD_at {X : Cx} {pins : List (Addr × Obj)} {σ : St} {H : Hp} {s : Shared} {a : Addr} (I : Inv X pins σ H s) (d : IsD H a) :
    s.TypeIs (.ref a) "dict" ∧ (∀ b, Value.ref a = .ref b → ∃ ob, s.heap.get? b = some ob ∧ ob.dict = none) ∧ (a == sysModules) = false := by
  rcases d with ⟨kvs, e⟩ | ⟨kvs, e⟩
  · obtain ⟨_, hd, vs, _, dd⟩ := dk_rd I.hok e
    refine ⟨dd.typeIs, fun b q => ?_, hd⟩
    cases q
    obtain ⟨ob, _, _, h1, h2, _⟩ := dd
    exact ⟨ob, h1, h2.2.1⟩
  · obtain ⟨_, hd, xs, _, dd⟩ := dt_rd I.hok e
    refine ⟨dd.typeIs, fun b q => ?_, hd⟩
    cases q
    obtain ⟨ob, _, _, h1, h2, _⟩ := dd
    exact ⟨ob, h1, h2.2.1⟩

section
variable {X : Cx} {pins : List (Addr × Obj)} {σ : St} {H : Hp} {s : Shared} {a : Addr} {y d : V} {u r : Value} {o : Option V} {A : Around} {E : Value → Shared → Prop}
/-- d.get(y) -/
theorem d_get1 {Q : Value → Shared → Prop} (hu : A.units + 1 < cLine) (I : Inv X pins σ H s) (g : DGet H a y o) (ry : RelV y u) (h : ∀ w' s', Inv X pins σ H s' → RelV (o.getD .non) w' → Q w' s') :
    wpAny (model X.prog X.w) A (call (.builtin "dict.get") [.ref a, u]) Q E s := by
  rcases g with ⟨kvs, k, e, ey, l⟩ | ⟨kvs, k, b, e, ey, eb, l⟩
  · subst ey
    obtain ⟨z, hd, vs, rel, dd⟩ := dk_rd I.hok e
    refine call_meetsIn PySem.F.slot_dict_get dd.typeIs PySem.F.entry_dict_get (PySem.F.args_dict_get_2 _ _) (meets_dict_get (mixKind X.prog X.w) a (kV_is ry) hd) ⟨_, dd.mapOf, h _ _ (I.tok _) ?_⟩
    rw [l]
    exact (rel.val k).getD rfl
  · subst ey
    cases (show u = Value.ref b from ry)
    obtain ⟨z, hd, xs, rel, dd⟩ := dt_rd I.hok e
    refine call_meetsIn PySem.F.slot_dict_get dd.typeIs PySem.F.entry_dict_get (PySem.F.args_dict_get_2 _ _) (meetsH_dict_get (tupleKind (mixKind X.prog X.w)) a b hd) ⟨tupleKind_room_in1 hu, k, xs, key_of I.hok eb, dd, h _ _ (I.tok _) ?_⟩
    rw [l]
    exact (rel.val k).getD rfl
/-- d.get(y, x) -/
theorem d_get2 {Q : Value → Shared → Prop} (hu : A.units + 1 < cLine) (I : Inv X pins σ H s) (g : DGet H a y o) (ry : RelV y u) (rd : RelV d r) (h : ∀ w' s', Inv X pins σ H s' → RelV (o.getD d) w' → Q w' s') :
    wpAny (model X.prog X.w) A (call (.builtin "dict.get") [.ref a, u, r]) Q E s := by
  rcases g with ⟨kvs, k, e, ey, l⟩ | ⟨kvs, k, b, e, ey, eb, l⟩
  · subst ey
    obtain ⟨z, hd, vs, rel, dd⟩ := dk_rd I.hok e
    refine call_meetsIn PySem.F.slot_dict_get dd.typeIs PySem.F.entry_dict_get (PySem.F.args_dict_get_3 _ _ _) (meets_dict_get_default (mixKind X.prog X.w) a (kV_is ry) hd r) ⟨_, dd.mapOf, h _ _ (I.tok _) ?_⟩
    rw [l]
    exact (rel.val k).getD rd
  · subst ey
    cases (show u = Value.ref b from ry)
    obtain ⟨z, hd, xs, rel, dd⟩ := dt_rd I.hok e
    refine call_meetsIn PySem.F.slot_dict_get dd.typeIs PySem.F.entry_dict_get (PySem.F.args_dict_get_3 _ _ _) (meetsH_dict_get_default (tupleKind (mixKind X.prog X.w)) a b hd r) ⟨tupleKind_room_in1 hu, k, xs, key_of I.hok eb, dd, h _ _ (I.tok _) ?_⟩
    rw [l]
    exact (rel.val k).getD rd
end

def tDGet1 (td ty : TE) : TE := fun σ H Q => td σ H fun x H1 => ∃ a, x = .ref a ∧ IsD H1 a ∧ ty σ H1 fun y H2 => ∃ o, DGet H2 a y o ∧ Q (o.getD .non) H2
def tDGet2 (td ty tx : TE) : TE := fun σ H Q => td σ H fun x H1 => ∃ a, x = .ref a ∧ IsD H1 a ∧ ty σ H1 fun y H2 => tx σ H2 fun z H3 => ∃ o, DGet H3 a y o ∧ Q (o.getD z) H3
/-- d.pop(k): there; d.pop(k, x): there or not -/
def tDPop1 (td ty : TE) : TE := fun σ H Q => td σ H fun x H1 => ∃ a, x = .ref a ∧ IsD H1 a ∧ ty σ H1 fun y H2 => ∃ kvs k v, H2 a = some (.dK kvs) ∧ y = kV k ∧ valV kvs k = some v ∧ Q v (upd H2 a (.dK (dropK kvs k)))
def tDPop2 (td ty tx : TE) : TE := fun σ H Q => td σ H fun x H1 => ∃ a, x = .ref a ∧ IsD H1 a ∧ ty σ H1 fun y H2 => tx σ H2 fun z H3 => ∃ kvs k, H3 a = some (.dK kvs) ∧ y = kV k ∧
  (∀ v, valV kvs k = some v → Q v (upd H3 a (.dK (dropK kvs k)))) ∧ (valV kvs k = none → Q z H3)
section
variable {X : Cx} {o e f : Expr} {apos cpos : Pos} {td ty tx : TE}
theorem pe_dget1 (hu : X.A.units + 1 < cLine) (ho : PE X o td) (he : PE X e ty) (m : M1 X o "get" apos e cpos) : PE X (.Call (.Attribute o "get" apos) [e] [] cpos) (tDGet1 td ty) := by
  intro pins s σ H Q I h
  refine wpAny_Call_method m.base m.few m.line PySem.F.plainAttrs_dict PySem.F.slot_dict_get PySem.F.type_dict_get (thn (ho pins s σ H _ I h) fun u s1 ⟨x, H1, I1, rx, a, ex, d, q1⟩ => ?_)
  subst ex
  obtain rfl : u = Value.ref a := rx
  obtain ⟨t1, t2, _⟩ := isD_at I1 d
  refine ⟨t1, t2, ?_⟩
  rw [m.trees]
  refine Calls.callWith_builtin rfl (Calls.evalArgs_plain (Calls.spliced_cons (thn (he pins s1 σ H1 _ I1 q1) fun iv s2 ⟨y, H2, I2, ry, ov, g, q2⟩ => Calls.spliced_nil ?_)))
  exact d_get1 hu I2 g ry fun w' s3 I3 rw' => ⟨_, H2, I3, rw', q2⟩
theorem pe_dget2 (hu : X.A.units + 1 < cLine) (ho : PE X o td) (he : PE X e ty) (hf : PE X f tx) (m : M2 X o "get" apos e f cpos) : PE X (.Call (.Attribute o "get" apos) [e, f] [] cpos) (tDGet2 td ty tx) := by
  intro pins s σ H Q I h
  refine wpAny_Call_method m.base m.few m.line PySem.F.plainAttrs_dict PySem.F.slot_dict_get PySem.F.type_dict_get (thn (ho pins s σ H _ I h) fun u s1 ⟨x, H1, I1, rx, a, ex, d, q1⟩ => ?_)
  subst ex
  obtain rfl : u = Value.ref a := rx
  obtain ⟨t1, t2, _⟩ := isD_at I1 d
  refine ⟨t1, t2, ?_⟩
  rw [m.trees]
  refine Calls.callWith_builtin rfl (Calls.evalArgs_plain (Calls.spliced_cons (thn (he pins s1 σ H1 _ I1 q1) fun iv s2 ⟨y, H2, I2, ry, q2⟩ =>
    Calls.spliced_cons (thn (hf pins s2 σ H2 _ I2 q2) fun fv s3 ⟨z, H3, I3, rz, ov, g, q3⟩ => Calls.spliced_nil ?_))))
  exact d_get2 hu I3 g ry rz fun w' s4 I4 rw' => ⟨_, H3, I4, rw', q3⟩
theorem pe_dpop1 (ho : PE X o td) (he : PE X e ty) (m : M1 X o "pop" apos e cpos) : PE X (.Call (.Attribute o "pop" apos) [e] [] cpos) (tDPop1 td ty) := by
  intro pins s σ H Q I h
  refine wpAny_Call_method m.base m.few m.line PySem.F.plainAttrs_dict PySem.F.slot_dict_pop PySem.F.type_dict_pop (thn (ho pins s σ H _ I h) fun u s1 ⟨x, H1, I1, rx, a, ex, d, q1⟩ => ?_)
  subst ex
  obtain rfl : u = Value.ref a := rx
  obtain ⟨t1, t2, _⟩ := isD_at I1 d
  refine ⟨t1, t2, ?_⟩
  rw [m.trees]
  refine Calls.callWith_builtin rfl (Calls.evalArgs_plain (Calls.spliced_cons (thn (he pins s1 σ H1 _ I1 q1) fun iv s2 ⟨y, H2, I2, ry, kvs, k, v, ea, ey, l, q2⟩ => Calls.spliced_nil ?_)))
  subst ey
  exact d_pop I2 ea ry l (.inl rfl) fun w' s3 I3 rw' => ⟨v, _, I3, rw', q2⟩
theorem pe_dpop2 (ho : PE X o td) (he : PE X e ty) (hf : PE X f tx) (m : M2 X o "pop" apos e f cpos) : PE X (.Call (.Attribute o "pop" apos) [e, f] [] cpos) (tDPop2 td ty tx) := by
  intro pins s σ H Q I h
  refine wpAny_Call_method m.base m.few m.line PySem.F.plainAttrs_dict PySem.F.slot_dict_pop PySem.F.type_dict_pop (thn (ho pins s σ H _ I h) fun u s1 ⟨x, H1, I1, rx, a, ex, d, q1⟩ => ?_)
  subst ex
  obtain rfl : u = Value.ref a := rx
  obtain ⟨t1, t2, _⟩ := isD_at I1 d
  refine ⟨t1, t2, ?_⟩
  rw [m.trees]
  refine Calls.callWith_builtin rfl (Calls.evalArgs_plain (Calls.spliced_cons (thn (he pins s1 σ H1 _ I1 q1) fun iv s2 ⟨y, H2, I2, ry, q2⟩ =>
    Calls.spliced_cons (thn (hf pins s2 σ H2 _ I2 q2) fun fv s3 ⟨z, H3, I3, rz, kvs, k, ea, ey, q3, q4⟩ => Calls.spliced_nil ?_))))
  subst ey
  cases l : valV kvs k with
  | some v => exact d_pop I3 ea ry l (.inr ⟨fv, rfl⟩) fun w' s4 I4 rw' => ⟨v, _, I4, rw', q3 v l⟩
  | none => exact d_popD I3 ea ry l fun s4 I4 => ⟨z, H3, I4, rz, q4 l⟩
end

/-! ### dict(d): a copy -/
section
variable {X : Cx} {pins : List (Addr × Obj)} {σ : St} {H : Hp} {s : Shared} {a : Addr} {kvs : List (Key × V)} {A : Around} {E : Value → Shared → Prop}
theorem d_copyOf {Q : Value → Shared → Prop} (I : Inv X pins σ H s) (e : Rd H a (.dK kvs)) (h : ∀ p s', H p = none → Inv X pins σ (upd H p (.dK kvs)) s' → Q (.ref p) s') : wpAny (model X.prog X.w) A (call (.type "dict") [.ref a]) Q E s := by
  obtain ⟨z, hd, vs, rel, dd⟩ := dk_rd I.hok e
  refine kt_call_dict hd dd (by rw [← rel.length]; exact z) fun h' dd' hs => ?_
  refine h _ _ (I.hok.fresh (Nat.le_refl _)) (I.laid (a := s.heap.objs.size) (o := .dK kvs) (t' := s.toks) (fun b q hq => ?_) (Nat.le_refl _) (dk_new z (beq_eq_false_iff_ne.mpr (Ne.symm (Nat.ne_of_lt I.big))) rel dd'))
  exact (hs.2 b (Nat.ne_of_lt (Heap.lt_size hq))).trans (Heap.get?_push_of_some _ hq)
end


section
variable {X : Cx} {pins : List (Addr × Obj)} {σ : St} {H : Hp} {s : Shared} {a : Addr} {y : V} {u : Value} {A : Around} {E : Value → Shared → Prop}
/-- d[y], not there: a KeyError -/
theorem d_missing {Q : Value → Shared → Prop} (hu : A.units + 1 < cLine) (hh : A.handled = none) (I : Inv X pins σ H s) (g : DGet H a y none) (ry : RelV y u)
    (h : ∀ h' e t', Heap.NewExc s.heap h' e "KeyError" → E (.ref e) { s with heap := h', toks := t' }) : wpAny (model X.prog X.w) A (getItem (.ref a) u) Q E s := by
  rcases g with ⟨kvs, k, e, ey, l⟩ | ⟨kvs, k, b, e, ey, eb, l⟩
  · subst ey
    obtain ⟨z, hd, vs, rel, dd⟩ := dk_rd I.hok e
    have hn : valueAt vs k = none := RelO.none_of (by rw [l]; exact rel.val k)
    exact wpAny_getItem_missing_of (kV_is ry) hd hh dd.mapOf hn fun h' ex ne => h h' ex _ ne
  · subst ey
    cases (show u = Value.ref b from ry)
    obtain ⟨z, hd, xs, rel, dd⟩ := dt_rd I.hok e
    have hn : (atKey xs k).map (·.2) = none := RelO.none_of (by rw [l]; exact rel.val k)
    exact wpAny_getItem_missing_heap (tupleKind_room_in1 hu) (key_of I.hok eb) hd hh dd (Option.map_eq_none_iff.mp hn) fun h' ex ne => h h' ex _ ne
end
end L2

namespace Att
open PySem PySem.W PySem.Calls PyProof.Rows

/-! ### the script -/
theorem ints_of_wellAll {P : Params} {h : Heap} : ∀ (ns : List Int) (vs : List Value), WellAll P h vs (ns.map WData.int) → IntsAre vs ns := by
  intro ns
  induction ns with
  | nil =>
    intro vs w
    rw [List.map_nil] at w
    cases w
    exact .nil
  | cons n ns ih =>
    intro vs w
    rw [List.map_cons] at w
    cases w with
    | cons a b =>
      cases a
      exact .cons _ _ (ih _ b)

theorem script_of {l : OpenLaw} {n : Nat} (hn : l.most = some n) {P : Params} {h : Heap} {args : List WData} {vals : List Value}
    (hpre : l.row.toRowW.claim.pre args = true) (hwl : WellAll P h vals args) :
    ∃ a vs ns, vals = [Value.ref a] ∧ args = [WData.list (ns.map WData.int)] ∧ h.get? a = some { cls := .type "list", data := .seq vs.toArray } ∧ IntsAre vs ns ∧ ns.length ≤ n := by
  have hsh : WShape.hasAll [] args [.list .int] = true := (pre_splitW hpre).1
  have hc : l.pre.holds [] { args := args } = true := (pre_splitW hpre).2
  obtain ⟨d, r, rfl, h1, h2⟩ := hasAllW_cons hsh
  obtain rfl := hasAllW_nil h2
  obtain ⟨xs, rfl, h3⟩ := hasW_list h1
  obtain ⟨ns, rfl⟩ := items_int h3
  have hlen : ns.length ≤ n := by
    unfold OpenLaw.pre at hc
    have h4 : (WTm.not (.lt (.lit (.int (n : Int))) (.len (.arg 0)))).holds [] { args := [.list (ns.map .int)] } = true := by
      have h4 := (holds_andW hc).1
      rw [hn] at h4
      exact h4
    have h5 := condW_of h4 (w_not (w_lt w_lit (w_len_list (w_arg rfl))))
    rw [List.length_map] at h5
    refine Nat.le_of_not_lt fun q => ?_
    have q' : (n : Int) < ((ns.length : Nat) : Int) := by omega
    first
      | (rw [decide_eq_true q'] at h5; exact absurd h5 (by decide))
      | (simp at h5; omega)
  cases hwl with
  | cons w1 w2 =>
    cases w2
    cases w1 with
    | list ho hall => exact ⟨_, _, ns, rfl, rfl, ho, ints_of_wellAll ns _ hall, hlen⟩

theorem post_true (l : OpenLaw) (args : List WData) : l.row.toRowW.claim.post args (.bool true) args = true :=
  postW_of (r := l.row.toRowW) (X := (true == true))
    (show WShape.has [] (.bool true) .bool = true by first | rfl | decide | simp [WShape.has, WShape.arms, WShape.armsAll])
    (show (WTm.eq .res (.lit (.bool true))).value [] { args := args, res := some (.bool true), after := args } = some (.bool (true == true)) from w_eq_bool (w_res rfl) w_lit) rfl

/-! ### the attachment: holds_open's last premise (the goal 'hc' behind k_head) from a wpAny of the law's body -/
theorem attach {l : OpenLaw} {n : Nat} {q : Program} {loose : List Str} {XP : (Str → Option Value) → Heap → Prop} {YP : World → Heap → Prop} {d : DefRec} {x : Str}
    (hn : l.most = some n) (hdf : d.params.defaults = [])
    (hbind : ∀ pm cd doc v : Value, bindArgs (docDef d.name d.params d.body d.scope pm cd doc) ⟨[v], []⟩ = pure [(x, v)])
    (hx : d.scope.names.lookup x = some .local ∨ d.scope.names.lookup x = some .cell)
    (hk : d.scope.kind = .function) (hco : d.scope.isCoroutine = false) (hgen : d.scope.isGenerator = false)
    (body : ∀ (w : World) (s₀ s₁ s : Shared) (mg mb : Str → Option Value) (fa : Addr) (o : Obj) (pm cd doc : Value) (a : Addr) (vs : List Value) (ns : List Int),
      Ground q loose [] XP w s₀ mg mb s₁.heap → YP w s₁.heap →
      s₁.heap.get? fa = some o → o.data = .func (docDef d.name d.params d.body d.scope pm cd doc) → s₁.heap.CodeRec cd d.name → mg d.name = some (.ref fa) →
      s₁.heap.get? a = some { cls := .type "list", data := .seq vs.toArray } → IntsAre vs ns → ns.length ≤ n →
      s.gens = #[] → s.os = s₁.os →
      Fr s₁.heap s₁.heap.objs.size s.heap (bindL (envOfC d.name d.scope s₁.heap.objs.size fa cd).kindOf [(x, .ref a)] fun _ => none) →
      Cl s₁.heap.objs.size (cellsFrom (s₁.heap.objs.size + 1) d.scope.names []) s.heap (bindC (envOfC d.name d.scope s₁.heap.objs.size fa cd).kindOf [(x, .ref a)] fun _ => none) →
      wpAny (model l.prog w) (callerA.deeper (envOfC d.name d.scope s₁.heap.objs.size fa cd)) (execs d.body (envOfC d.name d.scope s₁.heap.objs.size fa cd))
        (fun f s' => f = .ret (.bool true) ∧ OldK s₁.heap s'.heap ∧ s'.os = s₁.os ∧ AllBare s'.gens) (fun _ _ => False) s) :
    WalkO q loose XP YP l.row.toRowW d [] (fun f vs => PySem.call f vs) := by
  intro w s₀ s₁ mg mb G Y fa o pm cd doc dV kV ho hd hcd hD hmg hg args vals as hpre hlay hrd hwl hlo
  obtain rfl : dV = .none := Dflts.none hD hdf
  obtain rfl : kV = .none := Dflts.noKw hD
  obtain ⟨a, vs, ns, rfl, rfl, hobj, hints, hlen⟩ := script_of hn hpre hwl
  refine enter_call ?_
  refine call_cells_ret (o := o) (by rw [depth_caller]; decide) ho (fd_plain hd) G.T.nolimit hcd (hbind pm cd doc (.ref a)) (fun y hy => ?_) (fun h₁ tk F X => ?_) hco hgen hk
  · obtain rfl : y = (x, Value.ref a) := List.mem_singleton.mp hy
    rcases hx with e | e
    · exact .inl e
    · exact .inr ⟨e, cellsFrom_some _ _ _ (.inl e)⟩
  · refine wpAny_mono (body w s₀ s₁ { s₁ with heap := h₁, toks := tk } mg mb fa o pm cd doc a vs ns G Y ho (fd_plain hd) hcd hmg hobj hints hlen hg rfl F X) (fun f s' hq => ?_) (fun _ _ hq => hq)
    obtain ⟨rfl, h2, h3, h4⟩ := hq
    exact ⟨.inl ⟨.bool true, .bool true, [], rfl, fun _ => rfl, .bool true, post_true l _, fun _ => ⟨List.Pairwise.nil, fun _ hm => (nomatch hm)⟩⟩, h2, h3, h4⟩

/-- the same from a codeAny of the CALL (for a layer whose function contracts speak of calls) -/
theorem attach_call {l : OpenLaw} {n : Nat} {q : Program} {loose : List Str} {XP : (Str → Option Value) → Heap → Prop} {YP : World → Heap → Prop} {d : DefRec}
    (hn : l.most = some n) (hdf : d.params.defaults = [])
    (call : ∀ (w : World) (s₀ s₁ : Shared) (mg mb : Str → Option Value) (fa : Addr) (o : Obj) (pm cd doc : Value) (a : Addr) (vs : List Value) (ns : List Int),
      Ground q loose [] XP w s₀ mg mb s₁.heap → YP w s₁.heap →
      s₁.heap.get? fa = some o → o.data = .func (docDef d.name d.params d.body d.scope pm cd doc) → s₁.heap.CodeRec cd d.name → mg d.name = some (.ref fa) →
      s₁.heap.get? a = some { cls := .type "list", data := .seq vs.toArray } → IntsAre vs ns → ns.length ≤ n → s₁.gens = #[] →
      codeAny (model l.prog w) callerA (.call (.ref fa) ⟨[.ref a], []⟩) (fun r s' => r = .ok (.ret (.bool true)) ∧ OldK s₁.heap s'.heap ∧ s'.os = s₁.os ∧ AllBare s'.gens) s₁) :
    WalkO q loose XP YP l.row.toRowW d [] (fun f vs => PySem.call f vs) := by
  intro w s₀ s₁ mg mb G Y fa o pm cd doc dV kV ho hd hcd hD hmg hg args vals as hpre hlay hrd hwl hlo
  obtain rfl : dV = .none := Dflts.none hD hdf
  obtain rfl : kV = .none := Dflts.noKw hD
  obtain ⟨a, vs, ns, rfl, rfl, hobj, hints, hlen⟩ := script_of hn hpre hwl
  refine enter_call (codeAny_mono (call w s₀ s₁ mg mb fa o pm cd doc a vs ns G Y ho (fd_plain hd) hcd hmg hobj hints hlen hg) fun r s' hq => ?_)
  obtain ⟨rfl, h2, h3, h4⟩ := hq
  exact ⟨.inl ⟨.bool true, .bool true, [], rfl, fun _ => rfl, .bool true, post_true l _, fun _ => ⟨List.Pairwise.nil, fun _ hm => (nomatch hm)⟩⟩, h2, h3, h4⟩

/-- the same where the top left finished generators (o_head chose holds_openN): nothing may have changed at all and no generator may be left -/
theorem attachN {l : OpenLaw} {n : Nat} {q : Program} {loose : List Str} {XP : (Str → Option Value) → Heap → Prop} {YP : World → Heap → Prop} {d : DefRec} {x : Str}
    (hn : l.most = some n) (hdf : d.params.defaults = [])
    (hbind : ∀ pm cd doc v : Value, bindArgs (docDef d.name d.params d.body d.scope pm cd doc) ⟨[v], []⟩ = pure [(x, v)])
    (hx : d.scope.names.lookup x = some .local ∨ d.scope.names.lookup x = some .cell)
    (hk : d.scope.kind = .function) (hco : d.scope.isCoroutine = false) (hgen : d.scope.isGenerator = false)
    (body : ∀ (w : World) (s₀ s₁ s : Shared) (mg mb : Str → Option Value) (fa : Addr) (o : Obj) (pm cd doc : Value) (a : Addr) (vs : List Value) (ns : List Int),
      Ground q loose [] XP w s₀ mg mb s₁.heap → YP w s₁.heap →
      s₁.heap.get? fa = some o → o.data = .func (docDef d.name d.params d.body d.scope pm cd doc) → s₁.heap.CodeRec cd d.name → mg d.name = some (.ref fa) →
      s₁.heap.get? a = some { cls := .type "list", data := .seq vs.toArray } → IntsAre vs ns → ns.length ≤ n →
      s.gens = #[] → s.os = s₁.os →
      Fr s₁.heap s₁.heap.objs.size s.heap (bindL (envOfC d.name d.scope s₁.heap.objs.size fa cd).kindOf [(x, .ref a)] fun _ => none) →
      Cl s₁.heap.objs.size (cellsFrom (s₁.heap.objs.size + 1) d.scope.names []) s.heap (bindC (envOfC d.name d.scope s₁.heap.objs.size fa cd).kindOf [(x, .ref a)] fun _ => none) →
      wpAny (model l.prog w) (callerA.deeper (envOfC d.name d.scope s₁.heap.objs.size fa cd)) (execs d.body (envOfC d.name d.scope s₁.heap.objs.size fa cd))
        (fun f s' => f = .ret (.bool true) ∧ (∀ b o, s₁.heap.get? b = some o → s'.heap.get? b = some o) ∧ s'.os = s₁.os ∧ s'.gens = #[]) (fun _ _ => False) s) :
    WalkN q loose XP YP l.row.toRowW d [] (fun f vs => PySem.call f vs) := by
  intro w s₀ s₁ mg mb G Y fa o pm cd doc dV kV ho hd hcd hD hmg hg args vals as hpre hlay hrd hwl hlo
  obtain rfl : dV = .none := Dflts.none hD hdf
  obtain rfl : kV = .none := Dflts.noKw hD
  obtain ⟨a, vs, ns, rfl, rfl, hobj, hints, hlen⟩ := script_of hn hpre hwl
  refine enter_callW ?_
  refine call_cells_ret (o := o) (by rw [depth_caller]; decide) ho (fd_plain hd) G.T.nolimit hcd (hbind pm cd doc (.ref a)) (fun y hy => ?_) (fun h₁ tk F X => ?_) hco hgen hk
  · obtain rfl : y = (x, Value.ref a) := List.mem_singleton.mp hy
    rcases hx with e | e
    · exact .inl e
    · exact .inr ⟨e, cellsFrom_some _ _ _ (.inl e)⟩
  · refine wpAny_mono (body w s₀ s₁ { s₁ with heap := h₁, toks := tk } mg mb fa o pm cd doc a vs ns G Y ho (fd_plain hd) hcd hmg hobj hints hlen hg rfl F X) (fun f s' hq => ?_) (fun _ _ hq => hq)
    obtain ⟨rfl, h2, h3, h4⟩ := hq
    exact ⟨.inl ⟨.bool true, .bool true, [], rfl, fun _ => rfl, .bool true, post_true l _, fun _ => ⟨List.Pairwise.nil, fun _ hm => (nomatch hm)⟩⟩, h2, h3, h4⟩

/-! ### rules over ANY heap (no ledger) from facts about the written part K: the library's own take a ledger (News) for what they write -/
section
variable {prog : Program} {w : World} {A : Around} {E : Value → Shared → Prop} {s : Shared} {K : Frag}

/-- a def of the module, or a method (qual 'C.m'), entered: the frame is the next address; cells behind it -/
theorem call_fn {R : Result → Shared → Prop} {name qual : Str} {params : Arguments} {body : List Stmt} {scope : Scope} {dV kV doc pm cdv ct oc : Value} {an od : Option Addr} {osl : Array (Option Value)} {f : Addr} {args : Args} {binds : List (Str × Value)}
    (X : K.In s.heap) (hlim : s.heap.NoLimit) (ho : K.lookup f = some ⟨oc, od, .func (fnOf name qual params body scope dV kV doc pm an cdv ct), osl⟩) (hcd : codeIn K cdv qual = true) (hroom : A.depth < recursionLimit)
    (hbind : BindsTo s (fnOf name qual params body scope dV kV doc pm an cdv ct) args binds)
    (hkind : (binds.all fun y => scope.names.lookup y.1 == some .local || scope.names.lookup y.1 == some .cell) = true)
    (h : ∀ s₁, InCallC s s.heap.objs.size (bindL (envOfC qual scope s.heap.objs.size f cdv).kindOf binds fun _ => none) (cellsFrom (s.heap.objs.size + 1) scope.names [])
        (bindC (envOfC qual scope s.heap.objs.size f cdv).kindOf binds fun _ => none) s₁ →
      wpAny (model prog w) (A.deeper (envOfC qual scope s.heap.objs.size f cdv)) (execs body (envOfC qual scope s.heap.objs.size f cdv))
        (fun fl s' => R (.ok (.ret (match fl with | .ret v => v | _ => .none))) s')
        (fun e s' => wpAny (model prog w) (A.deeper (envOfC qual scope s.heap.objs.size f cdv)) (leaving (envOfC qual scope s.heap.objs.size f cdv) e) (fun _ s'' => R (.error e) s'') (fun e' s'' => R (.error e') s'') s') s₁)
    (hco : scope.isCoroutine = false) (hgen : scope.isGenerator = false) (hk : scope.kind = .function) : codeAny (model prog w) A (.call (.ref f) args) R s := by
  refine codeAny_call_function hroom (X _ _ ho) rfl hco hgen rfl (codeRec_of X hcd) (hbind _ _ _ _ ?_)
  refine wpAny_newFunctionEnv_cells hk (kindsX hkind _) fun env he s₁ x => ?_
  subst he
  exact ⟨hlim.keeps x.toInCall.keep, codeAny_func (h s₁ x)⟩

/-- C(..): dict at size, instance at size + 1, then __init__ -/
theorem make_obj {R : Result → Shared → Prop} {C fI : Addr} {rest : List Value} {kw : List (Str × Value)}
    (X : K.In s.heap) (hm : makesIn K C = true) (hi : findIn K (.ref C) "__init__" = some (some (.ref fI))) (hf : isFn K (.ref fI) = true)
    (h : codeAny (model prog w) (A.under (.builtin "type.__call__" ⟨.ref C :: rest, kw⟩)) (.call (.ref fI) ⟨.ref (s.heap.objs.size + 1) :: rest, kw⟩) (InitBack (s.heap.objs.size + 1) R)
      { s with heap := (s.heap.push emptyDict).push (instObj C s.heap.objs.size) }) : codeAny (model prog w) A (.call (.ref C) ⟨rest, kw⟩) R s := by
  obtain ⟨hh, g, d, t, os⟩ := s
  exact make_core (makes_of X hm) (looks_findIn X hi) (fun self => bind_fn X self (beq_iff_eq.mp hf)) (.inl rfl) h

/-- x.name where the instance's dict holds the name and the class does not -/
theorem get_field {x C : Addr} {ox : Obj} {es : List DictEntry} {n : Nat} {name : Str} {expr : Bool} {v : Value} {Q : Value → Shared → Prop}
    (X : K.In s.heap) (I : PySem.W.InstAt s.heap x ox C (some (dictOf es n))) (hg : plainGet K C name = true) (hh : hasDictIn K C = true) (ha : findIn K (.ref C) name = some none)
    (hl : getL name es = some (some v)) (hv : handedIn v = true) (h : Q v { s with toks := s.toks + 1 }) : wpAny (model prog w) A (getAttr (.ref x) name expr) Q E s :=
  get_value X I (plainGet_of hg).1 (findObj_own hh ha rfl hl) hv h

/-- x.m(..): the method found in the class -/
theorem get_method {x C f : Addr} {ox : Obj} {es : List DictEntry} {n : Nat} {name : Str} {pl : Sem Bool} {Q : Value × List Value → Shared → Prop}
    (X : K.In s.heap) (I : PySem.W.InstAt s.heap x ox C (some (dictOf es n))) (hg : plainGet K C name = true) (hf : findIn K (.ref C) name = some (some (.ref f))) (ht : isFn K (.ref f) = true)
    (hl : getL name es = some none) (h : Q (.ref f, [.ref x]) s) : wpAny (model prog w) A (getMethod (.ref x) name pl) Q E s :=
  method_fn X I (plainGet_of hg).1 (plainGet_of hg).2 hf (beq_iff_eq.mp ht) (by show (lookIn name (dictOf es n)).map _ = _; rw [lookIn_dict, hl]; rfl) h

/-! the whole heap as the ledger: makes every rule that writes through a ledger a rule over any heap -/
def noObjs (h : Heap) : Heap := { h with objs := #[] }
theorem noObjs_get (h : Heap) (b : Addr) : (noObjs h).get? b = none := by
  cases e : (noObjs h).get? b with
  | none => rfl
  | some o => exact absurd (Heap.lt_size e) (Nat.not_lt_zero _)
def ledger (h : Heap) (L d : Addr) : List (Addr × Obj) := (List.range h.objs.size).filterMap fun a => if a = L ∨ a = d then none else (h.get? a).map fun o => (a, o)
theorem mem_ledger {h : Heap} {L d a : Addr} {o : Obj} : (a, o) ∈ ledger h L d ↔ a ≠ L ∧ a ≠ d ∧ h.get? a = some o := by
  unfold ledger
  rw [List.mem_filterMap]
  constructor
  · rintro ⟨b, _, e⟩
    split at e
    · cases e
    · rename_i hb
      obtain ⟨o', ho, e'⟩ := Option.map_eq_some_iff.mp e
      cases e'
      exact ⟨fun q => hb (.inl q), fun q => hb (.inr q), ho⟩
  · rintro ⟨n1, n2, ho⟩
    refine ⟨a, List.mem_range.mpr (Heap.lt_size ho), ?_⟩
    rw [if_neg (show ¬ (a = L ∨ a = d) from fun q => q.elim n1 n2), ho] <;> rfl
theorem news_ledger {h : Heap} {L d : Addr} {od : Obj} (hne : d ≠ L) (ho : h.get? d = some od) : News (noObjs h) L h ([] ++ (d, od) :: ledger h L d) := by
  rintro ⟨a, o⟩ hp
  rcases List.mem_cons.mp hp with e | hp
  · cases e
    exact ⟨ho, hne, noObjs_get _ _⟩
  · obtain ⟨n1, n2, e⟩ := mem_ledger.mp hp
    exact ⟨e, n1, noObjs_get _ _⟩
theorem fr_all {h : Heap} {L : Addr} {m : Str → Option Value} (n : h.Ns L m) : Fr (noObjs h) L h m :=
  ⟨n, fun b o e => (by rw [noObjs_get] at e; cases e), Nat.zero_le _⟩
/-- Upd of the head entry (for append_K, setItem_K ..) -/
theorem upd_ledger {h : Heap} {L d : Addr} {o o' : Obj} : Upd d o o' ((d, o) :: ledger h L d) ((d, o') :: ledger h L d) :=
  .head fun ⟨_, _⟩ hp => (mem_ledger.mp hp).2.1

/-- x.name = v over any heap: L is any namespace of the heap (the frame's, say): its map stays, its object is not told; all else but the dict stays -/
theorem set_field {x C dx L : Addr} {ox : Obj} {m : Str → Option Value} {es es' : List DictEntry} {n n' : Nat} {name : Str} {v : Value} {Q : Unit → Shared → Prop}
    (X : K.In s.heap) (I : PySem.W.InstAt s.heap x ox C (some (dictOf es n))) (hd : ox.dict = some dx) (hL : s.heap.Ns L m) (hne : dx ≠ L)
    (hs : findIn K (.ref C) "__setattr__" = some (some (.builtin "object.__setattr__"))) (hp : plainOver K C = true) (ht : takerIn K C name = some none) (hh : hasDictIn K C = true) (hl : (getL name es).isSome = true)
    (e : (putL name (PyData.keyHash w.params name) (.str name (s.toks + 1)) v es, putN name es n) = (es', n')) (hz : es'.length ≤ 1000)
    (h : ∀ h' : Heap, h'.Ns L m → h'.get? dx = some (dictOf es' n') → (∀ b o, b ≠ dx → b ≠ L → s.heap.get? b = some o → h'.get? b = some o) → Q () { s with heap := h', toks := s.toks + 2 }) :
    wpAny (model prog w) A (setAttr (.ref x) name v) Q E s := by
  obtain ⟨e1, e2⟩ := Prod.mk.inj e
  have hdx : s.heap.get? dx = some (dictOf es n) := by
    have := I.dict
    rw [hd] at this
    exact this
  refine set_plain X I hs (osa_dict (s := { s with toks := s.toks + 1 }) (h₀ := noObjs s.heap) (L := L) (m := m) (od := dictOf es n) (od' := dictOf es' n') (es := es') (n := n') (pre := []) (post := ledger s.heap L dx)
    (fr_all hL) (news_ledger hne hdx) X I hd hp ht hh hl (fun _ q => nomatch q) (fun ⟨_, _⟩ q => (mem_ledger.mp q).2.1) (by rw [putName_dict, e1, e2]) rfl hz fun h' F' N' => ?_)
  exact h h' F'.ns (N'.get (List.Mem.head _)) fun b o n1 n2 ho => N'.get (List.Mem.tail _ (mem_ledger.mpr ⟨n2, n1, ho⟩))
end
end Att

namespace L2
open PySem PySem.Spec PyProof.Rows

theorem vals_ints : ∀ {vs : List Value} {ns : List Int}, IntsAre vs ns → Vals (ns.map V.int) vs
  | _, _, .nil => .nil
  | _, _, .cons n t h => .cons ⟨t, rfl⟩ (vals_ints h)

/-- nothing is tracked but the script, known to the object (or it is an object of the module) -/
def Only (H : Hp) : Prop := ∀ b, H b = none ∨ ∃ o xs, H b = some (.frz o (.lst xs))

/-- THE HEAD: the law's promise, at the heap behind the top. F, the promise of the law's def, may use that base is part of the heap (so K.In base, base.Ns mainGlobals mg stand in Mod) -/
theorem law_call {P : Program} {w : World} {K : PySem.W.Frag} {mg mb : Str → Option Value} {CX : CXT} {k : Nat} {fa a : Addr} {fd : FuncData} {x : Str} {sp : Sp} {s₁ : Shared} {vs : List Value} {ns : List Int}
    (KX : K.In s₁.heap) (hns : s₁.heap.Ns mainGlobals mg) (hb : s₁.heap.Ns builtinsNs mb) (hbb : ∀ x : Str, x ≠ "__name__" → mb x = bootBuiltins x) (hlim : s₁.heap.NoLimit) (hg : s₁.gens = #[])
    (ha : s₁.heap.get? a = some { cls := .type "list", data := .seq vs.toArray }) (hi : IntsAre vs ns) (hl : ns.length ≤ sizeLine) (hr : Room k callerA)
    (F : ∀ base : Heap, K.In base → base.Ns mainGlobals mg → FnOk P w K mg base CX k fa fd [x] sp) (hbind : ∀ (s : Shared) (u : Value), BindsTo s fd ⟨[u], []⟩ [(x, u)])
    (hsp : ∀ H : Hp, Only H → SqL K H a (ns.map V.int) → sp [.ref a] H (fun v _ => v = .bl true) fun _ _ _ => False)
    (hCX : ∀ H e s', CX [] H s₁ (fun _ _ _ => False) e s' → False) :
    codeAny (model P w) callerA (.call (.ref fa) ⟨[.ref a], []⟩) (fun r s' => r = .ok (.ret (.bool true)) ∧ OldK s₁.heap s'.heap ∧ s'.os = s₁.os ∧ AllBare s'.gens) s₁ := by
  have rv := vals_ints hi
  have lenV := hi.length
  -- from an abstract heap in which nothing but the script may be tracked
  have core : ∀ H : Hp, Only H → SqL K H a (ns.map V.int) → HOk P w H s₁.heap → (∀ b, H b ≠ none → b = a) → (H a ≠ none → K.lookup a = none) →
      codeAny (model P w) callerA (.call (.ref fa) ⟨[.ref a], []⟩) (fun r s' => r = .ok (.ret (.bool true)) ∧ OldK s₁.heap s'.heap ∧ s'.os = s₁.os ∧ AllBare s'.gens) s₁ := by
    intro H hO hS hok hA hK
    have base_of : ∀ {b : Addr} {o : Obj}, s₁.heap.get? b = some o → H b = none → (hidT s₁.heap H).get? b = some o := fun e n => hidT_get e n
    have noA : ∀ {b : Addr} {o : Obj} {es : Array DictEntry} {ep : Nat}, s₁.heap.get? b = some o → o.data = .dict es ep → H b = none := fun {b o es ep} e d => by
      cases q : H b with
      | none => rfl
      | some u =>
        have e' : b = a := hA b (by rw [q]; simp)
        subst e'
        rw [ha] at e; cases e
        have d' : Data.seq vs.toArray _ = Data.dict es ep := d
        cases d'
    have nsK : ∀ {b : Addr} {m : Str → Option Value}, s₁.heap.Ns b m → (hidT s₁.heap H).Ns b m := fun {b m} ⟨o, es, ep, e, d, r⟩ => ⟨o, es, ep, base_of e (noA e d), d, r⟩
    have hKb : K.In (hidT s₁.heap H) := fun b o e => base_of (KX b o e) (by
      cases q : H b with
      | none => rfl
      | some u =>
        have e' : b = a := hA b (by rw [q]; simp)
        subst e'
        rw [hK (by rw [q]; simp)] at e; cases e)
    have hM : Mod K mg (hidT s₁.heap H) := ⟨hKb, nsK hns, ⟨mb, nsK hb, hbb⟩, let ⟨mc, h1, h2⟩ := hlim; ⟨mc, nsK h1, h2⟩⟩
    have e0 : Env0 P w K mg (hidT s₁.heap H) callerA [] s₁ H := ⟨rfl, hM, fun b o e => of_hidT e, Nat.le_of_eq (hidT_size _ _), trivial, fun b hb => absurd (show b ∈ ([] : List Addr) from hb) (by simp), hok, .of_eq hg⟩
    refine codeAny_mono ((F _ hKb (nsK hns)).run callerA [] s₁ H ⟨[.ref a], []⟩ [.ref a] [.ref a] _ _ hr e0 (hbind s₁ (.ref a)) (.cons rfl .nil) (hsp H hO hS)) fun r s' h => ?_
    cases r with
    | error e => exact (hCX H e s' h).elim
    | ok fl =>
      cases fl with
      | next => exact False.elim h
      | brk => exact False.elim h
      | cont => exact False.elim h
      | ret u =>
        obtain ⟨v, H', os, bare, un, hok', r', q⟩ := h
        have q' : v = .bl true := q
        subst q'
        obtain rfl : u = Value.bool true := r'
        refine ⟨rfl, OldK.of_keep fun b o e => ?_, os, bare⟩
        cases q : H b with
        | none => exact un.keep b o e q (by intro z; exact absurd (show b ∈ ([] : List Addr) from z) (by simp)) (by simp)
        | some u =>
          rcases hO b with z | ⟨ob, xs, z⟩
          · rw [q] at z; cases z
          · have z2 := un.frzs b ob _ z
            obtain ⟨e1, _⟩ := hok b _ z
            obtain ⟨e2, _⟩ := hok' b _ z2
            rw [e] at e1; cases e1
            exact e2
  cases hk : K.lookup a with
  | some o =>
    -- the script is one of the module's own objects
    have e := KX a o hk
    rw [ha] at e
    cases e
    refine core (fun _ => none) (fun _ => .inl rfl) (.inr ⟨_, vs.toArray, _, hk, rfl, rfl, rfl, by rw [List.size_toArray, lenV]; exact hl, by simpa using rv⟩) (fun b u z => by have z' : (none : Option HO) = some u := z; cases z') (fun b z => absurd rfl z) fun z => absurd rfl z
  | none =>
    refine core (fun b => if b = a then some (.frz { cls := .type "list", data := .seq vs.toArray } (.lst (ns.map V.int))) else none) (fun b => ?_) (.inl (.inr ⟨{ cls := .type "list", data := .seq vs.toArray }, if_pos rfl⟩)) (fun b u z => ?_) (fun b z => ?_) fun _ => hk
    · by_cases hb : b = a
      · exact .inr ⟨_, _, if_pos hb⟩
      · exact .inl (if_neg hb)
    · by_cases hb : b = a
      · have z' := (if_pos hb).symm.trans z
        cases z'
        subst hb
        exact ⟨ha, by rw [List.length_map]; exact hl, vs, _, rv, ha⟩
      · have z' := (if_neg hb).symm.trans z
        cases z'
    · by_cases hb : b = a
      · exact hb
      · exact absurd (if_neg hb) z
end L2

namespace L2
open PySem PySem.Spec PyProof.Rows

abbrev KOf {K : PySem.W.Frag} {h : Heap} (_ : K.In h) : PySem.W.Frag := K

/-- the goal that k_head leaves (case hc), from the law's promise. F gives the function object fd (K's own) once, then the promise over every base -/
theorem walk_of {l : PySem.W.OpenLaw} {n k : Nat} {q : Program} {loose : List Str} {XP : (Str → Option Value) → Heap → Prop} {YP : World → Heap → Prop} {d : DefRec} {K : Params → PySem.W.Frag} {CX : World → CXT} {sp : World → Sp} {x : Str}
    (hn : l.most = some n) (hn2 : n ≤ sizeLine) (hdf : d.params.defaults = []) (hr : Room k callerA)
    (hY : ∀ (w : World) (h : Heap), YP w h → (K w.params).In h)
    (F : ∀ (w : World) (mg : Str → Option Value) (fa : Addr) (h : Heap), (K w.params).In h → h.Ns mainGlobals mg → mg d.name = some (.ref fa) →
      ∃ fd : FuncData, (∀ (s : Shared) (u : Value), BindsTo s fd ⟨[u], []⟩ [(x, u)]) ∧
        ∀ base : Heap, (K w.params).In base → base.Ns mainGlobals mg → FnOk l.prog w (K w.params) mg base (CX w) k fa fd [x] (sp w))
    (hsp : ∀ (w : World) (H : Hp) (a : Addr) (ns : List Int), ns.length ≤ n → Only H → SqL (K w.params) H a (ns.map V.int) → sp w [.ref a] H (fun v _ => v = .bl true) fun _ _ _ => False)
    (hCX : ∀ (w : World) (H : Hp) (s : Shared) (e : Value) (s' : Shared), CX w [] H s (fun _ _ _ => False) e s' → False) :
    PySem.W.WalkO q loose XP YP l.row.toRowW d [] (fun f vs => PySem.call f vs) := by
  refine Att.attach_call hn hdf fun w s₀ s₁ mg mb fa o pm cd doc a vs ns G Y ho hd hcd hmg hobj hints hlen hg => ?_
  have KX := hY w _ Y
  obtain ⟨fd, hb, hF⟩ := F w mg fa _ KX G.T.g hmg
  exact law_call KX G.T.g G.T.b G.T.builtins G.T.nolimit hg hobj hints (Nat.le_trans hlen hn2) hr hF hb (fun H hO hS => hsp w H a ns hlen hO hS) fun H e s' => hCX w H s₁ e s'
/-- the same where the promise hangs on the written part alone: (sp := My.sp_law), no hole under a binder -/
theorem walk_ofK {l : PySem.W.OpenLaw} {n k : Nat} {q : Program} {loose : List Str} {XP : (Str → Option Value) → Heap → Prop} {YP : World → Heap → Prop} {d : DefRec} {K : Params → PySem.W.Frag} {CX : CXT} {sp : PySem.W.Frag → Sp} {x : Str}
    (hn : l.most = some n) (hn2 : n ≤ sizeLine) (hdf : d.params.defaults = []) (hr : Room k callerA)
    (hY : ∀ (w : World) (h : Heap), YP w h → (K w.params).In h)
    (F : ∀ (w : World) (mg : Str → Option Value) (fa : Addr) (h : Heap), (K w.params).In h → h.Ns mainGlobals mg → mg d.name = some (.ref fa) →
      ∃ fd : FuncData, (∀ (s : Shared) (u : Value), BindsTo s fd ⟨[u], []⟩ [(x, u)]) ∧
        ∀ base : Heap, (K w.params).In base → base.Ns mainGlobals mg → FnOk l.prog w (K w.params) mg base CX k fa fd [x] (sp (K w.params)))
    (hsp : ∀ (K : PySem.W.Frag) (H : Hp) (a : Addr) (ns : List Int), ns.length ≤ n → Only H → SqL K H a (ns.map V.int) → sp K [.ref a] H (fun v _ => v = .bl true) fun _ _ _ => False)
    (hCX : ∀ (H : Hp) (s : Shared) (e : Value) (s' : Shared), CX [] H s (fun _ _ _ => False) e s' → False) :
    PySem.W.WalkO q loose XP YP l.row.toRowW d [] (fun f vs => PySem.call f vs) :=
  walk_of (K := K) (CX := fun _ => CX) (sp := fun w => sp (K w.params)) hn hn2 hdf hr hY F (fun w H a ns h1 h2 h3 => hsp (K w.params) H a ns h1 h2 h3) fun _ H s e s' => hCX H s e s'
end L2

/- THE LAST THEOREM (shape; LID, My.* are yours):
   My.Adr: a structure of the addresses that your layer names (classes, functions); My.Txt K t: a structure (Prop) of the equations over K;
   My.txt_mk : {K} {implicit addresses ..} (e1 : nsIn K mainGlobals "law" = some (some (.ref f))) (e2 : K.lookup f = some ⟨oc, od, .func (fnOf "law" "law" params body scope dV kV doc pm an cdv ct), sl⟩) (e3 : codeIn K cdv "law" = true) .. : ∃ t, My.Txt K t

set_option maxRecDepth 100000 in
set_option maxHeartbeats 0 in
theorem PySem.Challenge.cw_LID_holds : PySem.Challenge.rw_LID.Holds := by
  w_on; o_law; k_head; (case hw => w_witness2)
  k_fill
  refine L2.walk_of (l := PySem.Challenge.rw_LID) (n := 63) (k := 40) (x := "script") (CX := fun w => ..) (sp := fun _ => My.sp_law) rfl (by decide) rfl ⟨rfl, by decide, by decide⟩ (fun w h Y => PySem.W.kIn_of Y) ?F ?S ?C
  case F =>
    intro w mg fa h KX G hmg
    have T : ∃ t, My.Txt (L2.KOf KX) t := by
      dsimp only [L2.KOf]                          -- K must stand as «<heap const> w.params» for k_is
      refine' My.txt_mk ?e1 ?e2 ?e3 ..
      (case e1 => PySem.W.k_is)                    -- in the order: a name -> its address -> its object -> its parts
      (case e2 => PySem.W.k_is)
      ..
    obtain ⟨t, T⟩ := T
    have e0 := hmg.symm.trans (PySem.W.mg_of KX G T.law)
    cases e0                                       -- fa is the law's own address
    exact ⟨_, fun s u => .of_eq rfl, fun base kb nb => My.law_fn T kb nb⟩     -- if «.of_eq rfl» comes too early: refine' ⟨_, ?b, fun base kb nb => My.law_fn T kb nb⟩; exact fun s u => .of_eq rfl
  case S => exact fun w H a ns hl hO hS => ..
  case C => exact ..
(the tactic k_is has no namespace: write k_is) -/

/-! SHORT WORDS over the layer: a def of the text, its body, what a loop and a test want. -/
namespace L2
open PySem PySem.Spec PyProof.Rows

/-! ### the text by places -/
/-- the j-th statement of a class's body -/
def inClass (s : Stmt) (j : Nat) : Stmt := match s with
  | .ClassDef _ _ _ body _ _ _ _ _ _ _ => body.getD j (.Pass ⟨0, 0, 0, 0⟩)
  | _ => .Pass ⟨0, 0, 0, 0⟩
def defArgs (s : Stmt) : Arguments := match s with
  | .FunctionDef _ a _ _ _ _ _ _ _ _ => a
  | _ => { posonlyargs := [], args := [], vararg := none, kwonlyargs := [], kw_defaults := [], kwarg := none, defaults := [] }
def defBody (s : Stmt) : List Stmt := match s with
  | .FunctionDef _ _ b _ _ _ _ _ _ _ => b
  | _ => []
def defScope (s : Stmt) : Scope := match s with
  | .FunctionDef _ _ _ _ _ _ sc _ _ _ => sc
  | _ => { kind := .function, names := [], isGenerator := false, isCoroutine := false }

/-! ### no exception leaves a def -/
abbrev CX0 : CXT := fun _ _ _ _ _ _ => False
abbrev E0 : XK := fun _ _ _ => False
theorem pass0 {X : Cx} : Passes CX0 X E0 := fun _ _ _ _ _ _ _ h => h.elim

/-! ### a def (or method) of the text as it stands behind the top -/
structure Fun (K : PySem.W.Frag) (x qual : Str) (st : Stmt) (f : Addr) (fd : FuncData) : Prop where
  ex : ∃ (oc : Value) (od : Option Addr) (kV doc pm : Value) (an : Option Addr) (cdv ct : Value) (osl : Array (Option Value)),
    fd = PySem.W.fnOf x qual (defArgs st) (defBody st) (defScope st) .none kV doc pm an cdv ct ∧ K.lookup f = some ⟨oc, od, .func fd, osl⟩ ∧ PySem.W.codeIn K cdv qual = true
  kp : PySem.W.keepIn K (.ref f) = true
section
variable {P : Program} {w : World} {K : PySem.W.Frag} {mg : Str → Option Value} {base : Heap}
/-- THE RULE for a def: its body as a term of rules, and the reading of that term -/
theorem Fun.ok {x qual : Str} {st : Stmt} {f : Addr} {fd : FuncData} {N ps : List Str} {k : Nat} {sp : Sp} (F : Fun K x qual st f fd) (S : FnScope N ps (defScope st)) (len : ∀ vs H Q E, sp vs H Q E → vs.length = ps.length)
    (hbody : ∀ (cdv : Value) (A : Around) (outer : List Env) (s : Shared) (H : Hp) (vs : List V) (Q : VK) (E : XK), Room k (A.deeper (envOfC qual (defScope st) s.heap.objs.size f cdv)) → sp vs H Q E →
      ∃ t, PSs (cxOf CX0 P w K mg base N qual (defScope st) f cdv A outer s H E).nox (defBody st) t ∧ t { nx := fun _ H' => Q .non H', rt := Q } (start N vs) H) : FnOk P w K mg base CX0 (k + 1) f fd ps sp := by
  obtain ⟨oc, od, kV, doc, pm, an, cdv, ct, osl, rfl, lk, hcd⟩ := F.ex
  refine fn_of lk hcd S len fun A outer s H vs Q E hr hsp => ?_
  obtain ⟨t, h, q⟩ := hbody cdv A outer s H vs Q E hr hsp
  exact ⟨t, h.nox, q⟩
/-- how its arguments bind (no defaults): h is «fun _ _ _ _ _ _ us hl => match us, hl with | [_, _], _ => rfl», one _ a parameter -/
theorem Fun.binds {x qual : Str} {st : Stmt} {f : Addr} {fd : FuncData} {ps : List Str} (F : Fun K x qual st f fd)
    (h : ∀ (kV doc pm : Value) (an : Option Addr) (cdv ct : Value) (us : List Value), us.length = ps.length → bindArgs (PySem.W.fnOf x qual (defArgs st) (defBody st) (defScope st) .none kV doc pm an cdv ct) ⟨us, []⟩ = pure (ps.zip us)) : Binds K fd ps [] := by
  obtain ⟨oc, od, kV, doc, pm, an, cdv, ct, osl, rfl, lk, hcd⟩ := F.ex
  exact .all (h kV doc pm an cdv ct)
theorem fun_mk {x qual : Str} {st : Stmt} {f : Addr} {oc : Value} {od an : Option Addr} {osl : Array (Option Value)} {kV doc pm cdv ct : Value} (l : K.lookup f = some ⟨oc, od, .func (PySem.W.fnOf x qual (defArgs st) (defBody st) (defScope st) .none kV doc pm an cdv ct), osl⟩)
    (c : PySem.W.codeIn K cdv qual = true) (k : PySem.W.keepIn K (.ref f) = true) : Fun K x qual st f (PySem.W.fnOf x qual (defArgs st) (defBody st) (defScope st) .none kV doc pm an cdv ct) := ⟨⟨oc, od, kV, doc, pm, an, cdv, ct, osl, rfl, l, c⟩, k⟩
end
theorem hu_of {A : Around} {k : Nat} (hr : Room k A) : A.units + 1 < cLine := Nat.lt_of_le_of_lt (Nat.add_le_add_left (by decide : 1 ≤ 64) _) hr.units
theorem small1000 {n : Nat} (h : n ≤ 1000) : n < sizeLine := Nat.lt_of_le_of_lt h (by decide)

/-! ### expressions in short: the name that stands in the i-th slot -/
section
variable {X : Cx}
theorem pv (i : Nat) {x : Str} {pos : Pos} (hN : X.N[i]? = some x := by rfl) (hv : Vis X.env.scope x := by first | exact Or.inl rfl | exact Or.inr (Or.inl rfl) | exact Or.inr (Or.inr rfl)) (hd : (x == ("__debug__" : Str)) = false := by decide)
    (hcd : (x == ("__classdict__" : Str)) = false := by decide) : PE X (.Name x pos) (tVar i) := pe_var hN hv hd hcd
/-- len of a dict -/
theorem call_lenD : CallR X (.builtin "len") (fun xs H Q => ∃ a kvs, xs = [V.ref a] ∧ H a = some (.dK kvs) ∧ Q (.int kvs.length) H) := by
  intro pins s σ H xs us Q I r h
  obtain ⟨a, kvs, rfl, ha, q⟩ := h
  obtain ⟨u, rfl, ru⟩ := vals1 r
  cases ru
  exact d_len I (.inl ha) fun t s' I' => ⟨.int kvs.length, H, I', ⟨t, rfl⟩, q⟩
end

/-! ### tests -/
theorem iteF {A B : Prop} (h : B) : if false = true then A else B := by
  rw [if_neg Bool.false_ne_true]
  exact h
theorem iteT {A B : Prop} (h : A) : if true = true then A else B := by
  rw [if_pos rfl]
  exact h
theorem ite2 {c A B : Prop} [Decidable c] (h1 : c → A) (h2 : ¬ c → B) : if c then A else B := by
  by_cases h : c
  · rw [if_pos h]
    exact h1 h
  · rw [if_neg h]
    exact h2 h
theorem iteNS {c A B : Prop} [Decidable c] (hc : c) (h : B) : if (!decide c) = true then A else B := by
  rw [decide_eq_true hc]
  exact iteF h

/-! ### heaps -/
/-- all that was tracked is as it was -/
def Same (H H' : Hp) : Prop := ∀ b o, H b = some o → H' b = some o
theorem Same.refl (H : Hp) : Same H H := fun _ _ h => h
theorem Same.trans {H H1 H2 : Hp} (a : Same H H1) (b : Same H1 H2) : Same H H2 := fun c o h => b c o (a c o h)
theorem Same.free {H H' : Hp} (e : Same H H') {l : Addr} (h : H' l = Option.none) : H l = Option.none := by
  cases q : H l with
  | none => rfl
  | some o =>
    rw [e l o q] at h
    cases h
theorem Same.seq {K : PySem.W.Frag} {H H' : Hp} {a : Addr} {xs : List V} (e : Same H H') (h : SqL K H a xs) : SqL K H' a xs := by
  rcases h with (h | ⟨o, h⟩) | h
  · exact .inl (.inl (e _ _ h))
  · exact .inl (.inr ⟨o, e _ _ h⟩)
  · exact .inr h

/-! ### a dict's pairs: keys that differ -/
section
variable {κ : Type} [DecidableEq κ]
theorem valV_not {kvs : List (κ × V)} {k : κ} (h : valV kvs k = none) : ¬ k ∈ kvs.map (·.1) := by
  intro m
  obtain ⟨p, hp, e⟩ := List.mem_map.mp m
  have q : (kvs.any fun kv => decide (kv.1 = k)) = true := List.any_eq_true.mpr ⟨p, hp, decide_eq_true e⟩
  rw [valV_any, h] at q
  exact absurd q (by simp)
theorem valV_in {kvs : List (κ × V)} {k : κ} {v : V} (h : valV kvs k = some v) : k ∈ kvs.map (·.1) := by
  have q : (kvs.any fun kv => decide (kv.1 = k)) = true := by
    rw [valV_any, h]
    all_goals rfl
  obtain ⟨p, hp, e⟩ := List.any_eq_true.mp q
  exact List.mem_map.mpr ⟨p, hp, of_decide_eq_true e⟩
theorem nd_snoc : ∀ {l : List κ} {k : κ}, l.Nodup → ¬ k ∈ l → (l ++ [k]).Nodup
  | [], k, _, _ => by simp
  | a :: r, k, h, hk => by
    obtain ⟨h1, h2⟩ := List.nodup_cons.mp h
    show (a :: (r ++ [k])).Nodup
    refine List.nodup_cons.mpr ⟨fun m => ?_, nd_snoc h2 fun m => hk (List.mem_cons.mpr (Or.inr m))⟩
    rcases List.mem_append.mp m with q | q
    · exact h1 q
    · exact hk (List.mem_cons.mpr (Or.inl (List.mem_singleton.mp q).symm))
theorem nd_putK {kvs : List (κ × V)} {k : κ} (v : V) (hn : (kvs.map (·.1)).Nodup) (h : valV kvs k = none) : ((putK kvs k v).map (·.1)).Nodup := by
  rw [putK_new v h, List.map_append]
  exact nd_snoc hn (valV_not h)
theorem dropK_pos {p : κ × V} {r : List (κ × V)} {k : κ} (e : p.1 = k) : dropK (p :: r) k = dropK r k := by
  unfold dropK
  rw [List.filter_cons, if_neg (by simp [e])]
theorem dropK_neg {p : κ × V} {r : List (κ × V)} {k : κ} (e : ¬ p.1 = k) : dropK (p :: r) k = p :: dropK r k := by
  unfold dropK
  rw [List.filter_cons, if_pos (by simp [e])]
theorem dropK_no : ∀ {kvs : List (κ × V)} {k : κ}, ¬ k ∈ kvs.map (·.1) → dropK kvs k = kvs
  | [], _, _ => rfl
  | p :: r, k, h => by
    have h' : ¬ k ∈ r.map (·.1) := fun m => by
      obtain ⟨q, hq, e⟩ := List.mem_map.mp m
      exact h (List.mem_map.mpr ⟨q, List.mem_cons.mpr (Or.inr hq), e⟩)
    rw [dropK_neg fun e => h (List.mem_map.mpr ⟨p, List.mem_cons.mpr (Or.inl rfl), e⟩), dropK_no h']
theorem dropK_mem {kvs : List (κ × V)} {k : κ} {p : κ × V} (h : p ∈ dropK kvs k) : p ∈ kvs := (List.mem_filter.mp h).1
theorem nd_dropK : ∀ {kvs : List (κ × V)} {k : κ}, (kvs.map (·.1)).Nodup → ((dropK kvs k).map (·.1)).Nodup
  | [], _, _ => List.nodup_nil
  | p :: r, k, h => by
    have h : (p.1 :: r.map (·.1)).Nodup := h
    obtain ⟨h1, h2⟩ := List.nodup_cons.mp h
    by_cases e : p.1 = k
    · rw [dropK_pos e]
      exact nd_dropK h2
    · rw [dropK_neg e]
      show (p.1 :: (dropK r k).map (·.1)).Nodup
      refine List.nodup_cons.mpr ⟨fun m => h1 ?_, nd_dropK h2⟩
      obtain ⟨q, hq, eq⟩ := List.mem_map.mp m
      exact List.mem_map.mpr ⟨q, dropK_mem hq, eq⟩
theorem dropK_len : ∀ {kvs : List (κ × V)} {k : κ}, (kvs.map (·.1)).Nodup → k ∈ kvs.map (·.1) → (dropK kvs k).length + 1 = kvs.length
  | [], _, _, m => by simp at m
  | p :: r, k, h, m => by
    have h : (p.1 :: r.map (·.1)).Nodup := h
    have m : k = p.1 ∨ k ∈ r.map (·.1) := List.mem_cons.mp m
    obtain ⟨h1, h2⟩ := List.nodup_cons.mp h
    by_cases e : p.1 = k
    · subst e
      rw [dropK_pos rfl, dropK_no h1]
      all_goals rfl
    · have m' : k ∈ r.map (·.1) := m.resolve_left fun z => e z.symm
      have q := dropK_len h2 m'
      rw [dropK_neg e, List.length_cons, List.length_cons]
      omega
end
end L2


namespace L2
open PySem PySem.Spec PyProof.Rows

/-! ### isinstance -/
/-- the builtin types -/
inductive Ty where
  | int | bool | str | non | lst | tup | dct
  deriving DecidableEq
def Ty.name : Ty → String
  | .int => "int" | .bool => "bool" | .str => "str" | .non => "NoneType" | .lst => "list" | .tup => "tuple" | .dct => "dict"
/-- the builtin type of a value -/
inductive TyN (K : PySem.W.Frag) (H : Hp) : V → Ty → Prop where
  | int (i : Int) : TyN K H (.int i) .int
  | bl (b : Bool) : TyN K H (.bl b) .bool
  | str (x : Str) : TyN K H (.str x) .str
  | non : TyN K H .non .non
  | lst {a : Addr} {xs : List V} (h : SqL K H a xs) : TyN K H (.ref a) .lst
  | tup {a : Addr} {xs : List V} (h : SqT K H a xs) : TyN K H (.ref a) .tup
  | dk {a : Addr} {kvs : List (Key × V)} (h : H a = some (.dK kvs)) : TyN K H (.ref a) .dct
def isiB : Ty → Ty → Bool
  | .int, .int => true | .bool, .bool => true | .bool, .int => true | .str, .str => true | .non, .non => true | .lst, .lst => true | .tup, .tup => true | .dct, .dct => true | _, _ => false
def rIsi (K : PySem.W.Frag) : List V → Hp → VK → Prop := fun vs H Q => ∃ x T T', vs = [x, .ty (Ty.name T)] ∧ TyN K H x T' ∧ Q (.bl (isiB T' T)) H
theorem call_isi {X : Cx} : CallR X (.builtin "isinstance") (rIsi X.K) := by
  intro pins s σ H vs us Q I r h
  obtain ⟨x, T, T', rfl, ty, q⟩ := h
  obtain ⟨u, u2, rfl, ru, ru2⟩ := vals2 r
  have e2 : u2 = Value.type (Ty.name T) := ru2
  subst e2
  cases ty with
  | int i =>
    obtain ⟨t, rfl⟩ := ru
    cases T with
    | int => exact IsiPair.int_int ⟨.bl true, H, I, rfl, q⟩
    | bool => exact IsiPair.int_bool ⟨.bl false, H, I.tok _, rfl, q⟩
    | str => exact IsiPair.int_str ⟨.bl false, H, I.tok _, rfl, q⟩
    | non => exact IsiPair.int_NoneType ⟨.bl false, H, I.tok _, rfl, q⟩
    | lst => exact IsiPair.int_list ⟨.bl false, H, I.tok _, rfl, q⟩
    | tup => exact IsiPair.int_tuple ⟨.bl false, H, I.tok _, rfl, q⟩
    | dct => exact IsiPair.int_dict ⟨.bl false, H, I.tok _, rfl, q⟩
  | bl b =>
    obtain rfl : u = Value.bool b := ru
    cases T with
    | int => exact IsiPair.bool_int ⟨.bl true, H, I, rfl, q⟩
    | bool => exact IsiPair.bool_bool ⟨.bl true, H, I, rfl, q⟩
    | str => exact IsiPair.bool_str ⟨.bl false, H, I.tok _, rfl, q⟩
    | non => exact IsiPair.bool_NoneType ⟨.bl false, H, I.tok _, rfl, q⟩
    | lst => exact IsiPair.bool_list ⟨.bl false, H, I.tok _, rfl, q⟩
    | tup => exact IsiPair.bool_tuple ⟨.bl false, H, I.tok _, rfl, q⟩
    | dct => exact IsiPair.bool_dict ⟨.bl false, H, I.tok _, rfl, q⟩
  | str y =>
    obtain ⟨t, rfl⟩ := ru
    cases T with
    | int => exact IsiPair.str_int ⟨.bl false, H, I.tok _, rfl, q⟩
    | bool => exact IsiPair.str_bool ⟨.bl false, H, I.tok _, rfl, q⟩
    | str => exact IsiPair.str_str ⟨.bl true, H, I, rfl, q⟩
    | non => exact IsiPair.str_NoneType ⟨.bl false, H, I.tok _, rfl, q⟩
    | lst => exact IsiPair.str_list ⟨.bl false, H, I.tok _, rfl, q⟩
    | tup => exact IsiPair.str_tuple ⟨.bl false, H, I.tok _, rfl, q⟩
    | dct => exact IsiPair.str_dict ⟨.bl false, H, I.tok _, rfl, q⟩
  | non =>
    obtain rfl : u = Value.none := ru
    cases T with
    | int => exact IsiPair.NoneType_int ⟨.bl false, H, I.tok _, rfl, q⟩
    | bool => exact IsiPair.NoneType_bool ⟨.bl false, H, I.tok _, rfl, q⟩
    | str => exact IsiPair.NoneType_str ⟨.bl false, H, I.tok _, rfl, q⟩
    | non => exact IsiPair.NoneType_NoneType ⟨.bl true, H, I, rfl, q⟩
    | lst => exact IsiPair.NoneType_list ⟨.bl false, H, I.tok _, rfl, q⟩
    | tup => exact IsiPair.NoneType_tuple ⟨.bl false, H, I.tok _, rfl, q⟩
    | dct => exact IsiPair.NoneType_dict ⟨.bl false, H, I.tok _, rfl, q⟩
  | lst hq =>
    obtain rfl : u = Value.ref _ := ru
    obtain ⟨its, rv, ⟨o, n, e, hc, hd, hs⟩, hz⟩ := I.list hq
    cases T with
    | int => exact IsiPair.list_int e hc ⟨.bl false, H, I.tok _, rfl, q⟩
    | bool => exact IsiPair.list_bool e hc ⟨.bl false, H, I.tok _, rfl, q⟩
    | str => exact IsiPair.list_str e hc ⟨.bl false, H, I.tok _, rfl, q⟩
    | non => exact IsiPair.list_NoneType e hc ⟨.bl false, H, I.tok _, rfl, q⟩
    | lst => exact IsiPair.list_list e hc ⟨.bl true, H, I, rfl, q⟩
    | tup => exact IsiPair.list_tuple e hc ⟨.bl false, H, I.tok _, rfl, q⟩
    | dct => exact IsiPair.list_dict e hc ⟨.bl false, H, I.tok _, rfl, q⟩
  | tup hq =>
    obtain rfl : u = Value.ref _ := ru
    obtain ⟨its, rv, ⟨o, e, hc, n, hs⟩, hz⟩ := I.tuple hq
    cases T with
    | int => exact IsiPair.tuple_int e hc ⟨.bl false, H, I.tok _, rfl, q⟩
    | bool => exact IsiPair.tuple_bool e hc ⟨.bl false, H, I.tok _, rfl, q⟩
    | str => exact IsiPair.tuple_str e hc ⟨.bl false, H, I.tok _, rfl, q⟩
    | non => exact IsiPair.tuple_NoneType e hc ⟨.bl false, H, I.tok _, rfl, q⟩
    | lst => exact IsiPair.tuple_list e hc ⟨.bl false, H, I.tok _, rfl, q⟩
    | tup => exact IsiPair.tuple_tuple e hc ⟨.bl true, H, I, rfl, q⟩
    | dct => exact IsiPair.tuple_dict e hc ⟨.bl false, H, I.tok _, rfl, q⟩
  | dk hq =>
    obtain rfl : u = Value.ref _ := ru
    obtain ⟨hz, hm, vs, rel, o, es, ep, e, ex, hr⟩ := I.hok _ _ hq
    have hc := ex.1
    cases T with
    | int => exact IsiPair.dict_int e hc ⟨.bl false, H, I.tok _, rfl, q⟩
    | bool => exact IsiPair.dict_bool e hc ⟨.bl false, H, I.tok _, rfl, q⟩
    | str => exact IsiPair.dict_str e hc ⟨.bl false, H, I.tok _, rfl, q⟩
    | non => exact IsiPair.dict_NoneType e hc ⟨.bl false, H, I.tok _, rfl, q⟩
    | lst => exact IsiPair.dict_list e hc ⟨.bl false, H, I.tok _, rfl, q⟩
    | tup => exact IsiPair.dict_tuple e hc ⟨.bl false, H, I.tok _, rfl, q⟩
    | dct => exact IsiPair.dict_dict e hc ⟨.bl true, H, I, rfl, q⟩

/-! ### all, of a list of truths -/
theorem truth_bl {P : Program} {w : World} {A : Around} {bs : List Bool} {its : List Value} (r : Vals (bs.map V.bl) its) : TruthOf P w A (fun i v => its.toArray[i]? = some v) (fun i => bs.getD i false) := by
  intro i v s Q E hv hq
  have hv' : its[i]? = some v := by simpa using hv
  have hl := r.length
  rw [List.length_map] at hl
  have hi : i < its.length := (List.getElem?_eq_some_iff.mp hv').1
  have hb : (bs.map V.bl)[i]? = some (V.bl (bs.getD i false)) := by
    rw [List.getElem?_map, List.getD_eq_getElem?_getD]
    have : bs[i]? = some bs[i] := List.getElem?_eq_getElem (by omega)
    rw [this]; rfl
  obtain ⟨u, hu, ru⟩ := r.get hb
  rw [hv'] at hu
  cases hu
  have e : v = Value.bool (bs.getD i false) := ru
  subst e
  exact wpAny_truthy_bool hq
theorem range_all {bs : List Bool} : (List.range bs.length).all (fun i => bs.getD i false) = bs.all id := by
  rw [Bool.eq_iff_iff, List.all_eq_true, List.all_eq_true]
  constructor
  · intro h b hb
    obtain ⟨i, hi, e⟩ := List.mem_iff_getElem.mp hb
    have := h i (List.mem_range.mpr hi)
    rw [List.getD_eq_getElem?_getD, List.getElem?_eq_getElem hi] at this
    rw [← e]; exact this
  · intro h i hi
    have hi' := List.mem_range.mp hi
    rw [List.getD_eq_getElem?_getD, List.getElem?_eq_getElem hi']
    exact h _ (List.getElem_mem hi')
def rAll (K : PySem.W.Frag) : List V → Hp → VK → Prop := fun vs H Q => ∃ (a : Addr) (bs : List Bool), vs = [.ref a] ∧ SqL K H a (bs.map V.bl) ∧ Q (.bl (bs.all id)) H
theorem call_allL {X : Cx} (hc : X.calm = true) : CallR X (.builtin "all") (rAll X.K) := by
  intro pins s σ H vs us Q I r h
  obtain ⟨a, bs, rfl, hq, q⟩ := h
  obtain ⟨u, rfl, ru⟩ := vals1 r
  obtain rfl : u = Value.ref a := ru
  obtain ⟨its, rv, p, hz⟩ := I.list hq
  have hl := rv.length
  rw [List.length_map] at hl
  have hlt : a < s.heap.objs.size := by obtain ⟨_, e, _⟩ := p.isList; exact Heap.lt_size e
  refine call_all_walk (wpAny_pyIter_list p.isList ?_)
  refine ⟨s.heap.objs.size, [s.heap.objs.size, a], [s.heap.objs.size], its.toArray.size, (fun i v => its.toArray[i]? = some v), (fun i h => h.IsListIter s.heap.objs.size a i ∧ h.IsList a its.toArray), (fun i => bs.getD i false), rfl, Walks.list (A := X.A.in1) (I.ok.hd hc) s.heap.objs.size a (Nat.ne_of_lt hlt) its.toArray, ⟨⟨_, Heap.get?_push_size _ rfl, rfl, rfl⟩, p.isList.push _⟩, truth_bl rv, fun h' tk hk => ?_⟩
  refine ⟨.bl (bs.all id), H, I.kept fun b o e => hk b o (fun z => ?_) (Heap.get?_push_of_some _ e), ?_, q⟩
  · have z' : b = s.heap.objs.size := by simpa using z
    exact absurd (Heap.lt_size e) (by rw [z']; exact Nat.lt_irrefl _)
  · have e : its.toArray.size = bs.length := by rw [List.size_toArray, hl]
    show Value.bool _ = Value.bool _
    rw [e, range_all]

/-! ### texts: <=, join, signs -/
def rS (g : Str → Str → Bool) : R2 := fun x y H Q => ∃ a b, x = .str a ∧ y = .str b ∧ Q (.bl (g a b)) H
theorem op_leS {X : Cx} : OpR X (compareOp .LtE) (rS fun a b => !decide (b.cps.toList < a.cps.toList)) := by
  intro pins s σ H x y v u Q I rx ry h
  obtain ⟨a, b, rfl, rfl, q⟩ := h
  obtain ⟨t, rfl⟩ := rx
  obtain ⟨t', rfl⟩ := ry
  exact P.le_str ⟨.bl _, H, I, rfl, q⟩
theorem op_ltS {X : Cx} : OpR X (compareOp .Lt) (rS fun a b => decide (a.cps.toList < b.cps.toList)) := by
  intro pins s σ H x y v u Q I rx ry h
  obtain ⟨a, b, rfl, rfl, q⟩ := h
  obtain ⟨t, rfl⟩ := rx
  obtain ⟨t', rfl⟩ := ry
  exact P.lt_str ⟨.bl _, H, I, rfl, q⟩
theorem vals_strs : ∀ {xs : List Str} {its : List Value}, Vals (xs.map V.str) its → ∃ l : List (Str × Tok), its = strValues l ∧ l.map (·.1) = xs
  | [], _, .nil => ⟨[], rfl, rfl⟩
  | x :: xs, _, .cons r t => by
    obtain ⟨tk, rfl⟩ := r
    obtain ⟨l, rfl, rfl⟩ := vals_strs t
    exact ⟨(x, tk) :: l, rfl, rfl⟩
def rJoin (K : PySem.W.Frag) : V → List V → Hp → VK → Prop := fun x vs H Q => ∃ sep a xs, x = .str sep ∧ vs = [.ref a] ∧ SqL K H a (xs.map V.str) ∧ JoinOk sep xs = true ∧ Q (.str (Txt.join sep xs)) H
theorem mt_join {X : Cx} : MtR X "str.join" (rJoin X.K) := by
  intro pins s σ H x vs v us Q I rx rv h
  obtain ⟨sep, a, xs, rfl, rfl, hq, hok, q⟩ := h
  obtain ⟨t, rfl⟩ := rx
  obtain ⟨u, rfl, ru⟩ := vals1 rv
  obtain rfl : u = Value.ref a := ru
  obtain ⟨its, r, p, hz⟩ := I.list hq
  obtain ⟨l, rfl, hl⟩ := vals_strs r
  exact SC.join p.isList hl hok fun t' k => ⟨.str _, H, I.tok k, ⟨t', rfl⟩, q⟩
/-- the signs of a text -/
def Its (x : Str) : It := ⟨fun i _ => i < x.cps.size, fun i H v H' => H' = H ∧ ∃ c, x.cps[i]? = some c ∧ v = .str ⟨#[c]⟩, fun i _ => i = x.cps.size⟩
theorem turn_str {P : Program} {w : World} {K : PySem.W.Frag} {tg : Expr} {x : Str} {t : Tok} {ty : String} (it : Addr) (hn : ["enumerate", "zip", "dict_itemiterator", "dict_reverseitemiterator", "odict_iterator", "itertools.zip_longest", "itertools.pairwise"].contains ty = false)
    (W : ∀ A : Around, A.handled = none → Walks P w A it [it] [it] x.cps.size (SignAt x) (fun i h => h.IsStrIter it ty x t i))
    (hself : ∀ (A : Around) (i : Nat) (s : Shared) (Q : Value → Shared → Prop) (E : Value → Shared → Prop), s.heap.IsStrIter it ty x t i → Q (.ref it) s → wpAny (model P w) A (pyIter (.ref it)) Q E s) : Turn P w K tg (Its x) [it] it (fun i h => h.IsStrIter it ty x t i) where
  mem := by simp
  obj := fun i h st b hb => by
    have e : b = it := by simpa using hb
    subst e
    obtain ⟨o, e, c, d⟩ := st
    exact ⟨o, e, fun v z => by rw [d] at z; cases z⟩
  keep := fun i h h' st k => by
    obtain ⟨o, e, r⟩ := st
    exact ⟨o, k it (by simp) o e, r⟩
  item := by
    intro X hP hw hK hc i pins s σ H E I hf st hg
    subst hP hw hK
    obtain ⟨f0, f1, f2, f3, f4, f5⟩ := hf it (by simp)
    refine (W X.A (I.ok.hd hc)).item i s _ _ hg st fun v h' tk hv st' kk => ?_
    obtain ⟨c, u, hc', rfl⟩ := hv
    have I1 : Inv X pins σ H { s with heap := h', toks := tk } := I.turned (fun b o hb e => kk b o (by simpa using hb) e) f0 f1 f3 f4 f5
    obtain ⟨o, e, c1, d⟩ := id st'
    exact ⟨_, rfl, go_of (s := { s with heap := h', toks := tk }) e c1 d hn ⟨.str ⟨#[c]⟩, H, I1, ⟨u, rfl⟩, ⟨rfl, c, hc', rfl⟩, st', fun b hb => (hf b hb).1⟩⟩
  done := by
    intro X hP hw hK hc i pins s σ H E I hf st hg
    subst hP hw hK
    obtain ⟨f0, f1, f2, f3, f4, f5⟩ := hf it (by simp)
    have hg' : i = x.cps.size := hg
    subst hg'
    exact (W X.A (I.ok.hd hc)).done s _ _ st fun h' tk kk => ⟨rfl, I.turned (fun b o hb e => kk b o (by simpa using hb) e) f0 f1 f3 f4 f5⟩
  self := hself
def iStr (te : TE) : TI := fun σ H R => te σ H fun x H1 => ∃ y, x = .str y ∧ R (Its y) H1
theorem pi_str {X : Cx} {tg e : Expr} {te : TE} (he : PE X e te) : PI X tg e (iStr te) := by
  intro pins s σ H R I h
  refine thn (he pins s σ H _ I h) fun v s1 ⟨x, H1, I1, r1, q1⟩ => ?_
  obtain ⟨y, rfl, q⟩ := q1
  obtain ⟨t, rfl⟩ := r1
  have fin : ∀ b ∈ [s1.heap.objs.size], FpOk X pins H1 b := fun b hb => by
    have e : b = s1.heap.objs.size := by simpa using hb
    subst e
    exact I1.fpOk (Nat.le_refl _) (I1.hok.fresh (Nat.le_refl _))
  cases ha : y.cps.all (· < 128)
  · refine wpAny_pyIter_wide ha ⟨s1.heap.objs.size, [s1.heap.objs.size], _, _, H1, rfl, I1.kept (t' := s1.toks) fun b o e => Heap.get?_push_of_some _ e, turn_str (ty := "str_iterator") (t := t) _ (by decide) (fun A hA => Walks.strWide hA _ y t) (fun A i s Q E st hQ => wpAny_pyIter_striter_wide st hQ), ⟨_, Heap.get?_push_size _ rfl, rfl, rfl⟩, fin, q⟩
  · refine wpAny_pyIter_ascii ha ⟨s1.heap.objs.size, [s1.heap.objs.size], _, _, H1, rfl, I1.kept (t' := s1.toks) fun b o e => Heap.get?_push_of_some _ e, turn_str (ty := "str_ascii_iterator") (t := t) _ (by decide) (fun A hA => Walks.strAscii hA _ y t) (fun A i s Q E st hQ => wpAny_pyIter_striter_ascii st hQ), ⟨_, Heap.get?_push_size _ rfl, rfl, rfl⟩, fin, q⟩

/-! ### a thing of ours that the heap holds comes to be tracked -/
theorem Inv.track {X : Cx} {pins : List (Addr × Obj)} {σ : St} {H : Hp} {s : Shared} {T : Addr} {o : HO} (I : Inv X pins σ H s) (hn : FpOk X pins H T) (hT : ∃ ob, s.heap.get? T = some ob) (new : ObjOk X.prog X.w (upd H T o) s.heap T o) : Inv X pins σ (upd H T o) s := by
  obtain ⟨f0, f1, f2, f3, f4, f5⟩ := hn
  refine I.step (g' := s.gens) (t' := s.toks) (d' := s.drawn) (h' := s.heap) (ch := [T]) (fun b hb => ?_) (fun b ob _ _ _ e _ => e) (fun b ob _ _ _ e _ => ⟨ob.slots, e⟩) (fun b ob hb e n => ?_) (fun b ob _ e => ⟨ob, e⟩) (fun b xs e => ?_) (fun b ob u e => ?_) (fun b ps e => ?_) (fun m hm => hm) (fun b u e => ?_) I.bare
  · have e : b = T := by simpa using hb
    subst e
    exact ⟨f3, f1, f4, f5⟩
  · rw [upd_ne (by simpa using hb)]; exact n
  · rw [upd_ne (ne_of_none e f0)]; exact e
  · rw [upd_ne (ne_of_none e f0)]; exact e
  · exact ⟨#[], by rw [upd_ne (ne_of_none e f0), e]; simp⟩
  · by_cases hb : b = T
    · subst hb; rw [upd_same] at e; cases e; exact new
    · rw [upd_ne hb] at e
      exact (I.hok b u e).stay (fun c v _ q => q) (fun c q => by rw [upd_ne (ne_of_none q f0)]; exact q) fun c xs q => by rw [upd_ne (ne_of_none q f0)]; exact q

/-! ### zip of two lists, with a pair of targets -/
def Itz (K : PySem.W.Frag) (l1 l2 : Addr) : It :=
  ⟨fun i H => ∃ xs ys x y, SqL K H l1 xs ∧ SqL K H l2 ys ∧ xs[i]? = some x ∧ ys[i]? = some y,
   fun i H v H' => ∃ T x y, H T = none ∧ v = .ref T ∧ H' = upd H T (.tup [x, y]) ∧ (∀ xs, SqL K H l1 xs → xs[i]? = some x) ∧ ∀ ys, SqL K H l2 ys → ys[i]? = some y,
   fun i H => ∃ xs ys, SqL K H l1 xs ∧ SqL K H l2 ys ∧ (xs.length ≤ i ∨ ys.length ≤ i)⟩
def ZipSt (z TI TO i1 i2 l1 l2 : Addr) (i : Nat) (h : Heap) : Prop := IsZip h z TI TO .none ∧ IsPair h TI (.ref i1) (.ref i2) ∧ (∃ a b, IsPair h TO a b) ∧ h.IsListIter i1 l1 i ∧ h.IsListIter i2 l2 i
theorem turn_zip {P : Program} {w : World} {K : PySem.W.Frag} {es : List Expr} {k : Nat} {pos : Pos} {z TI TO i1 i2 l1 l2 : Addr} (D : ZipApart z TI TO i1 i2 l1 l2) :
    Turn P w K (.Tuple es k pos) (Itz K l1 l2) [z, TI, TO, i1, i2] z (ZipSt z TI TO i1 i2 l1 l2) where
  mem := by simp
  obj := fun i h st b hb => by
    obtain ⟨hz, hTI, ⟨a, c, hTO⟩, ⟨o1, e1, c1, d1⟩, ⟨o2, e2, c2, d2⟩⟩ := st
    simp at hb
    rcases hb with rfl | rfl | rfl | rfl | rfl
    · exact ⟨_, hz, fun v q => by cases q⟩
    · exact ⟨_, hTI, fun v q => by cases q⟩
    · exact ⟨_, hTO, fun v q => by cases q⟩
    · exact ⟨_, e1, fun v q => by rw [d1] at q; cases q⟩
    · exact ⟨_, e2, fun v q => by rw [d2] at q; cases q⟩
  keep := fun i h h' st kk => by
    obtain ⟨hz, hTI, ⟨a, c, hTO⟩, h1, h2⟩ := st
    exact ⟨kk z (by simp) _ hz, kk TI (by simp) _ hTI, ⟨a, c, kk TO (by simp) _ hTO⟩, h1.at fun o e => kk i1 (by simp) o e, h2.at fun o e => kk i2 (by simp) o e⟩
  item := by
    intro X hP hw hK hc i pins s σ H E I hf st hg
    subst hP hw hK
    obtain ⟨xs, ys, x, y, hq1, hq2, hx, hy⟩ := hg
    obtain ⟨hz, hTI, ⟨a, c, hTO⟩, h1, h2⟩ := st
    obtain ⟨its1, rv1, p1, hz1⟩ := I.list hq1
    obtain ⟨its2, rv2, p2, hz2⟩ := I.list hq2
    obtain ⟨u1, hu1, ru1⟩ := rv1.get hx
    obtain ⟨u2, hu2, ru2⟩ := rv2.get hy
    refine wpAny_pyNext_zip_item D hz hTI hTO h1 h2 p1.isList p2.isList (x := u1) (y := u2) (by simpa using hu1) (by simpa using hu2) fun h' a1 a2 a3 a4 a5 a6 hk => ?_
    refine ⟨_, rfl, wpAny_letOwnedTupleGo_zip (s := { s with heap := h' }) a1 fun h'' hz'' hs'' => ?_⟩
    have fz := hf z (by simp)
    have fTO := hf TO (by simp)
    have f1 := hf i1 (by simp)
    have f2 := hf i2 (by simp)
    have trk : ∀ b u, H b = some u → b ≠ z ∧ b ≠ TO ∧ b ≠ i1 ∧ b ≠ i2 := fun b u e => ⟨ne_of_none e fz.1, ne_of_none e fTO.1, ne_of_none e f1.1, ne_of_none e f2.1⟩
    have keep : ∀ b o, b ≠ z → b ≠ TO → b ≠ i1 → b ≠ i2 → s.heap.get? b = some o → h''.get? b = some o := fun b o n1 n2 n3 n4 e => (hs''.2 b n1).trans (hk b o n1 n2 n3 n4 e)
    have nch : ∀ {b : Addr}, b ∉ [z, TO, i1, i2] → b ≠ z ∧ b ≠ TO ∧ b ≠ i1 ∧ b ≠ i2 := fun {b} hb => by simpa using hb
    have I1 : Inv X pins σ H { s with heap := h'' } := by
      refine I.step (g' := s.gens) (t' := s.toks) (d' := s.drawn) (h' := h'') (ch := [z, TO, i1, i2]) (fun b hb => ?_) (fun b ob _ _ hb e _ => keep b ob (nch hb).1 (nch hb).2.1 (nch hb).2.2.1 (nch hb).2.2.2 e) (fun b ob _ _ hb e _ => ⟨ob.slots, keep b ob (nch hb).1 (nch hb).2.1 (nch hb).2.2.1 (nch hb).2.2.2 e⟩)
        (fun _ _ _ _ n => n) (fun b ob hb e => ⟨ob, keep b ob (nch hb).1 (nch hb).2.1 (nch hb).2.2.1 (nch hb).2.2.2 e⟩) (fun _ _ e => e) (fun _ _ _ e => e) (fun b ps e => ⟨#[], by rw [e]; simp⟩) (fun m hm => ?_) (fun b u e => ?_) I.bare
      · have : b = z ∨ b = TO ∨ b = i1 ∨ b = i2 := by simpa using hb
        rcases this with rfl | rfl | rfl | rfl
        · exact ⟨fz.2.2.2.1, fz.2.1, fz.2.2.2.2.1, fz.2.2.2.2.2⟩
        · exact ⟨fTO.2.2.2.1, fTO.2.1, fTO.2.2.2.2.1, fTO.2.2.2.2.2⟩
        · exact ⟨f1.2.2.2.1, f1.2.1, f1.2.2.2.2.1, f1.2.2.2.2.2⟩
        · exact ⟨f2.2.2.2.1, f2.2.1, f2.2.2.2.2.1, f2.2.2.2.2.2⟩
      · obtain ⟨o, es, ep, ho, r⟩ := hm
        exact ⟨o, es, ep, keep _ o (Ne.symm fz.2.1) (Ne.symm fTO.2.1) (Ne.symm f1.2.1) (Ne.symm f2.2.1) ho, r⟩
      · refine (I.hok b u e).stay (fun c v hc q => ?_) (fun _ q => q) fun _ _ q => q
        have hc' : ∃ u', H c = some u' := by
          rcases hc with rfl | hc
          · exact ⟨_, e⟩
          · exact ⟨_, hc⟩
        obtain ⟨u', e'⟩ := hc'
        obtain ⟨n1, n2, n3, n4⟩ := trk c u' e'
        exact keep c v n1 n2 n3 n4 q
    have hTz : s.heap.objs.size ≠ z := Nat.ne_of_gt (Heap.lt_size hz)
    have hT0 : H s.heap.objs.size = none := I.hok.fresh (Nat.le_refl _)
    have hTget : h''.get? s.heap.objs.size = some { cls := .type "tuple", data := .seq #[u1, u2] } := (hs''.2 _ hTz).trans a5
    have I2 : Inv X pins σ (upd H s.heap.objs.size (.tup [x, y])) { s with heap := h'' } := by
      refine I1.track (I.fpOk (Nat.le_refl _) hT0) ⟨_, hTget⟩ ?_
      exact ⟨by show 2 ≤ sizeLine; decide, [u1, u2], .cons ru1 (.cons ru2 .nil), ⟨_, hTget, rfl, _, rfl⟩⟩
    refine ⟨.ref s.heap.objs.size, _, I2, rfl, ⟨s.heap.objs.size, x, y, hT0, rfl, rfl, fun zs hzs => by rw [I.list_inj hzs hq1]; exact hx, fun zs hzs => by rw [I.list_inj hzs hq2]; exact hy⟩, ?_, fun b hb => ?_⟩
    · refine ⟨hz'', hs''.extBut _ _ D.TIz (hk _ _ D.TIz D.TITO D.TIi1 D.TIi2 hTI), ⟨u1, u2, hs''.extBut _ _ D.TOz a2⟩, a3.extBut hs''.extBut D.i1z, a4.extBut hs''.extBut D.i2z⟩
    · have hb' := (hf b hb).1
      rw [upd_ne (fun q => ?_)]
      · exact hb'
      · have hb2 : b = z ∨ b = TI ∨ b = TO ∨ b = i1 ∨ b = i2 := by simpa using hb
        obtain ⟨o1, e1, _⟩ := h1
        obtain ⟨o2, e2, _⟩ := h2
        have lt : b < s.heap.objs.size := by
          rcases hb2 with rfl | rfl | rfl | rfl | rfl
          · exact Heap.lt_size hz
          · exact Heap.lt_size hTI
          · exact Heap.lt_size hTO
          · exact Heap.lt_size e1
          · exact Heap.lt_size e2
        rw [q] at lt
        exact absurd lt (Nat.lt_irrefl _)
  done := by
    intro X hP hw hK hc i pins s σ H E I hf st hg
    subst hP hw hK
    obtain ⟨xs, ys, hq1, hq2, hend⟩ := hg
    obtain ⟨hz, hTI, ⟨a, c, hTO⟩, h1, h2⟩ := st
    obtain ⟨its1, rv1, p1, hz1⟩ := I.list hq1
    obtain ⟨its2, rv2, p2, hz2⟩ := I.list hq2
    have l1' := rv1.length
    have l2' := rv2.length
    refine wpAny_pyNext_zip_end (I.ok.hd hc) D hz hTI hTO h1 h2 p1.isList p2.isList (by simp; omega) fun h' hk => ⟨rfl, ?_⟩
    have fz := hf z (by simp)
    have fTO := hf TO (by simp)
    have f1 := hf i1 (by simp)
    have f2 := hf i2 (by simp)
    have nch : ∀ {b : Addr}, b ∉ [z, TO, i1, i2] → b ≠ z ∧ b ≠ TO ∧ b ≠ i1 ∧ b ≠ i2 := fun {b} hb => by simpa using hb
    refine I.step (g' := s.gens) (t' := s.toks) (d' := s.drawn) (h' := h') (ch := [z, TO, i1, i2]) (fun b hb => ?_) (fun b ob _ _ hb e _ => hk b ob (nch hb).1 (nch hb).2.1 (nch hb).2.2.1 (nch hb).2.2.2 e) (fun b ob _ _ hb e _ => ⟨ob.slots, hk b ob (nch hb).1 (nch hb).2.1 (nch hb).2.2.1 (nch hb).2.2.2 e⟩)
      (fun _ _ _ _ n => n) (fun b ob hb e => ⟨ob, hk b ob (nch hb).1 (nch hb).2.1 (nch hb).2.2.1 (nch hb).2.2.2 e⟩) (fun _ _ e => e) (fun _ _ _ e => e) (fun b ps e => ⟨#[], by rw [e]; simp⟩) (fun m hm => ?_) (fun b u e => ?_) I.bare
    · have : b = z ∨ b = TO ∨ b = i1 ∨ b = i2 := by simpa using hb
      rcases this with rfl | rfl | rfl | rfl
      · exact ⟨fz.2.2.2.1, fz.2.1, fz.2.2.2.2.1, fz.2.2.2.2.2⟩
      · exact ⟨fTO.2.2.2.1, fTO.2.1, fTO.2.2.2.2.1, fTO.2.2.2.2.2⟩
      · exact ⟨f1.2.2.2.1, f1.2.1, f1.2.2.2.2.1, f1.2.2.2.2.2⟩
      · exact ⟨f2.2.2.2.1, f2.2.1, f2.2.2.2.2.1, f2.2.2.2.2.2⟩
    · obtain ⟨o, es, ep, ho, r⟩ := hm
      exact ⟨o, es, ep, hk _ o (Ne.symm fz.2.1) (Ne.symm fTO.2.1) (Ne.symm f1.2.1) (Ne.symm f2.2.1) ho, r⟩
    · refine (I.hok b u e).stay (fun c v hc q => ?_) (fun _ q => q) fun _ _ q => q
      have hc' : ∃ u', H c = some u' := by
        rcases hc with rfl | hc
        · exact ⟨_, e⟩
        · exact ⟨_, hc⟩
      obtain ⟨u', e'⟩ := hc'
      exact hk c v (ne_of_none e' fz.1) (ne_of_none e' fTO.1) (ne_of_none e' f1.1) (ne_of_none e' f2.1) q
  self := fun _ _ _ _ _ st h => wpAny_pyIter_zip st.1 h
def iZip (K : PySem.W.Frag) (ta : TA) : TI := fun σ H R => ta σ H fun vs H1 => ∃ l1 l2, vs = [.ref l1, .ref l2] ∧ (∃ xs, SqL K H1 l1 xs) ∧ (∃ ys, SqL K H1 l2 ys) ∧ R (Itz K l1 l2) H1
theorem pi_zip {X : Cx} {es : List Expr} {k : Nat} {tpos : Pos} {a b : Expr} {ta : TA} {p pos : Pos} (hg : Gl X "zip") (hm : X.mg "zip" = none) (ha : PA X [a, b] ta) (hs : starEach [a, b] X.env = [(false, eval a X.env), (false, eval b X.env)] := by rfl) (hs2 : starEach [b] X.env = [(false, eval b X.env)] := by rfl) :
    PI X (.Tuple es k tpos) (.Call (.Name "zip" p) [a, b] [] pos) (iZip X.K ta) := by
  intro pins s σ H R I h
  refine Call_ (ld_blt I hg hm (u := .type "zip") (by decide +kernel) (PyProof.Rows.callWith_type1 (thn (ha pos pins s σ H _ I h) fun us s1 ⟨vs, H1, I1, r1, q1⟩ => ?_) (by rw [hs, hs2]) (by rw [hs2]; rfl)))
  obtain ⟨l1, l2, rfl, ⟨xs, hq1⟩, ⟨ys, hq2⟩, q⟩ := q1
  obtain ⟨u1, u2, rfl, ru1, ru2⟩ := vals2 r1
  obtain rfl : u1 = Value.ref l1 := ru1
  obtain rfl : u2 = Value.ref l2 := ru2
  obtain ⟨its1, rv1, p1, hz1⟩ := I1.list hq1
  obtain ⟨its2, rv2, p2, hz2⟩ := I1.list hq2
  have a1 : l1 < s1.heap.objs.size := by obtain ⟨_, e, _⟩ := p1.isList; exact Heap.lt_size e
  have a2 : l2 < s1.heap.objs.size := by obtain ⟨_, e, _⟩ := p2.isList; exact Heap.lt_size e
  refine call_zip_2 p1.isList p2.isList fun h' hz hTI hTO hi1 hi2 hsz hk => ?_
  refine wpAny_pyIter_zip (s := { s1 with heap := h' }) hz ?_
  refine ⟨_, [s1.heap.objs.size + 4, s1.heap.objs.size + 2, s1.heap.objs.size + 3, s1.heap.objs.size, s1.heap.objs.size + 1], _, _, H1, rfl, I1.kept (t' := s1.toks) hk, turn_zip (zipApart_new a1 a2), ⟨hz, hTI, ⟨_, _, hTO⟩, hi1, hi2⟩, fun b hb => ?_, q⟩
  have hb' : s1.heap.objs.size ≤ b := by
    have hb2 : b = s1.heap.objs.size + 4 ∨ b = s1.heap.objs.size + 2 ∨ b = s1.heap.objs.size + 3 ∨ b = s1.heap.objs.size ∨ b = s1.heap.objs.size + 1 := by simpa using hb
    rcases hb2 with rfl | rfl | rfl | rfl | rfl
    · exact Nat.le_add_right _ _
    · exact Nat.le_add_right _ _
    · exact Nat.le_add_right _ _
    · exact Nat.le_refl _
    · exact Nat.le_add_right _ _
  exact I1.fpOk hb' (I1.hok.fresh hb')
theorem for_zip {K : PySem.W.Frag} {l1 l2 : Addr} {xs ys : List V} {g : TG} {tb : TS} {D : Ends} {σ : St} {H : Hp} (Pv : Nat → St → Hp → Prop) (h0 : Pv 0 σ H) (hl : ∀ i σ H, Pv i σ H → SqL K H l1 xs ∧ SqL K H l2 ys)
    (hs : ∀ i x y T σ H, xs[i]? = some x → ys[i]? = some y → H T = none → Pv i σ H → g (.ref T) σ (upd H T (.tup [x, y])) fun σ2 H2 => tb { D with nx := Pv (i + 1), ct := Pv (i + 1), bk := D.nx } σ2 H2) (hd : ∀ σ H, Pv (min xs.length ys.length) σ H → D.nx σ H) :
    ∃ W : Nat → Nat → St → Hp → Prop, (∃ m, W 0 m σ H) ∧ ∀ i m σ H, W i m σ H →
      ((Itz K l1 l2).stop i H ∧ D.nx σ H) ∨ ((Itz K l1 l2).go i H ∧ ∃ N : St → Hp → Prop, (∀ σ' H', N σ' H' → ∃ m', m' < m ∧ W (i + 1) m' σ' H') ∧ ∀ x H', (Itz K l1 l2).yld i H x H' → g x σ H' fun σ2 H2 => tb { D with nx := N, ct := N, bk := D.nx } σ2 H2) := by
  refine ⟨fun i m σ H => m = min xs.length ys.length - i ∧ i ≤ min xs.length ys.length ∧ Pv i σ H, ⟨_, rfl, Nat.zero_le _, h0⟩, ?_⟩
  rintro i m σ H ⟨rfl, hi, p⟩
  obtain ⟨q1, q2⟩ := hl i σ H p
  by_cases hlt : i < min xs.length ys.length
  · have hx : i < xs.length := by omega
    have hy : i < ys.length := by omega
    refine .inr ⟨⟨xs, ys, xs[i], ys[i], q1, q2, by simp [hx], by simp [hy]⟩, Pv (i + 1), fun σ' H' p' => ⟨min xs.length ys.length - (i + 1), by omega, rfl, hlt, p'⟩, fun v H' y => ?_⟩
    obtain ⟨T, x, y', hT, rfl, rfl, e1, e2⟩ := y
    exact hs i x y' T σ H (e1 xs q1) (e2 ys q2) hT p
  · have e : i = min xs.length ys.length := by omega
    refine .inl ⟨⟨xs, ys, q1, q2, by omega⟩, ?_⟩
    rw [e] at p
    exact hd σ H p
end L2

namespace L2
open PySem PySem.Spec PyProof.Rows

/-! ### what a block closes over -/
def closOf (env : Env) : List (Str × NameKind) → List (Str × Addr) → List (Str × Addr)
  | [], acc => acc
  | (n, k) :: r, acc => if k == .free then closOf env r ((n, (env.cells.lookup n).getD 0) :: acc) else closOf env r acc
theorem forIn_clos {env : Env} (f : Str × NameKind → List (Str × Addr) → Sem (ForInStep (List (Str × Addr))))
    (hf : ∀ n k cs, f (n, k) cs = if (k == NameKind.free) = true then (cellOf env n >>= fun a => pure (.yield ((n, a) :: cs))) else pure (.yield cs)) :
    ∀ (names : List (Str × NameKind)) (acc : List (Str × Addr)), (∀ x ∈ names, x.2 = .free → ∃ c, env.cells.lookup x.1 = some c) → forIn names acc f = pure (closOf env names acc)
  | [], acc, _ => by rw [List.forIn_nil]; rfl
  | (n, k) :: r, acc, h => by
    rw [List.forIn_cons, hf]
    unfold closOf
    by_cases hk : (k == NameKind.free) = true
    · rw [if_pos hk, if_pos hk]
      obtain ⟨c, hc⟩ := h (n, k) List.mem_cons_self (beq_iff_eq.mp hk)
      have e : cellOf env n = pure c := by unfold cellOf; rw [hc]
      rw [e, hc]
      exact forIn_clos f hf r _ fun x hx => h x (List.mem_cons_of_mem _ hx)
    · rw [if_neg hk, if_neg hk]
      exact forIn_clos f hf r _ fun x hx => h x (List.mem_cons_of_mem _ hx)
theorem closureFor_of {scope : Scope} {env : Env} (h : ∀ x ∈ scope.names, x.2 = .free → ∃ c, env.cells.lookup x.1 = some c) : closureFor scope env = pure (closOf env scope.names []) := by
  simp only [closureFor]
  rw [forIn_clos (env := env) _ (fun n k cs => by cases hk : k == NameKind.free <;> simp [hk]) scope.names [] h]
  rfl
theorem closOf_mem {env : Env} : ∀ {names : List (Str × NameKind)} {acc : List (Str × Addr)} {x : Str} {c : Addr}, (x, c) ∈ closOf env names acc → (x, c) ∈ acc ∨ ((x, NameKind.free) ∈ names ∧ c = (env.cells.lookup x).getD 0)
  | [], _, _, _, h => .inl h
  | (n, k) :: r, acc, x, c, h => by
    unfold closOf at h
    by_cases hk : (k == NameKind.free) = true
    · rw [if_pos hk] at h
      rcases closOf_mem h with h | ⟨h, e⟩
      · rcases List.mem_cons.mp h with h | h
        · cases h
          rw [beq_iff_eq.mp hk]
          exact .inr ⟨List.mem_cons_self, rfl⟩
        · exact .inl h
      · exact .inr ⟨List.mem_cons_of_mem _ h, e⟩
    · rw [if_neg hk] at h
      rcases closOf_mem h with h | ⟨h, e⟩
      · exact .inl h
      · exact .inr ⟨List.mem_cons_of_mem _ h, e⟩
theorem closOf_acc {env : Env} : ∀ {names : List (Str × NameKind)} {acc : List (Str × Addr)} {p : Str × Addr}, p ∈ acc → p ∈ closOf env names acc
  | [], _, _, h => h
  | (n, k) :: r, acc, p, h => by
    unfold closOf
    by_cases hk : (k == NameKind.free) = true
    · rw [if_pos hk]; exact closOf_acc (List.mem_cons_of_mem _ h)
    · rw [if_neg hk]; exact closOf_acc h
theorem closOf_has {env : Env} : ∀ {names : List (Str × NameKind)} {acc : List (Str × Addr)} {x : Str}, (x, NameKind.free) ∈ names → ∃ c, (x, c) ∈ closOf env names acc
  | (n, k) :: r, acc, x, h => by
    unfold closOf
    rcases List.mem_cons.mp h with h | h
    · cases h
      rw [if_pos (show (NameKind.free == NameKind.free) = true by rfl)]
      exact ⟨_, closOf_acc List.mem_cons_self⟩
    · by_cases hk : (k == NameKind.free) = true
      · rw [if_pos hk]; exact closOf_has h
      · rw [if_neg hk]; exact closOf_has h
theorem look_of_mem {α : Type} : ∀ {l : List (Str × α)} {x : Str} {c : α}, (x, c) ∈ l → ∃ c', l.lookup x = some c'
  | (n, d) :: r, x, c, h => by
    rw [List.lookup_cons]
    cases hb : x == n with
    | true => exact ⟨d, rfl⟩
    | false =>
      rcases List.mem_cons.mp h with h | h
      · cases h
        simp at hb
      · exact look_of_mem h
theorem cellsFrom_app : ∀ (names : List (Str × NameKind)) (n : Nat) (acc : List (Str × Addr)), cellsFrom n names acc = cellsFrom n names [] ++ acc
  | [], _, _ => rfl
  | (x, k) :: r, n, acc => by
    unfold cellsFrom
    by_cases hk : (k == NameKind.cell) = true
    · rw [if_pos hk, if_pos hk, cellsFrom_app r (n + 1) ((x, n) :: acc), cellsFrom_app r (n + 1) [(x, n)], List.append_assoc]
      rfl
    · rw [if_neg hk, if_neg hk]; exact cellsFrom_app r n acc
theorem cellsFrom_cell : ∀ {names : List (Str × NameKind)} {n : Nat} {acc : List (Str × Addr)} {x : Str} {c : Addr}, (x, c) ∈ cellsFrom n names acc → (x, c) ∈ acc ∨ (x, NameKind.cell) ∈ names
  | [], _, _, _, _, h => .inl h
  | (y, k) :: r, n, acc, x, c, h => by
    unfold cellsFrom at h
    by_cases hk : (k == NameKind.cell) = true
    · rw [if_pos hk] at h
      rcases cellsFrom_cell h with h | h
      · rcases List.mem_cons.mp h with h | h
        · cases h
          rw [beq_iff_eq.mp hk]
          exact .inr List.mem_cons_self
        · exact .inl h
      · exact .inr (List.mem_cons_of_mem _ h)
    · rw [if_neg hk] at h
      rcases cellsFrom_cell h with h | h
      · exact .inl h
      · exact .inr (List.mem_cons_of_mem _ h)

section
variable {M : Model} {A : Around} {E : Value → Shared → Prop} {s : Shared}
theorem nfe_comp {scope : Scope} {env : Env} {cl : List (Str × Addr)} {Q : Env → Shared → Prop}
    (hQ : Q (newEnv scope s.heap.objs.size env.globals (cellsFrom (s.heap.objs.size + 1) scope.names cl) env.qual none .none (some env) builtinsNs) { s with heap := pushCells (s.heap.push { cls := .type "dict", data := .dict #[] }) scope.names }) :
    wpAny M A (newFunctionEnv scope env.globals cl [] env.qual none .none (some env)) Q E s := by
  simp only [newFunctionEnv, Option.isSome_some, if_true]
  refine wpAny_bind (wpAny_alloc ?_)
  refine wpAny_bind (wpAny_layCells _ (fun name kind cells => by cases hkc : kind == NameKind.cell <;> simp [hkc]) _ _ _ _ ?_)
  rw [show ({ s with heap := s.heap.push { cls := .type "dict", data := .dict #[] } } : Shared).heap.objs.size = s.heap.objs.size + 1 from Heap.size_push ..]
  exact wpAny_bind (wpAny_pure (wpAny_pure hQ))
end

/-- the context of a comprehension's block: N its own names, then those that it closes over -/
abbrev cxComp (X : Cx) (N : List Str) (scope : Scope) (cs : List (Str × Addr)) (C : Addr) (s : Shared) (H : Hp) (ex : List Addr) : Cx where
  prog := X.prog
  w := X.w
  K := X.K
  mg := X.mg
  base := X.base
  A := X.A
  N := N
  s₀ := s
  H₀ := H
  env := compEnvC scope cs C X.env
  outer := X.stack
  stack := X.stack
  ex := ex
  fn := fun x => decide (scope.names.lookup x ≠ some .free)
  calm := X.calm
  pn := []
  xe := fun _ _ => False

/-- what is asked of the block's scope: psc, PN the scope and the names of the code around it; k: how many names of N are its own; caps: the places, in PN, of those behind them -/
structure CompScope (psc : Scope) (PN : List Str) (scope : Scope) (N : List Str) (k : Nat) (caps : List Nat) : Prop where
  kind : scope.kind = .function
  loc : ∀ x ∈ scope.names, x.2 = .local → scope.names.lookup x.1 = some .local
  ndn : (scope.names.map (·.1)).Nodup
  nd : N.Nodup
  len : N.length = k + caps.length
  free : ∀ x ∈ scope.names, x.2 = .free → psc.names.lookup x.1 = some .cell ∨ psc.names.lookup x.1 = some .free
  cap : ∀ p ∈ (N.drop k).zip caps, PN[p.2]? = some p.1 ∧ scope.names.lookup p.1 = some .free

/-- the block's slots at each turn's start -/
def compSt (k : Nat) (caps : List Nat) (σ : St) : St := List.replicate k none ++ caps.map fun j => (σ[j]?).getD none
theorem compSt_at {k : Nat} {caps : List Nat} {σ : St} {i : Nat} {v : V} (h : (compSt k caps σ)[i]? = some (some v)) : ∃ j, k ≤ i ∧ caps[i - k]? = some j ∧ σ[j]? = some (some v) := by
  unfold compSt at h
  by_cases hi : i < k
  · rw [List.getElem?_append_left (by simpa using hi), List.getElem?_replicate, if_pos hi] at h
    cases h
  · rw [List.getElem?_append_right (by simpa using hi), List.length_replicate, List.getElem?_map] at h
    cases e : caps[i - k]? with
    | none => rw [e] at h; cases h
    | some j =>
      rw [e] at h
      have h' : (σ[j]?).getD none = some v := Option.some.inj h
      refine ⟨j, by omega, rfl, ?_⟩
      cases q : σ[j]? with
      | none => rw [q] at h'; cases h'
      | some o => rw [q] at h'; exact congrArg some h'

theorem relabel_look {scope : Scope} {env : Env} {x : Str} {k' : NameKind} (h : (relabel scope env).names.lookup x = some k') : ∃ k, (x, k) ∈ scope.names ∧ (k' = k ∨ (k = .free ∧ k' = .cell)) := by
  have hm := PySem.mem_of_lookup h
  have hm' : (x, k') ∈ scope.names.map (fun (n, k) => if (k == NameKind.free && env.scope.kind == .function && env.kindOf n == some .cell) then (n, NameKind.cell) else (n, k)) := hm
  obtain ⟨⟨n, k⟩, h1, h2⟩ := List.mem_map.mp hm'
  dsimp only at h2
  by_cases hc : (k == NameKind.free && env.scope.kind == .function && env.kindOf n == some .cell) = true
  · rw [if_pos hc] at h2
    cases h2
    simp only [Bool.and_eq_true, beq_iff_eq] at hc
    exact ⟨k, h1, .inr ⟨hc.1.1, rfl⟩⟩
  · rw [if_neg hc] at h2
    cases h2
    exact ⟨k', h1, .inl rfl⟩
theorem map_free {f : Str × NameKind → Str × NameKind} (hf : ∀ n k, f (n, k) = (n, k) ∨ (k = .free ∧ f (n, k) = (n, NameKind.cell))) : ∀ {names : List (Str × NameKind)} {x : Str}, names.lookup x = some .free → (names.map f).lookup x = some .cell ∨ (names.map f).lookup x = some .free
  | [], _, h => by simp at h
  | (n, k) :: r, x, h => by
    have ih := @map_free f hf r x
    rw [List.lookup_cons] at h
    rw [List.map_cons]
    cases hx : x == n with
    | true =>
      rw [hx] at h
      cases h
      rcases hf n .free with e | ⟨_, e⟩
      · right; rw [e, List.lookup_cons, hx]
      · left; rw [e, List.lookup_cons, hx]
    | false =>
      rw [hx] at h
      have h' := ih h
      rcases hf n k with e | ⟨_, e⟩
      · rw [e, List.lookup_cons, hx]; exact h'
      · rw [e, List.lookup_cons, hx]; exact h'
theorem relabel_free {scope : Scope} {env : Env} {x : Str} (h : scope.names.lookup x = some .free) : (relabel scope env).names.lookup x = some .cell ∨ (relabel scope env).names.lookup x = some .free := by
  refine map_free (fun n k => ?_) h
  by_cases hc : (k == NameKind.free && env.scope.kind == .function && env.kindOf n == some .cell) = true
  · right
    refine ⟨?_, if_pos hc⟩
    simp only [Bool.and_eq_true, beq_iff_eq] at hc
    exact hc.1.1
  · left; exact if_neg hc
theorem nodup_key {names : List (Str × NameKind)} (h : (names.map (·.1)).Nodup) {x : Str} {k k' : NameKind} (h1 : (x, k) ∈ names) (h2 : (x, k') ∈ names) : k = k' := by
  induction names with
  | nil => simp at h1
  | cons p r ih =>
    rw [List.map_cons] at h
    obtain ⟨ha, hb⟩ := List.nodup_cons.mp h
    rcases List.mem_cons.mp h1 with e1 | h1 <;> rcases List.mem_cons.mp h2 with e2 | h2
    · rw [← e1] at e2; exact (Prod.mk.inj e2).2.symm
    · exact absurd (List.mem_map.mpr ⟨_, h2, by rw [← e1]⟩) ha
    · exact absurd (List.mem_map.mpr ⟨_, h1, by rw [← e2]⟩) ha
    · exact ih hb h1 h2

/-! ### the heap beside one address that is younger -/
theorem Un.but {fs ex : List Addr} {H H' : Hp} {h h1 h2 : Heap} {C : Addr} (u : Un fs ex H H' h h1) (hs : Heap.SameBut C h1 h2) (hC : h.objs.size ≤ C) : Un fs ex H H' h h2 := by
  have ne : ∀ b o, h.get? b = some o → b ≠ C := fun b o e => Nat.ne_of_lt (Nat.lt_of_lt_of_le (Heap.lt_size e) hC)
  refine ⟨fun b o e n hb hx => (hs.2 b (ne b o e)).trans (u.keep b o e n hb hx), fun b o e n hb hx => ?_, u.free, fun b o e hx => ?_, u.tups, u.frzs, u.tbls⟩
  · obtain ⟨sl, q⟩ := u.slot b o e n hb hx
    exact ⟨sl, (hs.2 b (ne b o e)).trans q⟩
  · obtain ⟨o', q⟩ := u.there b o e hx
    exact ⟨o', (hs.2 b (ne b o e)).trans q⟩
theorem HOk.but {P : Program} {w : World} {H : Hp} {h1 h2 : Heap} {C : Addr} (x : HOk P w H h1) (hs : Heap.SameBut C h1 h2) (hn : H C = none) : HOk P w H h2 := fun b u e => by
  refine (x b u e).stay (fun c v hc q => (hs.2 c ?_).trans q) (fun _ q => q) fun _ _ q => q
  rintro rfl
  rcases hc with rfl | hc
  · rw [hn] at e; cases e
  · rw [hn] at hc; cases hc

/-! ### the block -/
section
variable {X : Cx} {scope : Scope} {N : List Str} {k : Nat} {caps : List Nat} {psc : Scope} {PN : List Str} {pins : List (Addr × Obj)} {σ : St} {H : Hp} {s : Shared}
/-- the cells of the block -/
abbrev cellsC (X : Cx) (scope : Scope) (C : Addr) : List (Str × Addr) := cellsFrom (C + 1) scope.names (closOf X.env scope.names [])
theorem cellsC_split {C : Addr} (I : Inv X pins σ H s) (S : CompScope X.env.scope X.N scope N k caps) {x : Str} {c : Addr} (h : (x, c) ∈ cellsC X scope C) :
    (x, c) ∈ cellsFrom (C + 1) scope.names [] ∨ X.env.cells.lookup x = some c := by
  unfold cellsC at h
  rw [cellsFrom_app] at h
  rcases List.mem_append.mp h with h | h
  · exact .inl h
  · rcases closOf_mem h with h | ⟨h, e⟩
    · simp at h
    · obtain ⟨c', hc⟩ := I.ok.has x (S.free _ h rfl)
      rw [hc] at e
      exact .inr (by rw [hc]; exact congrArg some e.symm)
theorem comp_start {fp : List Addr} (I : Inv X pins σ H s) (S : CompScope X.env.scope X.N scope N k caps) (hf : ∀ b ∈ fp, FpOk X pins H b) (hfo : ∀ b ∈ fp, ∃ o, s.heap.get? b = some o) {D C : Nat} {h1 : Heap} {t' : Nat} (hD : D = s.heap.objs.size) (hC : C = D + 1)
    (hh : h1 = pushCells ((s.heap.push { cls := .type "list", data := .seq #[] }).push { cls := .type "dict", data := .dict #[] }) scope.names) :
    Inv (cxComp X N scope (cellsC X scope C) C s H fp) [] (compSt k caps σ) (upd H D (.lst [])) { s with heap := h1, toks := t' } := by
  have hsz1 : (s.heap.push { cls := .type "list", data := .seq #[] }).objs.size = C := by rw [Heap.size_push, hC, hD]
  have hsz2 : ((s.heap.push { cls := .type "list", data := .seq #[] }).push { cls := .type "dict", data := .dict #[] }).objs.size = C + 1 := by rw [Heap.size_push, hsz1]
  have old : ∀ b o, s.heap.get? b = some o → h1.get? b = some o := fun b o e => by
    rw [hh]; exact pushCells_keeps _ _ b o (Heap.get?_push_of_some _ (Heap.get?_push_of_some _ e))
  have hacc : h1.get? D = some { cls := .type "list", data := .seq #[] } := by
    rw [hh, hD]; exact pushCells_keeps _ _ _ _ (Heap.get?_push_of_some _ (Heap.get?_push_size _ rfl))
  have hns : h1.Ns C (fun _ => none) := by
    rw [hh, ← hsz1]
    exact (Heap.Ns.new _ (.type "dict")).keeps (pushCells_keeps _ _)
  have ok := cellsFrom_ok scope.names ((s.heap.push { cls := .type "list", data := .seq #[] }).push { cls := .type "dict", data := .dict #[] }) (C + 1) [] ⟨fun _ _ hm => (nomatch hm), List.Pairwise.nil⟩ (by rw [hsz2]; exact Nat.le_refl _)
  rw [hsz2] at ok
  have own : ∀ x c, (x, c) ∈ cellsFrom (C + 1) scope.names [] → h1.IsCell c none ∧ C + 1 ≤ c := fun x c h => by rw [hh]; exact ok.empty x c h
  have par : ∀ x c, X.env.cells.lookup x = some c → c < D := fun x c e => by
    obtain ⟨v, q⟩ := I.cell x c e
    rw [hD]; exact q.lt
  have fpD : ∀ b ∈ fp, b < D := fun b hb => by
    obtain ⟨o, e⟩ := hfo b hb
    rw [hD]; exact Heap.lt_size e
  have hCfree : H C = none := I.hok.fresh (by rw [hC, hD]; exact Nat.le_succ _)
  have split := fun x c (h : (cellsC X scope C).lookup x = some c) => cellsC_split (C := C) I S (PySem.mem_of_lookup h)
  have updn : ∀ b, b ≠ D → H b = none → (upd H D (.lst [])) b = none := fun b hb e => by rw [upd_ne hb]; exact e
  have capt : ∀ x, scope.names.lookup x = some .free → ∃ c, X.env.cells.lookup x = some c ∧ (cellsC X scope C).lookup x = some c := fun x hx => by
    have hm := PySem.mem_of_lookup hx
    obtain ⟨c0, h0⟩ := closOf_has (env := X.env) (acc := []) hm
    obtain ⟨c, hc⟩ := look_of_mem (l := cellsC X scope C) (x := x) (c := c0) (by unfold cellsC; rw [cellsFrom_app]; exact List.mem_append_right _ h0)
    refine ⟨c, ?_, hc⟩
    rcases split x c hc with q | q
    · rcases cellsFrom_cell q with z | z
      · simp at z
      · have := nodup_key S.ndn hm z; cases this
    · exact q
  have okX : (cxComp X N scope (cellsC X scope C) C s H fp).Ok := by
    refine ⟨I.ok.mod, S.kind, I.ok.glob, I.ok.blt, ?above, ?inj, ?has, ?cab, I.ok.hd, I.ok.frames, .inl rfl, ?exf, fun b o e => I.bs b o e, Nat.le_trans I.ok.bsz I.sz, ?noex, ?exfs, I.stack, I.stkFree⟩
    case above =>
      show s.heap.objs.size ≤ C
      rw [hC, hD]; exact Nat.le_succ _
    case inj =>
      intro x y c e1 e2
      rcases split x c e1 with q1 | q1 <;> rcases split y c e2 with q2 | q2
      · exact name_of_addr ok.apart q1 q2
      · have h1 : @LE.le Nat _ (C + 1) c := (own x c q1).2
        have h2 : @LT.lt Nat _ c D := par y c q2
        exfalso; omega
      · have h1 : @LE.le Nat _ (C + 1) c := (own y c q2).2
        have h2 : @LT.lt Nat _ c D := par x c q1
        exfalso; omega
      · exact I.ok.inj x y c q1 q2
    case has =>
      intro x hx
      have hx' : (relabel scope X.env).names.lookup x = some .cell ∨ (relabel scope X.env).names.lookup x = some .free := hx
      have hk : ∃ k', (x, k') ∈ scope.names ∧ (k' = .cell ∨ k' = .free) := by
        rcases hx' with q | q
        · obtain ⟨k', h1, h2⟩ := relabel_look q
          rcases h2 with h2 | ⟨h2, _⟩
          · exact ⟨k', h1, .inl h2.symm⟩
          · exact ⟨k', h1, .inr h2⟩
        · obtain ⟨k', h1, h2⟩ := relabel_look q
          rcases h2 with h2 | ⟨_, h2⟩
          · exact ⟨k', h1, .inr h2.symm⟩
          · cases h2
      obtain ⟨k', hm, hk | hk⟩ := hk
      · subst hk
        have q := PySem.W.cellsFrom_some scope.names (C + 1) (closOf X.env scope.names []) (x := x) (.inl (by
          obtain ⟨k2, hk2⟩ := look_of_mem hm
          rw [hk2, nodup_key S.ndn (PySem.mem_of_lookup hk2) hm]))
        exact Option.isSome_iff_exists.mp q
      · subst hk
        obtain ⟨c0, h0⟩ := closOf_has (env := X.env) (acc := []) hm
        exact look_of_mem (c := c0) (by show (x, c0) ∈ cellsC X scope C; unfold cellsC; rw [cellsFrom_app]; exact List.mem_append_right _ h0)
    case cab =>
      intro x c hx e
      have hx' : decide (scope.names.lookup x ≠ some .free) = true := hx
      have hx2 := of_decide_eq_true hx'
      show s.heap.objs.size ≤ c
      have e' : (cellsC X scope C).lookup x = some c := e
      have hm := PySem.mem_of_lookup e'
      unfold cellsC at hm
      rw [cellsFrom_app] at hm
      rcases List.mem_append.mp hm with z | z
      · have h1 : @LE.le Nat _ (C + 1) c := (own x c z).2
        have h2 : @LE.le Nat _ s.heap.objs.size c := by omega
        exact h2
      · rcases closOf_mem z with z | ⟨z, _⟩
        · simp at z
        · obtain ⟨k2, hk2⟩ := look_of_mem z
          exact absurd (by rw [hk2, nodup_key S.ndn (PySem.mem_of_lookup hk2) z]) hx2
    case exf =>
      intro b hb
      refine ⟨?_, fun x c e z => ?_⟩
      · have h1 : @LT.lt Nat _ b D := fpD b hb
        exact Nat.ne_of_lt (show @LT.lt Nat _ b C by omega)
      · rcases split x c e with q | q
        · have h1 : @LE.le Nat _ (C + 1) c := (own x c q).2
          have h2 : @LT.lt Nat _ b D := fpD b hb
          have z' : @Eq Nat c b := z
          omega
        · exact (hf b hb).2.2.2.2.1 x c q z
    case noex =>
      intro b o e hb
      rcases (hf b hb).2.2.2.1 with q | q
      · exact I.ok.noex b o e q
      · exact absurd (Nat.lt_of_lt_of_le (Heap.lt_size e) (Nat.le_trans I.ok.bsz q)) (Nat.lt_irrefl _)
    case exfs =>
      intro b hb z
      have z' : b ∈ frs X.stack := z
      rcases List.mem_cons.mp (I.stkSub b z') with q | q
      · exact (hf b hb).2.1 q
      · exact (hf b hb).2.2.1 q
  refine ⟨okX, rfl, I.bare, Un.laid old (by rw [hD]; exact Nat.le_refl _) (I.hok.fresh (by rw [hD]; exact Nat.le_refl _)), ⟨_, hns, ?loc⟩, ?cell, updn _ (show @Ne Nat C D by omega) hCfree, ?freeC, fun p hp => absurd hp (by simp), ?hok, ?len⟩
  case loc =>
    intro i x v e1 e2 e3
    obtain ⟨j, hi, hj, hv⟩ := compSt_at e2
    have hz : (x, j) ∈ (N.drop k).zip caps := by
      refine List.mem_iff_getElem?.mpr ⟨i - k, ?_⟩
      rw [List.getElem?_zip_eq_some]
      refine ⟨?_, hj⟩
      rw [List.getElem?_drop, show k + (i - k) = i by omega]
      exact e1
    obtain ⟨hp, hfr⟩ := S.cap (x, j) hz
    have hk := S.free (x, .free) (PySem.mem_of_lookup hfr) rfl
    obtain ⟨m, hn, hl⟩ := I.loc
    obtain ⟨u, r, l⟩ := hl j x v hp hv (by rcases hk with q | q; exact .inr (.inl q); exact .inr (.inr q))
    refine ⟨u, r, ?_⟩
    obtain ⟨c, hc1, hc2⟩ := capt x hfr
    have hcell : s.heap.IsCell c (some u) := by
      rcases l with ⟨q, _⟩ | ⟨_, c', q1, q2⟩
      · have q' : X.env.scope.names.lookup x = some .local := q
        rcases hk with z | z
        · rw [q'] at z; cases z
        · rw [q'] at z; cases z
      · rw [hc1] at q1; cases q1; exact q2
    exact .inr ⟨relabel_free hfr, c, hc2, hcell.keeps old⟩
  case cell =>
    intro x c e
    rcases split x c e with q | q
    · exact ⟨_, (own x c q).1⟩
    · obtain ⟨v, z⟩ := I.cell x c q
      exact ⟨v, z.keeps old⟩
  case freeC =>
    intro x c e
    rcases split x c e with q | q
    · have h1 : @LE.le Nat _ (C + 1) c := (own x c q).2
      have h2 : @LE.le Nat _ s.heap.objs.size c := by omega
      exact updn c (show @Ne Nat c D by omega) (I.hok.fresh h2)
    · exact updn c (Nat.ne_of_lt (par x c q)) (I.freeC x c q)
  case hok =>
    exact I.hok.laid old (by rw [hD]; exact Nat.le_refl _) ⟨Nat.zero_le _, [], 0, .nil, hacc⟩
  case len =>
    show (compSt k caps σ).length = N.length
    unfold compSt
    rw [List.length_append, List.length_replicate, List.length_map, S.len]

/-- at a turn's start the own names are forgotten, the others read anew: their cells stand as they stood -/
theorem comp_again {fp : List Addr} (I : Inv X pins σ H s) (S : CompScope X.env.scope X.N scope N k caps) {C : Addr} {pins' : List (Addr × Obj)} {σ' : St} {H' : Hp} {s' : Shared} (hfc : ∀ x c, X.env.cells.lookup x = some c → c ∉ fp) (hD : s.heap.objs.size ≤ C)
    (J : Inv (cxComp X N scope (cellsC X scope C) C s H fp) pins' σ' H' s') : Inv (cxComp X N scope (cellsC X scope C) C s H fp) pins' (compSt k caps σ) H' s' := by
  obtain ⟨m, hn, _⟩ := id J.loc
  refine ⟨J.ok, J.os, J.bare, J.base, ⟨m, hn, fun i x v e1 e2 e3 => ?_⟩, J.cell, J.free, J.freeC, J.pin, J.hok, ?_⟩
  · obtain ⟨j, hi, hj, hv⟩ := compSt_at e2
    have hz : (x, j) ∈ (N.drop k).zip caps := by
      refine List.mem_iff_getElem?.mpr ⟨i - k, ?_⟩
      rw [List.getElem?_zip_eq_some]
      refine ⟨?_, hj⟩
      rw [List.getElem?_drop, show k + (i - k) = i by omega]
      exact e1
    obtain ⟨hp, hfr⟩ := S.cap (x, j) hz
    have hk := S.free (x, .free) (PySem.mem_of_lookup hfr) rfl
    obtain ⟨m2, hn2, hl⟩ := I.loc
    obtain ⟨u, r, l⟩ := hl j x v hp hv (by rcases hk with q | q; exact .inr (.inl q); exact .inr (.inr q))
    refine ⟨u, r, ?_⟩
    have hcell : ∃ c, X.env.cells.lookup x = some c ∧ s.heap.IsCell c (some u) := by
      rcases l with ⟨q, _⟩ | ⟨_, c', q1, q2⟩
      · have q' : X.env.scope.names.lookup x = some .local := q
        rcases hk with z | z
        · rw [q'] at z; cases z
        · rw [q'] at z; cases z
      · exact ⟨c', q1, q2⟩
    obtain ⟨c, hc1, o, ho, hd⟩ := hcell
    have hc2 : (cellsC X scope C).lookup x = some c := by
      have hm := PySem.mem_of_lookup hfr
      obtain ⟨c0, h0⟩ := closOf_has (env := X.env) (acc := []) hm
      obtain ⟨c', hc'⟩ := look_of_mem (l := cellsC X scope C) (x := x) (c := c0) (by unfold cellsC; rw [cellsFrom_app]; exact List.mem_append_right _ h0)
      rcases cellsC_split (C := C) I S (PySem.mem_of_lookup hc') with q | q
      · rcases cellsFrom_cell q with z | z
        · simp at z
        · have := nodup_key S.ndn hm z; cases this
      · rw [hc1] at q; cases q; exact hc'
    obtain ⟨sl, q⟩ := J.base.any ho (I.freeC x c hc1) (hfc x c hc1)
    exact .inr ⟨relabel_free hfr, c, hc2, _, q, hd⟩
  · show (compSt k caps σ).length = N.length
    unfold compSt
    rw [List.length_append, List.length_replicate, List.length_map, S.len]
end

/-! ### the tests of a comprehension -/
def PF (X : Cx) (ifs : List Expr) (t : TT) : Prop :=
  ∀ (pins : List (Addr × Obj)) (s : Shared) (σ : St) (H : Hp) (Q : Bool → Hp → Prop), Inv X pins σ H s → t σ H Q →
    wpAny (model X.prog X.w) X.A (forIn ifs true fun c r => if r = true then do let ok ← isTrue c X.env (eval c X.env); pure (ForInStep.yield ok) else pure (ForInStep.yield r)) (TP X pins σ Q) X.xe s
def tYes : TT := fun _ H Q => Q true H
theorem pf_nil {X : Cx} : PF X [] tYes := fun _ _ _ H _ I h => wpAny_tests_nil ⟨H, I, h⟩
theorem pf_one {X : Cx} {c : Expr} {t : TT} (h : PT X c t) : PF X [c] t := fun pins s σ H Q I hw => wpAny_tests_one (h pins s σ H Q I hw)

theorem comp_loop {prog : Program} {w : World} {A : Around} {R : Result → Shared → Prop} {s : Shared} {elt target iter : Expr} {ifs : List Expr} {scope : Scope} {pos : Pos} {it acc : Value} {env : Env} (I : Nat → Shared → Prop)
    (turn : ∀ n s, I n s → wpAny (model prog w) A (pyNext it) (fun r s₁ => match r with
      | none => R (.ok .next) s₁
      | some v => wpAny (model prog w) A (letOwnedTupleGo target it v) (fun _ s₁ => wpAny (model prog w) A (assign target env v) (fun _ s₂ =>
          wpAny (model prog w) A (forIn ifs true fun c r => if r = true then do let ok ← isTrue c env (eval c env); pure (ForInStep.yield ok) else pure (ForInStep.yield r)) (fun ok s₃ =>
            if ok = true then wpAny (model prog w) A (eval elt env) (fun x s₄ =>
              wpAny (model prog w) A (call (.builtin "list.append") [acc, x]) (fun _ s₅ => ∃ m, m < n ∧ I m s₅) (fun _ _ => False) s₄) (fun _ _ => False) s₃
            else ∃ m, m < n ∧ I m s₃) (fun _ _ => False) s₂) (fun _ _ => False) s₁) (fun _ _ => False) s₁) (fun _ _ => False) s)
    (n : Nat) (h : I n s) :
    codeAny (model prog w) A (.compLoop (.ListComp elt [⟨target, iter, ifs, 0⟩] scope pos) 0 it acc env) R s := by
  refine codeAny_loop rfl I (fun n s hI => ?_) n h
  show wpAny _ A ((compTurn (.ListComp elt [⟨target, iter, ifs, 0⟩] scope pos) 0 it acc env).onRaise (fun x => do noteFrame x env; theTreesLotGoes x)) _ _ s
  refine wpAny_noted ?_
  rw [compTurn_list]
  refine wpAny_bind (wpAny_standAt (wpAny_bind (wpAny_mono (turn n s hI) (fun r s₁ h₁ => ?_) fun _ _ h' => h'.elim)))
  cases r with
  | none => exact wpAny_pure h₁
  | some v =>
    refine wpAny_bind (wpAny_mono h₁ (fun _ s₁ h₁ => ?_) fun _ _ h' => h'.elim)
    refine wpAny_bind (wpAny_mono h₁ (fun _ s₂ h₂ => wpAny_bind (wpAny_mono h₂ (fun ok s₃ h₃ => ?_) fun _ _ h' => h'.elim)) fun _ _ h' => h'.elim)
    cases ok with
    | false => exact wpAny_pure ⟨rfl, h₃⟩
    | true =>
      exact wpAny_bind (wpAny_bind (wpAny_mono h₃ (fun x s₄ h₄ => wpAny_bind (wpAny_mono h₄ (fun _ s₅ h₅ => wpAny_pure (wpAny_pure ⟨rfl, h₅⟩)) fun _ _ h' => h'.elim)) fun _ _ h' => h'.elim))

/-- [e for target in iter if c]: the new list at D; W: the invariant by the turn, a measure and the items so far -/
def tComp (k : Nat) (caps : List Nat) (wi : TI) (g : TG) (tc : TT) (te : TE) : TE := fun σ H Q => wi σ H fun J H1 => ∀ D, H1 D = none → ∃ W : Nat → Nat → List V → Hp → Prop, (∃ m, W 0 m [] (upd H1 D (.lst []))) ∧ ∀ i m ys H2, W i m ys H2 →
  (J.stop i H2 ∧ Q (.ref D) H2) ∨ (J.go i H2 ∧ ∀ x H3, J.yld i H2 x H3 → g x (compSt k caps σ) H3 fun σ4 H4 => tc σ4 H4 fun b H5 =>
    if b = true then te σ4 H5 fun y H6 => H6 D = some (.lst ys) ∧ ys.length < sizeLine ∧ ∃ m', m' < m ∧ W (i + 1) m' (ys ++ [y]) (upd H6 D (.lst (ys ++ [y]))) else ∃ m', m' < m ∧ W (i + 1) m' ys H5)

/-- the block runs: the state behind it as the code around sees it -/
theorem comp_block {X : Cx} {elt iter tg : Expr} {ifs : List Expr} {scope : Scope} {pos : Pos} {N : List Str} {k : Nat} {caps : List Nat} {g : TG} {tc : TT} {te : TE} {pins : List (Addr × Obj)} {σ : St} {H : Hp} {s : Shared} {E : Value → Shared → Prop} {Q : VK}
    {it : Addr} {fp : List Addr} {tn : Nat → Heap → Prop} {J : It} {RR : Value → Addr → Result → Shared → Prop} (hc : X.calm = true) (S : CompScope X.env.scope X.N scope N k caps) (I : Inv X pins σ H s)
    (T : Turn X.prog X.w X.K tg J fp it tn) (st : tn 0 s.heap) (hf : ∀ b ∈ fp, FpOk X pins H b)
    (hg : ∀ cs C s H ex, PG (cxComp X N scope cs C s H ex) tg g) (ht : ∀ cs C s H ex, PF (cxComp X N scope cs C s H ex) ifs tc) (he : ∀ cs C s H ex, PE (cxComp X N scope cs C s H ex) elt te)
    (q : ∀ D, H D = none → ∃ W : Nat → Nat → List V → Hp → Prop, (∃ m, W 0 m [] (upd H D (.lst []))) ∧ ∀ i m ys H2, W i m ys H2 →
      (J.stop i H2 ∧ Q (.ref D) H2) ∨ (J.go i H2 ∧ ∀ x H3, J.yld i H2 x H3 → g x (compSt k caps σ) H3 fun σ4 H4 => tc σ4 H4 fun b H5 =>
        if b = true then te σ4 H5 fun y H6 => H6 D = some (.lst ys) ∧ ys.length < sizeLine ∧ ∃ m', m' < m ∧ W (i + 1) m' (ys ++ [y]) (upd H6 D (.lst (ys ++ [y]))) else ∃ m', m' < m ∧ W (i + 1) m' ys H5))
    (hRR : ∀ D C H' s' m, C ≠ X.env.locals → (∀ x c, X.env.cells.lookup x = some c → c ≠ C) → s'.heap.Ns C m → (∀ h', Heap.SameBut C s'.heap h' → Inv X pins σ H' { s' with heap := h' }) → H' C = none → s.heap.objs.size ≤ C → Q (.ref D) H' → RR (.ref D) C (.ok .next) s') :
    wpAny (model X.prog X.w) X.A (newList []) (fun acc s₃ => wpAny (model X.prog X.w) X.A (newFunctionEnv scope X.env.globals (closOf X.env scope.names []) [] X.env.qual none .none (some X.env)) (fun cenv s₄ =>
      codeAny (model X.prog X.w) X.A (.compStart (.ListComp elt [⟨tg, iter, ifs, 0⟩] scope pos) 0 (.ref it) acc { cenv with scope := relabel scope X.env }) (RR acc cenv.locals) s₄) E s₃) E s := by
  refine wpAny_newObj_type (nfe_comp ?_)
  generalize hD : s.heap.objs.size = D
  have hsz1 : (s.heap.push { cls := .type "list", dict := none, data := .seq ([] : List Value).toArray }).objs.size = D + 1 := by rw [Heap.size_push, hD]
  dsimp only
  rw [hsz1]
  have hfo : ∀ b ∈ fp, ∃ o, s.heap.get? b = some o := fun b hb => let ⟨o, e, _⟩ := T.obj 0 _ st b hb; ⟨o, e⟩
  have hHD : H D = none := I.hok.fresh (by rw [hD]; exact Nat.le_refl _)
  have J0 := comp_start (t' := s.toks) I S hf hfo (D := D) (C := D + 1) hD.symm rfl rfl
  have hfc : ∀ x c, X.env.cells.lookup x = some c → c ∉ fp := fun x c e hb => (hf c hb).2.2.2.2.1 x c e rfl
  have fpo : ∀ {pins' : List (Addr × Obj)} {H' : Hp}, (∀ b ∈ fp, H' b = none) → pins' = [] → ∀ b ∈ fp, FpOk (cxComp X N scope (cellsC X scope (D + 1)) (D + 1) s H fp) pins' H' b := fun {pins' H'} hn hp b hb => by
    obtain ⟨o, e⟩ := hfo b hb
    have hlt : @LT.lt Nat _ b D := by rw [← hD]; exact Heap.lt_size e
    subst hp
    refine ⟨hn b hb, ?_, fun z => ?_, .inl hb, fun x c e => (J0.ok.exf b hb).2 x c e, fun p hp => absurd hp (by simp)⟩
    · show @Ne Nat b (D + 1)
      omega
    · have z' : b ∈ frs X.stack := z
      rcases List.mem_cons.mp (I.stkSub b z') with w | w
      · exact (hf b hb).2.1 w
      · exact (hf b hb).2.2.1 w
  obtain ⟨W, ⟨m0, w0⟩, turn⟩ := q D hHD
  have st1 : tn 0 (pushCells ((s.heap.push { cls := .type "list", data := .seq #[] }).push { cls := .type "dict", data := .dict #[] }) scope.names) := T.keep 0 _ _ st fun b hb o e => pushCells_keeps _ _ b o (Heap.get?_push_of_some _ (Heap.get?_push_of_some _ e))
  have fr0 : ∀ b ∈ fp, (upd H D (.lst [])) b = none := fun b hb => by
    obtain ⟨o, e⟩ := hfo b hb
    have hlt : @LT.lt Nat _ b D := by rw [← hD]; exact Heap.lt_size e
    rw [upd_ne (show @Ne Nat b D by omega)]
    exact (hf b hb).1
  have fin : ∀ {H' : Hp} {s' : Shared} {σ' : St} {pins' : List (Addr × Obj)}, Inv (cxComp X N scope (cellsC X scope (D + 1)) (D + 1) s H fp) pins' σ' H' s' → Q (.ref D) H' → RR (.ref D) (D + 1) (.ok .next) s' := fun {H' s' σ' pins'} J q => by
    obtain ⟨m, hn, _⟩ := id J.loc
    refine hRR D (D + 1) H' s' m (fun z => ?_) (fun x c e z => ?_) hn (fun h' hs => ?_) J.free (by rw [hD]; exact Nat.le_succ _) q
    · have h1 : @LT.lt Nat _ X.env.locals D := by rw [← hD]; exact I.lt
      have z' : @Eq Nat (D + 1) X.env.locals := z
      omega
    · obtain ⟨v, y⟩ := I.cell x c e
      have h1 : @LT.lt Nat _ c D := by rw [← hD]; exact y.lt
      have z' : @Eq Nat c (D + 1) := z
      omega
    · refine I.call' (ch := fp) J.os (J.base.but hs (by rw [hD]; exact Nat.le_succ _)) (J.hok.but hs J.free) J.bare fun b hb => ?_
      exact ⟨(hf b hb).2.2.2.1, (hf b hb).2.1, (hf b hb).2.2.2.2.1, (hf b hb).2.2.2.2.2⟩
  have loop : codeAny (model X.prog X.w) X.A (.compLoop (.ListComp elt [⟨tg, iter, ifs, 0⟩] scope pos) 0 (.ref it) (.ref D) (compEnvC scope (cellsC X scope (D + 1)) (D + 1) X.env)) (RR (.ref D) (D + 1))
      { s with heap := pushCells ((s.heap.push { cls := .type "list", data := .seq #[] }).push { cls := .type "dict", data := .dict #[] }) scope.names } := by
    refine comp_loop (fun n s' => ∃ i ys H', Inv (cxComp X N scope (cellsC X scope (D + 1)) (D + 1) s H fp) [] (compSt k caps σ) H' s' ∧ tn i s'.heap ∧ (∀ b ∈ fp, H' b = none) ∧ W i n ys H') ?_ m0 ⟨0, [], _, J0, st1, fr0, w0⟩
    rintro n s3 ⟨i, ys, H3, I3, st3, fr3, w3⟩
    rcases turn i n ys H3 w3 with ⟨stop, qn⟩ | ⟨go, step⟩
    · refine thn (T.done (cxComp X N scope (cellsC X scope (D + 1)) (D + 1) s H fp) rfl rfl rfl hc i [] s3 _ H3 _ I3 (fpo fr3 rfl) st3 stop) fun r s4 ⟨hr, I4⟩ => ?_
      subst hr
      exact fin I4 qn
    · refine thn (T.item (cxComp X N scope (cellsC X scope (D + 1)) (D + 1) s H fp) rfl rfl rfl hc i [] s3 _ H3 _ I3 (fpo fr3 rfl) st3 go) fun r s4 ⟨u, hr, h4⟩ => ?_
      subst hr
      refine thn h4 fun _ s5 ⟨x, H5, I5, r5, y5, st5, fr5⟩ => ?_
      have I5' := I5.pinned (fpo fr5 rfl) (T.obj _ _ st5)
      have again : ∀ {σ7 : St} {H7 : Hp} {s7 : Shared} {m' : Nat} {zs : List V}, Inv (cxComp X N scope (cellsC X scope (D + 1)) (D + 1) s H fp) ([] ++ pinsAt fp s5.heap) σ7 H7 s7 → m' < n → W (i + 1) m' zs H7 →
          ∃ m, m < n ∧ ∃ i ys H', Inv (cxComp X N scope (cellsC X scope (D + 1)) (D + 1) s H fp) [] (compSt k caps σ) H' s7 ∧ tn i s7.heap ∧ (∀ b ∈ fp, H' b = none) ∧ W i m ys H' := fun {σ7 H7 s7 m' zs} I7 hm w7 => by
        refine ⟨m', hm, i + 1, zs, H7, comp_again I S hfc (by rw [hD]; exact Nat.le_succ _) I7.unpinned, T.keep _ _ _ st5 fun b hb o e => (I7.pin (b, o) (List.mem_append_right _ (List.mem_append_right _ (mem_pinsAt hb e)))).1, fun b hb => ?_, w7⟩
        obtain ⟨o, e, d⟩ := T.obj _ _ st5 b hb
        exact (I7.pin (b, o) (List.mem_append_right _ (List.mem_append_right _ (mem_pinsAt hb e)))).2.1
      refine thn (hg _ _ _ _ _ _ s5 _ H5 x u _ I5' r5 (step x H5 y5)) fun _ s6 ⟨σ6, H6, I6, q6⟩ => ?_
      refine thn (ht _ _ _ _ _ _ s6 σ6 H6 _ I6 q6) fun b s7 ⟨H7, I7, q7⟩ => ?_
      cases b with
      | false =>
        rw [if_neg Bool.false_ne_true] at q7 ⊢
        obtain ⟨m', hm, w7⟩ := q7
        exact again I7 hm w7
      | true =>
        rw [if_pos rfl] at q7 ⊢
        refine thn (he _ _ _ _ _ _ s7 σ6 H7 _ I7 q7) fun y s8 ⟨yv, H8, I8, r8, hD8, hz8, m', hm, w8⟩ => ?_
        refine thn (mt_append (X := cxComp X N scope (cellsC X scope (D + 1)) (D + 1) s H fp) _ s8 σ6 H8 (.ref D) [yv] (.ref D) [y] (fun _ H9 => W (i + 1) m' (ys ++ [yv]) H9) I8 rfl (.cons r8 .nil) ⟨D, ys, yv, rfl, rfl, hD8, hz8, w8⟩) fun _ s9 ⟨_, H9, I9, _, w9⟩ => ?_
        exact again I9 hm w9
  exact codeAny_compStart_list loop (T.self _ 0 _ _ _ st1 loop)

theorem pe_comp {X : Cx} {elt iter tg : Expr} {ifs : List Expr} {scope : Scope} {pos : Pos} {N : List Str} {k : Nat} {caps : List Nat} {wi : TI} {g : TG} {tc : TT} {te : TE} (hc : X.calm = true) (S : CompScope X.env.scope X.N scope N k caps) (hi : PI X tg iter wi)
    (hg : ∀ cs C s H ex, PG (cxComp X N scope cs C s H ex) tg g) (ht : ∀ cs C s H ex, PF (cxComp X N scope cs C s H ex) ifs tc) (he : ∀ cs C s H ex, PE (cxComp X N scope cs C s H ex) elt te)
    (hs : ∀ x, foldedSetIterable iter X.env x = pure x := by intro _; rfl) : PE X (.ListComp elt [⟨tg, iter, ifs, 0⟩] scope pos) (tComp k caps wi g tc te) := by
  intro pins s σ H Q I h
  have hcl : closureFor scope X.env = pure (closOf X.env scope.names []) := closureFor_of fun x hx hfr => I.ok.has x.1 (S.free x hx hfr)
  rw [eval_ListComp]
  refine wpAny_comprehension_free (use := none) rfl hs hcl S.kind S.loc (thn (hi pins s σ H _ I h) fun v s1 h1 => thn h1 fun itv s2 h2 => ?_)
  obtain ⟨it, fp, tn, J, H2, e, I2, T, st2, f2, q⟩ := h2
  subst e
  refine comp_block (Q := Q) hc S I2 T st2 f2 hg ht he q ?_
  intro D C H' s' m _ _ hn hI _ _ hq
  exact ⟨m, hn, fun h' hs' => ⟨.ref D, H', hI h' hs', rfl, hq⟩⟩

/-- x = [e for ..], where the store comes ahead of the block's end -/
theorem ps_setC {X : Cx} {elt iter tg : Expr} {ifs : List Expr} {scope : Scope} {pos spos : Pos} {N : List Str} {k i : Nat} {x : Str} {pos' : Pos} {caps : List Nat} {wi : TI} {g : TG} {tc : TT} {te : TE} (hN : X.N.Nodup) (hi' : X.N[i]? = some x) (hx : Loc X.env.scope x)
    (hc : X.calm = true) (S : CompScope X.env.scope X.N scope N k caps) (hi : PI X tg iter wi)
    (hg : ∀ cs C s H ex, PG (cxComp X N scope cs C s H ex) tg g) (ht : ∀ cs C s H ex, PF (cxComp X N scope cs C s H ex) ifs tc) (he : ∀ cs C s H ex, PE (cxComp X N scope cs C s H ex) elt te)
    (hsw : swapsWith (.ListComp elt [⟨tg, iter, ifs, 0⟩] scope pos) (some (.Name x pos')) spos.line X.env = pure true := by rfl)
    (hs : ∀ x, foldedSetIterable iter X.env x = pure x := by intro _; rfl) (hfn : X.fn x = true ∨ X.env.scope.names.lookup x = some .local := by first | exact .inl rfl | exact .inr rfl | assumption) :
    PS X (.Assign [.Name x pos'] (.ListComp elt [⟨tg, iter, ifs, 0⟩] scope pos) spos) (tAsg (tComp k caps wi g tc te) (gName i)) := by
  intro pins s σ H D I h
  have hcl : closureFor scope X.env = pure (closOf X.env scope.names []) := closureFor_of fun x hx hfr => I.ok.has x.1 (S.free x hx hfr)
  rw [exec_Assign_Name_used _ _ _ _ hsw]
  refine wpAny_bind (wpAny_standAt (wpAny_bind ?_))
  show wpAny _ _ (do let _ ← comprehension (.ListComp elt [⟨tg, iter, ifs, 0⟩] scope pos) scope X.env _ (newList []) false (eval iter X.env) (some (assign (.Name x pos') X.env))) _ _ s
  refine wpAny_bind (wpAny_mono (wpAny_comprehension_free (use := some (assign (.Name x pos') X.env)) (Q := fun _ s' => SP X pins D .next s') rfl hs hcl S.kind S.loc
    (thn (hi pins s σ H _ I h) fun v s1 h1 => thn h1 fun itv s2 h2 => ?_)) (fun _ s' hq => wpAny_pure (wpAny_pure hq)) fun _ _ e => e)
  obtain ⟨it, fp, tn, J, H2, e, I2, T, st2, f2, q⟩ := h2
  subst e
  refine comp_block (Q := fun x H1 => gName i x σ H1 D.nx) hc S I2 T st2 f2 hg ht he q ?_
  intro D' C H' s' m hCL hCc hn hI hHC hCs hq
  have I3 := hI s'.heap (.refl ..)
  have I3' : Inv X pins σ H' s' := I3
  refine wpAny_assign_Name (store_ok2 I3' hN hi' hx (show RelV (V.ref D') (.ref D') from rfl) (fun s'' I4 ⟨a, hsb, ha⟩ => ?_) hfn)
  have hCa : C ≠ a := by
    rcases ha with ha | ha
    · rw [ha]; exact hCL
    · exact Ne.symm (hCc x a ha)
  refine ⟨m, hn.sameBut hsb hCa, fun h' hs' => ?_⟩
  refine ⟨_, H', ?_, hq⟩
  exact I4.turned (t' := s''.toks) (fun b o hb e => (hs'.2 b hb).trans e) hHC hCL (.inr (Nat.le_trans I2.sz hCs)) hCc fun p hp z => by
    have := Heap.lt_size (I2.pin p hp).1
    rw [z] at this
    exact absurd (Nat.lt_of_lt_of_le this hCs) (Nat.lt_irrefl _)
end L2

namespace L2
open PySem PySem.Spec PyProof.Rows
/-- a def of the text that may be called by its name: its promise, its address, how it binds -/
def Callee (P : Program) (w : World) (K : PySem.W.Frag) (mg : Str → Option Value) (base : Heap) (x : Str) (k : Nat) (ps : List Str) (sp : Sp) : Prop :=
  ∃ f fd, FnOk P w K mg base CX0 k f fd ps sp ∧ mg x = some (.ref f) ∧ PySem.W.keepIn K (.ref f) = true ∧ Binds K fd ps []
section
variable {X : Cx} {x : Str} {k : Nat} {ps : List Str} {sp : Sp} {e : Expr} {es : List Expr} {t : TA} {p pos : Pos}
theorem pe_fn (C : Callee X.prog X.w X.K X.mg X.base x k ps sp) (hr : Room k X.A) (hg : Gl X x) (ha : PA X (e :: es) t) (hdb : (x == ("__debug__" : Str)) = false := by decide)
    (he : starEach (e :: es) X.env = (false, eval e X.env) :: starEach es X.env := by rfl) (hpl : (backTo pos (starEach es X.env)).any (·.1) = false := by rfl) : PE X (.Call (.Name x p) (e :: es) [] pos) (tCall sp [] E0 t) := by
  obtain ⟨f, fd, F, hm, hk, hb⟩ := C
  exact pe_call F hr hg hm hk hb .nil pass0 ha hdb he hpl
theorem pe_fn0 (C : Callee X.prog X.w X.K X.mg X.base x k ps sp) (hr : Room k X.A) (hg : Gl X x) (hdb : (x == ("__debug__" : Str)) = false := by decide) : PE X (.Call (.Name x p) [] [] pos) (tCall sp [] E0 tNil) := by
  obtain ⟨f, fd, F, hm, hk, hb⟩ := C
  exact pe_call0 F hr hg hm hk hb .nil pass0 hdb
end
theorem pe_ty {X : Cx} {x : Str} {pos : Pos} (n : String) (hg : Gl X x) (hm : X.mg x = none) (hv : bootBuiltins x = some (.type n)) (hn : x ≠ "__name__" := by decide) (hd : (x == ("__debug__" : Str)) = false := by decide) : PE X (.Name x pos) (tC (.ty n)) := pe_bltn (v := .ty n) hg hm hv rfl hn hd
theorem seq_cut {t u : TS} {D : Ends} {σ : L2.St} {H : Hp} (P : L2.St → Hp → Prop) (hu : ∀ σ' H', P σ' H' → u D σ' H') (ht : ∀ N : L2.St → Hp → Prop, (∀ σ' H', P σ' H' → N σ' H') → t { D with nx := N } σ H) : tSeq t u D σ H := ht (u D) hu
/-! ### comprehensions whose element leaves what was tracked -/
theorem Same.upd {H H' : Hp} {D : Addr} {o : HO} (h : Same H H') (hn : H D = none) : Same H (upd H' D o) := fun b u e => by
  rw [upd_ne (ne_of_none e hn)]; exact h b u e
theorem Same.seqT {K : PySem.W.Frag} {H H' : Hp} {a : Addr} {xs : List V} (e : Same H H') (h : SqT K H a xs) : SqT K H' a xs := by
  rcases h with (h | ⟨o, h⟩) | h
  · exact .inl (.inl (e _ _ h))
  · exact .inl (.inr ⟨o, e _ _ h⟩)
  · exact .inr h
theorem Same.ty {K : PySem.W.Frag} {H H' : Hp} {x : V} {T : Ty} (e : Same H H') (h : TyN K H x T) : TyN K H' x T := by
  cases h with
  | int i => exact .int i
  | bl b => exact .bl b
  | str y => exact .str y
  | non => exact .non
  | lst h => exact .lst (e.seq h)
  | tup h => exact .tup (e.seqT h)
  | dk h => exact .dk (e _ _ h)
/-- over a range, no test: the items are f 0, f 1, .. -/
theorem comp_range {k : Nat} {caps : List Nat} {g : TG} {te : TE} {σ : St} {H1 : Hp} {Q : Addr → Hp → Prop} {lo : Int} {n : Nat} (f : Nat → V) (hn : n ≤ sizeLine)
    (hs : ∀ (i : Nat) (H2 : Hp) (D : Addr) (R : VK), i < n → Same H1 H2 → H1 D = none → (∀ H3, Same H2 H3 → R (f i) H3) → g (.int (lo + i)) (compSt k caps σ) H2 fun σ4 H4 => te σ4 H4 R)
    (hd : ∀ (H2 : Hp) (D : Addr), Same H1 H2 → H1 D = none → H2 D = some (.lst ((List.range n).map f)) → Q D H2) :
    ∀ D, H1 D = none → ∃ W : Nat → Nat → List V → Hp → Prop, (∃ m, W 0 m [] (upd H1 D (.lst []))) ∧ ∀ i m ys H2, W i m ys H2 →
      ((Itr lo n).stop i H2 ∧ Q D H2) ∨ ((Itr lo n).go i H2 ∧ ∀ x H3, (Itr lo n).yld i H2 x H3 → g x (compSt k caps σ) H3 fun σ4 H4 => tYes σ4 H4 fun b H5 =>
        if b = true then te σ4 H5 fun y H6 => H6 D = some (.lst ys) ∧ ys.length < sizeLine ∧ ∃ m', m' < m ∧ W (i + 1) m' (ys ++ [y]) (upd H6 D (.lst (ys ++ [y]))) else ∃ m', m' < m ∧ W (i + 1) m' ys H5) := by
  intro D hD
  refine ⟨fun i m ys H2 => m = n - i ∧ i ≤ n ∧ ys = (List.range i).map f ∧ Same H1 H2 ∧ H2 D = some (.lst ys), ⟨n, rfl, Nat.zero_le _, rfl, (Same.refl _).upd hD, upd_same⟩, ?_⟩
  rintro i m ys H2 ⟨rfl, hi, rfl, s2, e2⟩
  by_cases hlt : i < n
  · refine .inr ⟨hlt, fun x H3 y => ?_⟩
    obtain ⟨rfl, rfl⟩ := y
    refine hs i H3 D _ hlt s2 hD fun H4 s4 => ?_
    refine ⟨s4 _ _ e2, by rw [List.length_map, List.length_range]; omega, n - (i + 1), by omega, rfl, hlt, ?_, (s2.trans s4).upd hD, upd_same⟩
    rw [List.range_succ, List.map_append]
    rfl
  · have e : i = n := by omega
    subst e
    exact .inl ⟨Nat.le_refl _, hd H2 D s2 hD e2⟩
/-- over a list that stays, no test -/
theorem comp_list {K : PySem.W.Frag} {a : Addr} {xs : List V} {k : Nat} {caps : List Nat} {g : TG} {te : TE} {σ : St} {H1 : Hp} {Q : Addr → Hp → Prop} (f : V → V) (hn : xs.length ≤ sizeLine) (hq : SqL K H1 a xs)
    (hs : ∀ (i : Nat) (x : V) (H2 : Hp) (D : Addr) (R : VK), xs[i]? = some x → Same H1 H2 → H1 D = none → (∀ H3, Same H2 H3 → R (f x) H3) → g x (compSt k caps σ) H2 fun σ4 H4 => te σ4 H4 R)
    (hd : ∀ (H2 : Hp) (D : Addr), Same H1 H2 → H1 D = none → H2 D = some (.lst (xs.map f)) → Q D H2) :
    ∀ D, H1 D = none → ∃ W : Nat → Nat → List V → Hp → Prop, (∃ m, W 0 m [] (upd H1 D (.lst []))) ∧ ∀ i m ys H2, W i m ys H2 →
      ((Itl K a).stop i H2 ∧ Q D H2) ∨ ((Itl K a).go i H2 ∧ ∀ x H3, (Itl K a).yld i H2 x H3 → g x (compSt k caps σ) H3 fun σ4 H4 => tYes σ4 H4 fun b H5 =>
        if b = true then te σ4 H5 fun y H6 => H6 D = some (.lst ys) ∧ ys.length < sizeLine ∧ ∃ m', m' < m ∧ W (i + 1) m' (ys ++ [y]) (upd H6 D (.lst (ys ++ [y]))) else ∃ m', m' < m ∧ W (i + 1) m' ys H5) := by
  intro D hD
  refine ⟨fun i m ys H2 => m = xs.length - i ∧ i ≤ xs.length ∧ ys = (xs.take i).map f ∧ Same H1 H2 ∧ H2 D = some (.lst ys), ⟨xs.length, rfl, Nat.zero_le _, rfl, (Same.refl _).upd hD, upd_same⟩, ?_⟩
  rintro i m ys H2 ⟨rfl, hi, rfl, s2, e2⟩
  have q2 := s2.seq hq
  by_cases hlt : i < xs.length
  · refine .inr ⟨⟨xs, xs[i], q2, by simp [hlt]⟩, fun x H3 y => ?_⟩
    obtain ⟨rfl, y⟩ := y
    have hx := y xs q2
    refine hs i x H3 D _ hx s2 hD fun H4 s4 => ?_
    refine ⟨s4 _ _ e2, by rw [List.length_map, List.length_take]; omega, xs.length - (i + 1), by omega, rfl, hlt, ?_, (s2.trans s4).upd hD, upd_same⟩
    rw [List.take_succ, hx, List.map_append]
    rfl
  · have e : i = xs.length := by omega
    subst e
    rw [List.take_length] at e2
    exact .inl ⟨⟨xs, q2, Nat.le_refl _⟩, hd H2 D s2 hD e2⟩
/-- over the signs of a text, no test -/
theorem comp_str {x : Str} {k : Nat} {caps : List Nat} {g : TG} {te : TE} {σ : St} {H1 : Hp} {Q : Addr → Hp → Prop} (f : Nat → V) (hn : x.cps.size ≤ sizeLine)
    (hs : ∀ (i c : Nat) (H2 : Hp) (D : Addr) (R : VK), x.cps[i]? = some c → Same H1 H2 → H1 D = none → (∀ H3, Same H2 H3 → R (f c) H3) → g (.str ⟨#[c]⟩) (compSt k caps σ) H2 fun σ4 H4 => te σ4 H4 R)
    (hd : ∀ (H2 : Hp) (D : Addr), Same H1 H2 → H1 D = none → H2 D = some (.lst (x.cps.toList.map f)) → Q D H2) :
    ∀ D, H1 D = none → ∃ W : Nat → Nat → List V → Hp → Prop, (∃ m, W 0 m [] (upd H1 D (.lst []))) ∧ ∀ i m ys H2, W i m ys H2 →
      ((Its x).stop i H2 ∧ Q D H2) ∨ ((Its x).go i H2 ∧ ∀ y H3, (Its x).yld i H2 y H3 → g y (compSt k caps σ) H3 fun σ4 H4 => tYes σ4 H4 fun b H5 =>
        if b = true then te σ4 H5 fun y H6 => H6 D = some (.lst ys) ∧ ys.length < sizeLine ∧ ∃ m', m' < m ∧ W (i + 1) m' (ys ++ [y]) (upd H6 D (.lst (ys ++ [y]))) else ∃ m', m' < m ∧ W (i + 1) m' ys H5) := by
  intro D hD
  refine ⟨fun i m ys H2 => m = x.cps.size - i ∧ i ≤ x.cps.size ∧ ys = (x.cps.toList.take i).map f ∧ Same H1 H2 ∧ H2 D = some (.lst ys), ⟨x.cps.size, rfl, Nat.zero_le _, rfl, (Same.refl _).upd hD, upd_same⟩, ?_⟩
  rintro i m ys H2 ⟨rfl, hi, rfl, s2, e2⟩
  by_cases hlt : i < x.cps.size
  · refine .inr ⟨hlt, fun y H3 hy => ?_⟩
    obtain ⟨rfl, c, hc, rfl⟩ := hy
    have hc' : x.cps.toList[i]? = some c := by simpa using hc
    refine hs i c H3 D _ hc s2 hD fun H4 s4 => ?_
    refine ⟨s4 _ _ e2, by rw [List.length_map, List.length_take]; omega, x.cps.size - (i + 1), by omega, rfl, hlt, ?_, (s2.trans s4).upd hD, upd_same⟩
    rw [List.take_succ, hc', List.map_append]
    rfl
  · have e : i = x.cps.size := by omega
    rw [e, List.take_of_length_le (by simp)] at e2
    exact .inl ⟨e, hd H2 D s2 hD e2⟩
end L2

namespace L2
open PySem PySem.Spec PyProof.Rows
/-- a text by its codes -/
abbrev tx (cs : List Nat) : Str := ⟨cs.toArray⟩
theorem tx_list (cs : List Nat) : (tx cs).cps.toList = cs := by simp [tx]
theorem tx_len (cs : List Nat) : (tx cs).length = cs.length := by simp [tx, Str.length]
theorem tx_inj {a b : List Nat} (h : tx a = tx b) : a = b := by
  have := congrArg (fun s => s.cps.toList) h
  simpa [tx] using this
theorem tx_of (x : Str) : x = tx x.cps.toList := ext_toList (by rw [tx_list])
theorem app_lst (a y : Str) : (a ++ y).cps.toList = a.cps.toList ++ y.cps.toList := by rw [PySem.Str.cps_append, Array.toList_append]
theorem join_tx (ys : List Str) : (Txt.join (Str.ofString "") ys).cps.toList = (ys.map fun y => y.cps.toList).flatten := by
  show (Builtin.Str.glued (Str.ofString "") ys).cps.toList = _
  rw [StrLaws.glued_eq_join]
  induction ys with
  | nil => rfl
  | cons a r ih =>
    cases r with
    | nil => simp [Str.join]
    | cons b r =>
      rw [join_cons_cons, app_lst, app_lst, ih]
      have z : (Str.ofString "").cps.toList = [] := by decide +kernel
      rw [z]
      simp
theorem join_sing (cs : List Nat) : Txt.join (Str.ofString "") (cs.map fun c => (⟨#[c]⟩ : Str)) = tx cs := by
  refine ext_toList ?_
  rw [join_tx, tx_list, List.map_map]
  induction cs with
  | nil => rfl
  | cons c r ih =>
    rw [List.map_cons, List.flatten_cons, ih]
    rfl
theorem joinOk_small {ys : List Str} (h : ∀ y ∈ ys, y.length ≤ 8) (hn : ys.length ≤ 100) : JoinOk (Str.ofString "") ys = true := by
  refine joinOk_of_weight ?_ (by decide +kernel)
  have : (ys.map (·.length)).sum ≤ 8 * ys.length := by
    clear hn
    induction ys with
    | nil => simp
    | cons a r ih =>
      have h1 := h a (by simp)
      have h2 := ih fun y hy => h y (by simp [hy])
      simp only [List.map_cons, List.sum_cons, List.length_cons]
      omega
  omega
theorem lt_sing {c d : Nat} : (decide (([c] : List Nat) < [d])) = decide (c < d) := by
  by_cases h : c < d
  · rw [decide_eq_true h, decide_eq_true]
    exact List.Lex.rel h
  · rw [decide_eq_false h, decide_eq_false]
    intro q
    cases q with
    | rel q => exact h q
    | cons q => cases q
/-- a cell of the script, 0 where there is none -/
def cellAt (ns : List Int) (k : Int) : Int := (ns[k.toNat]?).getD 0
theorem seq_setC {v : V} {i : Nat} {u : TS} {D : Ends} {σ : St} {H : Hp} (h : u D (σ.set i (some v)) H) : tSeq (tAsg (tC v) (gName i)) u D σ H := h
theorem ixN_in {n : Nat} {k : Int} (h0 : 0 ≤ k) (h1 : k < n) : ixN n k = some k.toNat := by
  unfold ixN
  rw [if_pos h0, if_pos h1]
end L2
namespace L2
open PySem PySem.Spec PyProof.Rows
theorem cutV_take (xs : List V) (n : Nat) : cutV xs none (some (n : Int)) = xs.take n := by
  unfold cutV
  rw [HT.sIx_none, HT.sIx_nat, List.drop_zero, Nat.sub_zero]
  by_cases h : n ≤ xs.length
  · rw [Nat.min_eq_left h]
  · rw [Nat.min_eq_right (by omega), List.take_of_length_le (Nat.le_refl _), List.take_of_length_le (by omega)]
theorem cutV_drop (xs : List V) (n : Nat) : cutV xs (some (n : Int)) none = xs.drop n := by
  unfold cutV
  rw [HT.sIx_none, HT.sIx_nat]
  by_cases h : n ≤ xs.length
  · rw [Nat.min_eq_left h, List.take_of_length_le (by rw [List.length_drop]; exact Nat.le_refl _)]
  · rw [Nat.min_eq_right (by omega), List.drop_of_length_le (Nat.le_refl _), List.drop_of_length_le (by omega)]
    simp
theorem cutV_init (xs : List V) : cutV xs none (some (-1)) = xs.dropLast := by
  unfold cutV
  rw [HT.sIx_none, List.drop_zero, Nat.sub_zero, List.dropLast_eq_take]
  congr 1
  simp [HT.sIx]
  omega
theorem cutV_mid (xs : List V) (a b : Nat) (hab : a ≤ b) : cutV xs (some (a : Int)) (some (b : Int)) = (xs.drop a).take (b - a) := by
  unfold cutV
  rw [HT.sIx_nat, HT.sIx_nat]
  by_cases ha : a ≤ xs.length
  · rw [Nat.min_eq_left ha]
    by_cases hb : b ≤ xs.length
    · rw [Nat.min_eq_left hb]
    · rw [Nat.min_eq_right (show xs.length ≤ b by omega), List.take_of_length_le (by rw [List.length_drop]; exact Nat.le_refl _), List.take_of_length_le (by rw [List.length_drop]; omega)]
  · rw [Nat.min_eq_right (show xs.length ≤ a by omega), List.drop_of_length_le (Nat.le_refl _), List.drop_of_length_le (show xs.length ≤ a by omega)]
    simp
theorem same_new {H : Hp} {p : Addr} {o : HO} (h : H p = none) : Same H (upd H p o) := (Same.refl H).upd h
/-- all that was tracked but at p is as it was -/
theorem same_upd {H H' : Hp} {p : Addr} {o : HO} (e : Same H H') (h : H p = none) : Same H (upd H' p o) := e.upd h
end L2

namespace L2
open PySem PySem.Spec PyProof.Rows
theorem g_in {i : Nat} {v : V} {σ : L2.St} {H : Hp} {N : L2.St → Hp → Prop} (h : N (σ.set i (some v)) H) : gName i v σ H N := h
section
variable {X : Cx}
theorem mr_append : MtR X "list.append" rAppend := mt_append
theorem mr_extend : MtR X "list.extend" rExtend := mt_extend
theorem mr_reverse : MtR X "list.reverse" rReverse := mt_reverse
theorem mr_clear : MtR X "list.clear" rClear := mt_clear
end
abbrev xMod : R2 := rI (fun _ j => 0 < j) fun i j => .int (i % j)
abbrev xDiv : R2 := rI CDiv fun i j => .int (i / j)
abbrev xMul : R2 := rI CMul fun i j => .int (i * j)
abbrev xAdd : R2 := rI0 fun i j => .int (i + j)
abbrev xSub : R2 := rI0 fun i j => .int (i - j)
end L2

namespace L2
open PySem PySem.Spec PyProof.Rows
section
variable {X : Cx}
/-- d.setdefault(k, x) -/
def rSetD : V → List V → Hp → VK → Prop := fun x vs H Q => ∃ a kvs k d, x = .ref a ∧ vs = [kV k, d] ∧ H a = some (.dK kvs) ∧ kvs.length < sizeLine ∧ (∀ v, valV kvs k = some v → Q v H) ∧ (valV kvs k = none → Q d (upd H a (.dK (putK kvs k d))))
theorem mt_setdefault : MtR X "dict.setdefault" rSetD := by
  intro pins s σ H x vs v us Q I rx rv h
  obtain ⟨a, kvs, k, d, rfl, rfl, hd, hz, q1, q2⟩ := h
  cases rx
  obtain ⟨u, r, rfl, ru, rr⟩ := vals2 rv
  obtain ⟨z, hm, ws, rel, dd⟩ := dk_of I.hok hd
  have hl : ws.length ≤ sizeLine := by rw [← rel.length]; exact z
  have hv := rel.val k
  refine call_meetsIn PySem.F.slot_dict_setdefault dd.typeIs PySem.F.entry_dict_setdefault (PySem.F.args_dict_setdefault_3 _ _ _) (kt_meets_setdefault (mixKind X.prog X.w) a (kV_is ru) hm r)
    ⟨ws, dd, hl, fun y hy => ?_, fun hn h' dd' hs => ?_⟩
  · rw [hy] at hv
    cases e : valV kvs k with
    | none => rw [e] at hv; exact False.elim hv
    | some v0 =>
      rw [e] at hv
      exact ⟨v0, H, I.tok _, hv, q1 v0 e⟩
  · rw [hn] at hv
    cases e : valV kvs k with
    | some v0 => rw [e] at hv; exact False.elim hv
    | none =>
      have hl : (putK kvs k d).length ≤ sizeLine := by have := length_putK kvs k d; omega
      have he : ∃ q, h'.get? a = some q := let ⟨q, _, _, hq, _⟩ := dd'; ⟨q, hq⟩
      exact ⟨d, _, d_write I (by rw [hd]; exact True.intro) hs he (dk_new hl hm (rel.put k rr) dd'), rr, q2 e⟩
/-- d.get(k, x) -/
def rGetD : V → List V → Hp → VK → Prop := fun x vs H Q => ∃ a y z o, x = .ref a ∧ vs = [y, z] ∧ DGet H a y o ∧ Q (o.getD z) H
theorem mt_get (hu : X.A.units + 1 < cLine) : MtR X "dict.get" rGetD := by
  intro pins s σ H x vs v us Q I rx rv h
  obtain ⟨a, y, z, o, rfl, rfl, g, q⟩ := h
  cases rx
  obtain ⟨u, r, rfl, ru, rr⟩ := vals2 rv
  exact d_get2 hu I g ru rr fun w' s' I' rw' => ⟨_, H, I', rw', q⟩
/-- in, not in a dict; d[k] -/
def rInDict (neg : Bool) : R2 := fun x y H Q => ∃ a o, y = .ref a ∧ DGet H a x o ∧ Q (.bl (o.isSome != neg)) H
theorem op_inDict (hu : X.A.units + 1 < cLine) : OpR X (compareOp .In) (rInDict false) := by
  intro pins s σ H x y v u Q I rx ry h
  obtain ⟨a, o, rfl, g, q⟩ := h
  cases ry
  refine d_in hu I g rx fun s' I' => ⟨.bl _, H, I', ?_, q⟩
  cases o <;> rfl
theorem op_notinDict (hu : X.A.units + 1 < cLine) : OpR X (compareOp .NotIn) (rInDict true) := by
  intro pins s σ H x y v u Q I rx ry h
  obtain ⟨a, o, rfl, g, q⟩ := h
  cases ry
  refine d_notIn hu I g rx fun s' I' => ⟨.bl _, H, I', ?_, q⟩
  cases o <;> rfl
/-- d[k] = v as a target -/
def rSetDict : V → V → V → Hp → (Hp → Prop) → Prop := fun o i v H Q => ∃ a H', o = .ref a ∧ DPut H a i v H' ∧ Q H'
theorem set_dict (hu : X.A.units + 1 < cLine) : PSet X rSetDict := by
  intro pins s σ H o i v ov iv u Q I ro ri rv h
  obtain ⟨a, H', rfl, g, q⟩ := h
  cases ro
  exact d_setItem hu I g ri rv fun s' I' => ⟨H', I', q⟩
/-- the truth of a list -/
theorem pt_list {a : Expr} {ta : TE} (ha : PE X a ta) (he : ∀ whole, isTrue a X.env whole = (do let v ← whole; standAt a.pos; holding [v] (truthy v)) := by intro _; rfl) :
    PT X a (fun σ H Q => ta σ H fun x H1 => ∃ p xs, x = .ref p ∧ SqL X.K H1 p xs ∧ Q (!xs.isEmpty) H1) := by
  intro pins s σ H Q I hw
  refine isTrue_plain (thn (ha pins s σ H _ I hw) fun v s1 ⟨x, H1, I1, r1, q1⟩ => ?_) (he _)
  obtain ⟨p, xs, rfl, hq, q⟩ := q1
  exact tru_ok pins s1 σ H1 _ v Q I1 r1 ⟨_, Or.inl ⟨xs, hq, rfl⟩, q⟩
end
theorem map_cell {f : Str × NameKind → Str × NameKind} (hf : ∀ n k, f (n, k) = (n, k) ∨ (k = .free ∧ f (n, k) = (n, NameKind.cell))) : ∀ {names : List (Str × NameKind)} {x : Str}, names.lookup x = some .cell → (names.map f).lookup x = some .cell
  | [], _, h => by simp at h
  | (n, k) :: r, x, h => by
    have ih := @map_cell f hf r x
    rw [List.lookup_cons] at h
    rw [List.map_cons]
    cases hx : x == n with
    | true =>
      rw [hx] at h
      cases h
      rcases hf n .cell with e | ⟨z, _⟩
      · rw [e, List.lookup_cons, hx]
      · cases z
    | false =>
      rw [hx] at h
      rcases hf n k with e | ⟨_, e⟩
      · rw [e, List.lookup_cons, hx]; exact ih h
      · rw [e, List.lookup_cons, hx]; exact ih h
/-- a comprehension within a comprehension -/
theorem CompScope.re {psc : Scope} {PN : List Str} {scope : Scope} {N : List Str} {k : Nat} {caps : List Nat} (S : CompScope psc PN scope N k caps) (env : Env) : CompScope (relabel psc env) PN scope N k caps :=
  ⟨S.kind, S.loc, S.ndn, S.nd, S.len, fun x hx hf => by
    rcases S.free x hx hf with h | h
    · left
      refine map_cell (fun n k => ?_) h
      by_cases hc : (k == NameKind.free && env.scope.kind == .function && env.kindOf n == some .cell) = true
      · right
        refine ⟨?_, if_pos hc⟩
        simp only [Bool.and_eq_true, beq_iff_eq] at hc
        exact hc.1.1
      · left; exact if_neg hc
    · exact relabel_free h, S.cap⟩
end L2

namespace L2
open PySem PySem.Spec PyProof.Rows
/-! ### set(xs) of a list of texts, its length -/
/-- the texts met so far, each once -/
def metS (f : Nat → Str) (i : Nat) : List Str := ((List.range i).map f).foldl step_dedup []
theorem metS_succ (f : Nat → Str) (i : Nat) : metS f (i + 1) = step_dedup (metS f i) (f i) := by
  unfold metS
  rw [List.range_succ, List.map_append, List.foldl_append]
  rfl
theorem dd_len (l : List Str) (x : Str) : (step_dedup l x).length = if l.any (· == x) then l.length else l.length + 1 := by
  unfold step_dedup
  split <;> simp
theorem dd_any (l : List Str) (x y : Str) : (step_dedup l x).any (· == y) = (l.any (· == y) || decide (y = x)) := by
  unfold step_dedup
  by_cases h : l.any (· == x) = true
  · rw [if_pos h]
    by_cases e : y = x
    · subst e; rw [h]; rfl
    · rw [decide_eq_false e, Bool.or_false]
  · rw [if_neg h, List.any_append]
    congr 1
    by_cases e : y = x
    · subst e; simp
    · rw [decide_eq_false e]
      simp
      exact fun z => e z.symm
theorem metS_le (f : Nat → Str) : ∀ i, (metS f i).length ≤ i
  | 0 => Nat.le_refl _
  | i + 1 => by
    have := metS_le f i
    rw [metS_succ, dd_len]
    split <;> omega
theorem metS_any (f : Nat → Str) : ∀ (i : Nat) (y : Str), (metS f i).any (· == y) = true ↔ ∃ j, j < i ∧ f j = y
  | 0, y => by
    constructor
    · intro h; cases h
    · rintro ⟨j, h, _⟩; omega
  | i + 1, y => by
    rw [metS_succ, dd_any, Bool.or_eq_true, metS_any f i y, decide_eq_true_iff]
    constructor
    · rintro (⟨j, h, e⟩ | e)
      · exact ⟨j, by omega, e⟩
      · exact ⟨i, by omega, e.symm⟩
    · rintro ⟨j, h, e⟩
      by_cases hj : j = i
      · subst hj; exact .inr e.symm
      · exact .inl ⟨j, by omega, e⟩
theorem metS_iff (f : Nat → Str) : ∀ i, (metS f i).length = i ↔ ∀ a b, a < b → b < i → f a ≠ f b
  | 0 => ⟨fun _ a b _ h => by omega, fun _ => rfl⟩
  | i + 1 => by
    have ih := metS_iff f i
    have hle := metS_le f i
    rw [metS_succ, dd_len]
    constructor
    · intro h a b hab hb e
      split at h
      · omega
      · rename_i hn
        have hi : (metS f i).length = i := by omega
        by_cases hbi : b = i
        · subst hbi
          exact hn ((metS_any f b _).mpr ⟨a, hab, e⟩)
        · exact ih.mp hi a b hab (by omega) e
    · intro h
      have hi : (metS f i).length = i := ih.mpr fun a b hab hb => h a b hab (by omega)
      rw [if_neg, hi]
      intro hn
      obtain ⟨j, hj, e⟩ := (metS_any f i _).mp hn
      exact h j i hj (by omega) e
section
variable {prog : Program} {w : World} {A : Around} {R : Result → Shared → Prop} {It : Addr} {fp wr : List Addr} {G : Array GenState → Array GenState → Prop} {n : Nat} {Pn : Nat → Value → Prop} {Sn : Nat → Shared → Prop}
theorem set_loopS (Wk : WalksS prog w A.in1 It fp wr G n Pn Sn) (D : Addr) (nD : D ∉ fp) (f : Nat → Str) (hf : ∀ i v, Pn i v → ∃ t, v = .str (f i) t) (small : n + 1 < scanBound) :
    ∀ (k i : Nat) (s : Shared), n - i = k → i ≤ n → Sn i s → s.heap.SetOf (strKind prog w) D (fun y => (metS f i).any (· == y)) (metS f i).length →
      (∀ s', Moved (D :: wr) G s s' → s'.heap.SetOf (strKind prog w) D (fun y => (metS f n).any (· == y)) (metS f n).length → R (.ok (.ret .none)) s') →
      codeAny (model prog w) A (.builtin "set.update.loop" ⟨[.ref D, .ref It], []⟩) R s := by
  have nDw : D ∉ wr := fun z => nD (Wk.sub _ z)
  have sub : ∀ b ∈ wr, b ∈ D :: wr := fun b z => List.mem_cons_of_mem _ z
  intro k
  induction k with
  | zero =>
    intro i s hk hi st hS fin
    obtain rfl : i = n := by omega
    refine codeAny_builtin F.entry_set_update_loop ?_
    rw [Around.under_plainId F.plain_set_update_loop _]
    show wpAny _ A.in1 (pyNext (.ref It) >>= _) _ _ s
    refine wpAny_bind (Wk.done s _ _ st fun s2 mv => ?_)
    show wpAny _ A.in1 (ret Value.none) _ _ s2
    refine wpAny_pure (fin s2 (mv.mono sub) ?_)
    obtain ⟨ob, es, ep, tb, e, more⟩ := hS
    exact ⟨ob, es, ep, tb, mv.heap D _ nDw e, more⟩
  | succ k ih =>
    intro i s hk hi st hS fin
    have lt : i < n := by omega
    refine codeAny_builtin F.entry_set_update_loop ?_
    rw [Around.under_plainId F.plain_set_update_loop _]
    show wpAny _ A.in1 (pyNext (.ref It) >>= _) _ _ s
    refine wpAny_bind (Wk.item i s _ _ lt st fun v s2 pv st2 mv => ?_)
    obtain ⟨t, rfl⟩ := hf i v pv
    have hS2 : s2.heap.SetOf (strKind prog w) D (fun y => (metS f i).any (· == y)) (metS f i).length := by
      obtain ⟨ob, es, ep, tb, e, more⟩ := hS
      exact ⟨ob, es, ep, tb, mv.heap D _ nDw e, more⟩
    show wpAny _ A.in1 (holding [Value.str (f i) t] (setAdd D (.str (f i) t)) >>= _) _ _ s2
    refine wpAny_bind (wpAny_holding ?_)
    unfold setAdd
    refine wpAny_holding ?_
    have isk : (strKind prog w).is (f i) (.str (f i) t) = true := strKind_is _ _ _ _
    refine wpAny_bind ((strKind prog w).pyHash (k := f i) isk ?_)
    have room : (metS f i).length + 1 < scanBound := by have := metS_le f i; omega
    refine wpAny_setAddHashed_of (knd := strKind prog w) (s := { s2 with toks := s2.toks + 1 }) isk rfl hS2 room fun h3 sb hS3 => ?_
    have hS4 : h3.SetOf (strKind prog w) D (fun y => (metS f (i + 1)).any (· == y)) (metS f (i + 1)).length :=
      SetOf_congr hS3 (fun y => by rw [metS_succ, dd_any]) (by rw [metS_succ, dd_len])
    refine wpAny_pure ⟨plainId_quiet F.plain_set_update_loop _, ih (i + 1) _ (by omega) lt (Wk.frame _ s2 _ _ st2 (Nat.le_succ _) fun b hb o e => ?_) hS4 fun s5 mv5 hS5 => ?_⟩
    · rw [sb.2 b fun z : b = D => nD (by rw [← z]; exact hb)]
      exact e
    · refine fin s5 (Moved.trans Wk.gtrans ((mv.mono sub).then_heap (Nat.le_succ _) fun b o hb e => ?_) mv5) hS5
      rw [sb.2 b fun z : b = D => hb (by rw [z]; exact List.mem_cons_self)]
      exact e
end
/-- a new set's object -/
abbrev setNew (b : Bool) : Obj := { cls := .type "set", dict := none, data := .set #[] 0 (.fresh 0 0 b) }
section
variable {prog : Program} {w : World} {A : Around} {E : Value → Shared → Prop} {s : Shared}
set_option maxRecDepth 100000 in
set_option maxHeartbeats 3200000 in
theorem call_set_strs {l : Addr} {its : Array Value} {f : Nat → Str} {Q : Value → Shared → Prop} (hh : A.handled = none) (hl : s.heap.IsList l its) (hi : ∀ (i : Nat) (v : Value), its[i]? = some v → ∃ t, v = .str (f i) t) (hb : its.size + 1 < scanBound)
    (h : ∀ (h' : Heap) (tk : Nat), h'.SetOf (strKind prog w) s.heap.objs.size (fun y => (metS f its.size).any (· == y)) (metS f its.size).length →
      (∀ b o, b < s.heap.objs.size → s.heap.get? b = some o → h'.get? b = some o) → Q (.ref s.heap.objs.size) { s with heap := h', toks := tk }) :
    wpAny (model prog w) A (call (.type "set") [.ref l]) Q E s := by
  obtain ⟨c, tl, hmro⟩ := F.called_set.mro
  have hmade := F.called_set.made
  have hsub := F.called_set.sub
  refine wpAny_call (codeAny_of_tree ?_)
  show wpAny _ _ (callAny (.type "set") _) _ _ _
  refine wpAny_pure ⟨Code.quiet_builtin _ (by decide +kernel), codeAny_builtin F.entry_type_call ?_⟩
  rw [Around.under_plain (weight_type_call_type "set" [.ref l] []) rfl]
  have h1 := F.called_set.notType
  have h2 := F.called_set.canCreate
  have hct := F.typeCall_set_1 (.ref l)
  repeat (any_goals (first | assumption | wp_step))
  refine codeAny_mono (code_set_new_1 (.ref l) (E := E) (Q₁ := fun ob s1 => ∃ b : Bool, ob = .ref s.heap.objs.size ∧ s1 = { s with heap := s.heap.push (setNew b) }) fun b => ⟨b, rfl, rfl⟩) fun r s1 hr => ?_
  cases r with
  | error e => exact hr
  | ok fl =>
    cases fl with
    | ret ob =>
      obtain ⟨b0, rfl, rfl⟩ := hr
      have hS : (s.heap.push (setNew b0)).get? s.heap.objs.size = some (setNew b0) := Heap.get?_push_size _ rfl
      have hT : Shared.TypeIs { s with heap := s.heap.push (setNew b0) } (.ref s.heap.objs.size) "set" := ⟨_, hS, rfl⟩
      have hli := F.called_set.init.lookup
      have hbi := F.called_set.init.bind (.ref s.heap.objs.size)
      repeat (any_goals (first | assumption | wp_step))
      refine codeAny_mono (codeAny_call_builtin (R := wants (fun r s2 => r = .none ∧ ∃ h' tk, s2 = { s with heap := h', toks := tk } ∧ h'.SetOf (strKind prog w) s.heap.objs.size (fun y => (metS f its.size).any (· == y)) (metS f its.size).length ∧
          (∀ b o, b < s.heap.objs.size → s.heap.get? b = some o → h'.get? b = some o)) E) F.called_set.init.plain F.entry_set_init (check_set_init_1 hT ?_)) fun r2 s2 hr2 => ?_
      · obtain ⟨⟨oc, od, oda, osl⟩, hol, hcl, nl, hdl⟩ := hl
        simp only at hcl hdl
        subst hcl; subst hdl
        have hol2 : (s.heap.push (setNew b0)).get? l = some { cls := .type "list", dict := od, data := .seq its nl, slots := osl } := Heap.get?_push_of_some _ hol
        have hsls := F.sub_list_set
        have hslf := F.sub_list_frozenset
        have hne : (Value.type "list" == Value.type "dict") = false := by decide
        have hl1 : (s.heap.push (setNew b0)).IsList l its := ⟨_, hol2, rfl, nl, rfl⟩
        unfold Builtin.«set.__init__» noKeywords Builtin.Frozenset.updateFrom
        generalize hPI : pyIter = PI
        wp_walk
        subst hPI
        refine wpAny_pyIter_list hl1 (wpAny_bind (wpAny_runValue ?_))
        have ltl : l < s.heap.objs.size := Heap.lt_size hol
        have hh3 : A.in1.in1.in1.handled = none := by simp [hh]
        have neI : l ≠ (s.heap.push (setNew b0)).objs.size := by
          rw [Heap.size_push]
          exact Nat.ne_of_lt (Nat.lt_succ_of_lt ltl)
        have nSf : s.heap.objs.size ∉ [(s.heap.push (setNew b0)).objs.size, l] := by
          rw [Heap.size_push]
          intro z
          rcases List.mem_cons.mp z with z | z
          · exact absurd z (Nat.ne_of_lt (Nat.lt_succ_self _))
          · exact absurd (List.mem_singleton.mp z) (Nat.ne_of_gt ltl)
        refine set_loopS ((Walks.list hh3 _ l neI its).toS) s.heap.objs.size nSf f hi hb (its.size - 0) 0 _ (by omega) (Nat.zero_le _) ⟨⟨_, Heap.get?_push_size _ rfl, rfl, rfl⟩, (hl1.push _)⟩ ?hS0 ?hR
        case hS0 =>
          have hg : ((s.heap.push (setNew b0)).push { cls := .type "list_iterator", data := .fields #[.ref l, .int 0 0] }).get? s.heap.objs.size = some (setNew b0) := Heap.get?_push_of_some _ hS
          exact SetOf_congr ((setObjOf_fresh (knd := strKind prog w) b0).setOf hg (by unfold scanBound; omega)) (fun _ => rfl) rfl
        case hR =>
          rintro ⟨h', g', d', tk', os'⟩ mv hS'
          obtain rfl : g' = s.gens := mv.gens
          obtain rfl : d' = s.drawn := mv.drawn
          obtain rfl : os' = s.os := mv.os
          show wpAny _ _ _ _ _ _
          refine wpAny_pure ?_
          show wpAny _ _ (ret Value.none) _ _ _
          refine wpAny_pure ⟨rfl, h', tk', rfl, hS', fun b o hb e => ?_⟩
          refine mv.heap b o (fun z => ?_) (Heap.get?_push_of_some _ (Heap.get?_push_of_some _ e))
          rcases List.mem_cons.mp z with z | z
          · exact absurd z (Nat.ne_of_lt hb)
          · have z' := List.mem_singleton.mp z
            rw [Heap.size_push] at z'
            exact absurd z' (Nat.ne_of_lt (Nat.lt_succ_of_lt hb))
      · cases r2 with
        | error e => exact hr2
        | ok fl2 =>
          cases fl2 with
          | ret r =>
            obtain ⟨rfl, h', tk, rfl, hS', hk'⟩ := hr2
            repeat (any_goals (first | assumption | wp_step))
            exact h _ _ hS' hk'
          | _ => exact hr2.elim
    | _ => exact hr.elim
end
end L2

namespace L2
open PySem PySem.Spec PyProof.Rows
/-- a set of texts of n members -/
def SetS (P : Program) (w : World) (a : Addr) (n : Nat) : HO := .ext fun h => ∃ S, h.SetOf (strKind P w) a S n
section
variable {X : Cx}
def rSetS (P : Program) (w : World) (K : PySem.W.Frag) : List V → Hp → VK → Prop := fun vs H Q => ∃ (p : Addr) (xs : List Str), vs = [.ref p] ∧ SqL K H p (xs.map V.str) ∧ xs.length ≤ 1000 ∧ ∀ q n, (n = xs.length ↔ xs.Nodup) → H q = none → Q (.ref q) (upd H q (SetS P w q n))
theorem strs_at {xs : List Str} {its : List Value} (r : Vals (xs.map V.str) its) : ∀ (i : Nat) (v : Value), its.toArray[i]? = some v → ∃ t, v = .str (xs.getD i default) t := by
  intro i v hv
  have hv' : its[i]? = some v := by simpa using hv
  have hl := r.length
  rw [List.length_map] at hl
  have hi : i < xs.length := by
    have := (List.getElem?_eq_some_iff.mp hv').1
    omega
  obtain ⟨u, hu, ru⟩ := r.get (i := i) (x := .str xs[i]) (by rw [List.getElem?_map, List.getElem?_eq_getElem hi]; rfl)
  rw [hv'] at hu
  cases hu
  rw [List.getD_eq_getElem?_getD, List.getElem?_eq_getElem hi]
  exact ru
theorem nodup_at {xs : List Str} : (∀ a b, a < b → b < xs.length → xs.getD a default ≠ xs.getD b default) ↔ xs.Nodup := by
  unfold List.Nodup
  rw [List.pairwise_iff_getElem]
  constructor
  · intro h i j hi hj hij
    have := h i j hij hj
    rwa [List.getD_eq_getElem?_getD, List.getD_eq_getElem?_getD, List.getElem?_eq_getElem hi, List.getElem?_eq_getElem hj] at this
  · intro h a b hab hb
    have := h a b (by omega) hb hab
    rw [List.getD_eq_getElem?_getD, List.getD_eq_getElem?_getD, List.getElem?_eq_getElem (by omega), List.getElem?_eq_getElem hb]
    exact this
theorem call_set_of (hc : X.calm = true) : CallR X (.type "set") (rSetS X.prog X.w X.K) := by
  intro pins s σ H vs us Q I r h
  obtain ⟨p, xs, rfl, hq, hz, q⟩ := h
  obtain ⟨u, rfl, ru⟩ := vals1 r
  obtain rfl : u = Value.ref p := ru
  obtain ⟨its, rv, pl, _⟩ := I.list hq
  have hl := rv.length
  rw [List.length_map] at hl
  have hsz : its.toArray.size = xs.length := by rw [List.size_toArray, hl]
  refine call_set_strs (f := fun i => xs.getD i default) (I.ok.hd hc) pl.isList (strs_at rv) (by rw [hsz]; unfold scanBound; omega) fun h' tk hS k => ?_
  have hn : (metS (fun i => xs.getD i default) its.toArray.size).length = xs.length ↔ xs.Nodup := by
    rw [hsz, metS_iff, nodup_at]
  have kk : ∀ b u, s.heap.get? b = some u → h'.get? b = some u := fun b u e => k b u (Heap.lt_size e) e
  refine ⟨.ref s.heap.objs.size, upd H s.heap.objs.size (SetS X.prog X.w s.heap.objs.size _), I.laid (t' := tk) kk (Nat.le_refl _) ?_, rfl, q _ _ hn I.fresh⟩
  refine ⟨⟨_, hS⟩, ?_, fun h1 h2 ⟨S, o, es, ep, t, e, more⟩ hk => ⟨S, o, es, ep, t, hk o e, more⟩⟩
  obtain ⟨o, _, _, _, e, _⟩ := hS
  exact ⟨o, e⟩
/-- len of such a set -/
theorem call_len_setS : CallR X (.builtin "len") (fun vs H Q => ∃ q n, vs = [.ref q] ∧ H q = some (SetS X.prog X.w q n) ∧ n ≤ 1000 ∧ Q (.int n) H) := by
  intro pins s σ H vs us Q I r h
  obtain ⟨a, n, rfl, e, hn, q⟩ := h
  obtain ⟨u, rfl, ru⟩ := vals1 r
  obtain rfl : u = Value.ref a := ru
  obtain ⟨⟨S, o, es, ep, t, ho, hex, hd, _, _, _, hf, hsz⟩, _, _⟩ := I.hok a _ e
  subst hsz
  exact PySem.call_len_set ho hex hd hf (by omega) ⟨.int _, H, I.tok _, ⟨_, rfl⟩, q⟩
end
end L2

namespace L2
open PySem PySem.Spec PyProof.Rows PySem.SeqAt

/-! ### deep data: what == tells apart -/
inductive Dt where
  | non | bl (b : Bool) | int (i : Int) | str (x : Str) | tup (l : List Dt) | lst (l : List Dt)
mutual
/-- v stands for d in the abstract heap H -/
inductive IsDt (K : PySem.W.Frag) (H : Hp) : V → Dt → Prop where
  | non : IsDt K H .non .non
  | bl (b : Bool) : IsDt K H (.bl b) (.bl b)
  | int (i : Int) : IsDt K H (.int i) (.int i)
  | str (x : Str) : IsDt K H (.str x) (.str x)
  | tup {a : Addr} {vs : List V} {ds : List Dt} (h : SqT K H a vs) (t : IsDts K H vs ds) : IsDt K H (.ref a) (.tup ds)
  | lst {a : Addr} {vs : List V} {ds : List Dt} (h : SqL K H a vs) (t : IsDts K H vs ds) : IsDt K H (.ref a) (.lst ds)
inductive IsDts (K : PySem.W.Frag) (H : Hp) : List V → List Dt → Prop where
  | nil : IsDts K H [] []
  | cons {v : V} {d : Dt} {vs : List V} {ds : List Dt} (h : IsDt K H v d) (t : IsDts K H vs ds) : IsDts K H (v :: vs) (d :: ds)
end
mutual
theorem IsDt.same {K : PySem.W.Frag} {H H' : Hp} (e : Same H H') : ∀ {v : V} {d : Dt}, IsDt K H v d → IsDt K H' v d
  | _, _, .non => .non
  | _, _, .bl b => .bl b
  | _, _, .int i => .int i
  | _, _, .str x => .str x
  | _, _, .tup h t => .tup (e.seqT h) (IsDts.same e t)
  | _, _, .lst h t => .lst (e.seq h) (IsDts.same e t)
theorem IsDts.same {K : PySem.W.Frag} {H H' : Hp} (e : Same H H') : ∀ {vs : List V} {ds : List Dt}, IsDts K H vs ds → IsDts K H' vs ds
  | _, _, .nil => .nil
  | _, _, .cons h t => .cons (IsDt.same e h) (IsDts.same e t)
end
theorem IsDts.length {K : PySem.W.Frag} {H : Hp} : ∀ {vs : List V} {ds : List Dt}, IsDts K H vs ds → vs.length = ds.length
  | _, _, .nil => rfl
  | _, _, .cons _ t => congrArg (· + 1) t.length
theorem IsDts.get {K : PySem.W.Frag} {H : Hp} : ∀ {vs : List V} {ds : List Dt} {i : Nat} {v : V}, IsDts K H vs ds → vs[i]? = some v → ∃ d, ds[i]? = some d ∧ IsDt K H v d
  | _, _, _, _, .nil, e => by simp at e
  | _, _, 0, _, .cons h _, e => by simp at e; subst e; exact ⟨_, rfl, h⟩
  | _, _, i + 1, v, .cons _ t, e => by
    obtain ⟨d, h1, h2⟩ := IsDts.get (i := i) (v := v) t (by simpa using e)
    exact ⟨d, by simpa using h1, h2⟩
theorem IsDts.get' {K : PySem.W.Frag} {H : Hp} : ∀ {vs : List V} {ds : List Dt} {i : Nat} {d : Dt}, IsDts K H vs ds → ds[i]? = some d → ∃ v, vs[i]? = some v ∧ IsDt K H v d
  | _, _, _, _, .nil, e => by simp at e
  | _, _, 0, _, .cons h _, e => by simp at e; subst e; exact ⟨_, rfl, h⟩
  | _, _, i + 1, v, .cons _ t, e => by
    obtain ⟨d, h1, h2⟩ := IsDts.get' (i := i) (d := v) t (by simpa using e)
    exact ⟨d, by simpa using h1, h2⟩
theorem IsDts.append {K : PySem.W.Frag} {H : Hp} : ∀ {vs us : List V} {ds es : List Dt}, IsDts K H vs ds → IsDts K H us es → IsDts K H (vs ++ us) (ds ++ es)
  | _, _, _, _, .nil, t => t
  | _, _, _, _, .cons h r, t => .cons h (IsDts.append r t)
theorem IsDts.take {K : PySem.W.Frag} {H : Hp} : ∀ {vs : List V} {ds : List Dt} (n : Nat), IsDts K H vs ds → IsDts K H (vs.take n) (ds.take n)
  | _, _, 0, _ => .nil
  | _, _, _ + 1, .nil => .nil
  | _, _, n + 1, .cons h t => .cons h (IsDts.take n t)
theorem IsDts.drop {K : PySem.W.Frag} {H : Hp} : ∀ {vs : List V} {ds : List Dt} (n : Nat), IsDts K H vs ds → IsDts K H (vs.drop n) (ds.drop n)
  | _, _, 0, r => r
  | _, _, _ + 1, .nil => .nil
  | _, _, n + 1, .cons _ t => IsDts.drop n t
theorem IsDts.strs {K : PySem.W.Frag} {H : Hp} : ∀ (xs : List Str), IsDts K H (xs.map V.str) (xs.map Dt.str)
  | [] => .nil
  | x :: xs => .cons (.str x) (IsDts.strs xs)
section
variable {X : Cx} {pins : List (Addr × Obj)} {σ : St} {H : Hp} {s : Shared}
theorem Inv.not_both (I : Inv X pins σ H s) {a : Addr} {xs ys : List V} (h : SqL X.K H a xs) (h' : SqT X.K H a ys) : False := by
  obtain ⟨_, _, ⟨o, n, e, c, _⟩, _⟩ := I.list h
  obtain ⟨_, _, ⟨o', e', c', _⟩, _⟩ := I.tuple h'
  rw [e] at e'; cases e'
  rw [c] at c'
  exact absurd c' (by decide)
mutual
theorem IsDt.inj (I : Inv X pins σ H s) : ∀ {v : V} {d e : Dt}, IsDt X.K H v d → IsDt X.K H v e → d = e
  | _, _, _, .non, .non => rfl
  | _, _, _, .bl _, .bl _ => rfl
  | _, _, _, .int _, .int _ => rfl
  | _, _, _, .str _, .str _ => rfl
  | _, _, _, .tup h t, .tup h' t' => by
    have e := I.tuple_inj h h'
    subst e
    rw [IsDts.inj I t t']
  | _, _, _, .lst h t, .lst h' t' => by
    have e := I.list_inj h h'
    subst e
    rw [IsDts.inj I t t']
  | _, _, _, .tup h _, .lst h' _ => (I.not_both h' h).elim
  | _, _, _, .lst h _, .tup h' _ => (I.not_both h h').elim
theorem IsDts.inj (I : Inv X pins σ H s) : ∀ {vs : List V} {ds es : List Dt}, IsDts X.K H vs ds → IsDts X.K H vs es → ds = es
  | _, _, _, .nil, .nil => rfl
  | _, _, _, .cons h t, .cons h' t' => by rw [IsDt.inj I h h', IsDts.inj I t t']
end
end
/-! ### comparable to a depth -/
def Dt.kd : Dt → Nat
  | .non => 0 | .bl _ => 1 | .int _ => 2 | .str _ => 3 | .tup _ => 4 | .lst _ => 5
/-- of unlike kinds, and not a truth and an int -/
def Apart (a b : Nat) : Bool := a != b && !(a == 1 && b == 2) && !(a == 2 && b == 1)
mutual
inductive Cmp : Nat → Dt → Dt → Prop where
  | non {n : Nat} : Cmp n .non .non
  | bl {n : Nat} (a b : Bool) : Cmp n (.bl a) (.bl b)
  | int {n : Nat} (a b : Int) : Cmp n (.int a) (.int b)
  | str {n : Nat} (a b : Str) : Cmp n (.str a) (.str b)
  | tup {n : Nat} {ds es : List Dt} (t : Cmps n ds es) : Cmp (n + 1) (.tup ds) (.tup es)
  | lst {n : Nat} {ds es : List Dt} (t : Cmps n ds es) : Cmp (n + 1) (.lst ds) (.lst es)
  | apart {n : Nat} {d e : Dt} (h : Apart d.kd e.kd = true) : Cmp (n + 1) d e
inductive Cmps : Nat → List Dt → List Dt → Prop where
  | nil {n : Nat} (es : List Dt) : Cmps n [] es
  | nil' {n : Nat} (ds : List Dt) : Cmps n ds []
  | cons {n : Nat} {d e : Dt} {ds es : List Dt} (h : Cmp n d e) (t : Cmps n ds es) : Cmps n (d :: ds) (e :: es)
end
theorem Cmps.of {n : Nat} : ∀ {ds es : List Dt}, (∀ d ∈ ds, ∀ e ∈ es, Cmp n d e) → Cmps n ds es
  | [], es, _ => .nil es
  | d :: ds, [], _ => .nil' _
  | d :: ds, e :: es, h => .cons (h d (by simp) e (by simp)) (Cmps.of fun x hx y hy => h x (by simp [hx]) y (by simp [hy]))
theorem Cmps.get {n : Nat} : ∀ {ds es : List Dt} {i : Nat} {d e : Dt}, Cmps n ds es → ds[i]? = some d → es[i]? = some e → Cmp n d e
  | _, _, _, _, _, .nil _, h, _ => by simp at h
  | _, _, _, _, _, .nil' _, _, h => by simp at h
  | _, _, 0, _, _, .cons h _, e1, e2 => by simp at e1 e2; subst e1; subst e2; exact h
  | _, _, i + 1, _, _, .cons _ t, e1, e2 => Cmps.get (i := i) t (by simpa using e1) (by simpa using e2)
open Classical in
/-- the truth of a proposition -/
noncomputable def dec (p : Prop) : Bool := decide p
theorem dec_true {p : Prop} (h : p) : dec p = true := @decide_eq_true p (Classical.propDecidable p) h
theorem dec_false {p : Prop} (h : ¬ p) : dec p = false := @decide_eq_false p (Classical.propDecidable p) h
theorem dec_iff {p : Prop} : dec p = true ↔ p := ⟨fun h => @of_decide_eq_true p (Classical.propDecidable p) h, dec_true⟩
theorem dec_not {p : Prop} (h : dec p = false) : ¬ p := fun q => by rw [dec_true q] at h; cases h
theorem dec_congr {p q : Prop} (h : p ↔ q) : dec p = dec q := by rw [propext h]
theorem dec_decide {p : Prop} [Decidable p] : dec p = decide p := by
  by_cases h : p
  · rw [dec_true h, decide_eq_true h]
  · rw [dec_false h, decide_eq_false h]
theorem dec_beq {α : Type} [BEq α] [LawfulBEq α] {a b : α} {p : Prop} (h : p ↔ a = b) : (a == b) = dec p := by
  by_cases e : a = b
  · subst e; rw [dec_true (h.mpr rfl)]; exact beq_self_eq_true _
  · rw [dec_false fun q => e (h.mp q)]; exact beq_false_of_ne e
theorem list_ext_iff {ds es : List Dt} (hl : ds.length = es.length) (h : ∀ i, i < ds.length → ds[i]? = es[i]?) : ds = es := List.ext_getElem? fun i => by
  by_cases hi : i < ds.length
  · exact h i hi
  · rw [List.getElem?_eq_none (by omega), List.getElem?_eq_none (by omega)]
section
variable {X : Cx} {pins : List (Addr × Obj)} {σ : St} {H : Hp} {s : Shared}
theorem in1_units (A : Around) : A.in1.units = A.units + 1 := rfl
/-- items compared one by one -/
theorem eq_items (I : Inv X pins σ H s) {A : Around} {vs us : List V} {ds es : List Dt} {ivs ius : List Value} (rv : Vals vs ivs) (ru : Vals us ius) (tv : IsDts X.K H vs ds) (tu : IsDts X.K H us es)
    (hc : ∀ (i : Nat) (d e : Dt) (v u : V) (x y : Value), ds[i]? = some d → es[i]? = some e → RelV v x → RelV u y → IsDt X.K H v d → IsDt X.K H u e → EqAt A s x y (dec (d = e))) :
    ∀ j (h1 : j < ivs.toArray.size) (h2 : j < ius.toArray.size), EqAt A s ivs.toArray[j] ius.toArray[j] (dec (ds[j]? = es[j]?)) := by
  intro j h1 h2
  have l1 := rv.length
  have l2 := ru.length
  have h1' : j < ivs.length := by simpa using h1
  have h2' : j < ius.length := by simpa using h2
  obtain ⟨x, hx, rx⟩ := rv.get (i := j) (x := vs[j]'(by omega)) (List.getElem?_eq_getElem (by omega))
  obtain ⟨y, hy, ry⟩ := ru.get (i := j) (x := us[j]'(by omega)) (List.getElem?_eq_getElem (by omega))
  obtain ⟨d, hd, td⟩ := tv.get (i := j) (v := vs[j]'(by omega)) (List.getElem?_eq_getElem (by omega))
  obtain ⟨e, he, te⟩ := tu.get (i := j) (v := us[j]'(by omega)) (List.getElem?_eq_getElem (by omega))
  have ex : ivs.toArray[j] = x := by
    rw [List.getElem?_eq_getElem h1'] at hx
    simpa using hx
  have ey : ius.toArray[j] = y := by
    rw [List.getElem?_eq_getElem h2'] at hy
    simpa using hy
  rw [ex, ey, hd, he]
  have := hc j d e _ _ x y hd he rx ry td te
  rw [dec_congr (p := some d = some e) (q := d = e) (by simp)]
  exact this
theorem range_dec {ds es : List Dt} {n : Nat} (hn : n = ds.length) (hl : ds.length = es.length) : (List.range n).all (fun j => dec (ds[j]? = es[j]?)) = dec (ds = es) := by
  subst hn
  by_cases h : ds = es
  · subst h
    rw [dec_true rfl, List.all_eq_true]
    exact fun i _ => dec_true rfl
  · rw [dec_false h, Bool.eq_false_iff]
    intro q
    rw [List.all_eq_true] at q
    exact h (list_ext_iff hl fun i hi => dec_iff.mp (q i (List.mem_range.mpr hi)))
theorem apart_all (I : Inv X pins σ H s) {d e : Dt} {v u : V} {x y : Value} {A : Around} (h : Apart d.kd e.kd = true) (td : IsDt X.K H v d) (te : IsDt X.K H u e) (rx : RelV v x) (ry : RelV u y) (hu : A.units < cLine) : EqAt A s x y false ∧ RcAt A s x y false ∧ RcNeAt A s x y true := by
  cases td with
  | non =>
    cases rx
    cases te with
    | non => exact absurd h (by simp [Apart, Dt.kd])
    | bl b =>
      cases ry
      exact ⟨EqAt.none_bool _, RcAt.none_bool _, RcNeAt.none_bool _⟩
    | int b =>
      obtain ⟨t2, rfl⟩ := ry
      exact ⟨EqAt.none_int _ _, RcAt.none_int _ _, RcNeAt.none_int _ _⟩
    | str b =>
      obtain ⟨t2, rfl⟩ := ry
      exact ⟨EqAt.none_str _ _, RcAt.none_str _ _, RcNeAt.none_str _ _⟩
    | tup h2 t2 =>
      cases ry
      obtain ⟨_, _, p2, _⟩ := I.tuple h2
      exact ⟨EqAt.none_tuple  p2 hu, RcAt.none_tuple  p2 hu, RcNeAt.none_tuple  p2 hu⟩
    | lst h2 t2 =>
      cases ry
      obtain ⟨_, _, p2, _⟩ := I.list h2
      have p2 := p2.isList
      exact ⟨EqAt.none_list  p2 hu, RcAt.none_list  p2 hu, RcNeAt.none_list  p2 hu⟩
  | bl a =>
    cases rx
    cases te with
    | non =>
      cases ry
      exact ⟨EqAt.bool_none _, RcAt.bool_none _, RcNeAt.bool_none _⟩
    | bl b => exact absurd h (by simp [Apart, Dt.kd])
    | int b => exact absurd h (by simp [Apart, Dt.kd])
    | str b =>
      obtain ⟨t2, rfl⟩ := ry
      exact ⟨EqAt.bool_str _ _ _, RcAt.bool_str _ _ _, RcNeAt.bool_str _ _ _⟩
    | tup h2 t2 =>
      cases ry
      obtain ⟨_, _, p2, _⟩ := I.tuple h2
      exact ⟨EqAt.bool_tuple _ p2 hu, RcAt.bool_tuple _ p2 hu, RcNeAt.bool_tuple _ p2 hu⟩
    | lst h2 t2 =>
      cases ry
      obtain ⟨_, _, p2, _⟩ := I.list h2
      have p2 := p2.isList
      exact ⟨EqAt.bool_list _ p2 hu, RcAt.bool_list _ p2 hu, RcNeAt.bool_list _ p2 hu⟩
  | int a =>
    obtain ⟨t, rfl⟩ := rx
    cases te with
    | non =>
      cases ry
      exact ⟨EqAt.int_none _ _, RcAt.int_none _ _, RcNeAt.int_none _ _⟩
    | bl b => exact absurd h (by simp [Apart, Dt.kd])
    | int b => exact absurd h (by simp [Apart, Dt.kd])
    | str b =>
      obtain ⟨t2, rfl⟩ := ry
      exact ⟨EqAt.int_str _ _ _ _, RcAt.int_str _ _ _ _, RcNeAt.int_str _ _ _ _⟩
    | tup h2 t2 =>
      cases ry
      obtain ⟨_, _, p2, _⟩ := I.tuple h2
      exact ⟨EqAt.int_tuple _ _ p2 hu, RcAt.int_tuple _ _ p2 hu, RcNeAt.int_tuple _ _ p2 hu⟩
    | lst h2 t2 =>
      cases ry
      obtain ⟨_, _, p2, _⟩ := I.list h2
      have p2 := p2.isList
      exact ⟨EqAt.int_list _ _ p2 hu, RcAt.int_list _ _ p2 hu, RcNeAt.int_list _ _ p2 hu⟩
  | str a =>
    obtain ⟨t, rfl⟩ := rx
    cases te with
    | non =>
      cases ry
      exact ⟨EqAt.str_none _ _, RcAt.str_none _ _, RcNeAt.str_none _ _⟩
    | bl b =>
      cases ry
      exact ⟨EqAt.str_bool _ _ _, RcAt.str_bool _ _ _, RcNeAt.str_bool _ _ _⟩
    | int b =>
      obtain ⟨t2, rfl⟩ := ry
      exact ⟨EqAt.str_int _ _ _ _, RcAt.str_int _ _ _ _, RcNeAt.str_int _ _ _ _⟩
    | str b => exact absurd h (by simp [Apart, Dt.kd])
    | tup h2 t2 =>
      cases ry
      obtain ⟨_, _, p2, _⟩ := I.tuple h2
      exact ⟨EqAt.str_tuple _ _ p2 hu, RcAt.str_tuple _ _ p2 hu, RcNeAt.str_tuple _ _ p2 hu⟩
    | lst h2 t2 =>
      cases ry
      obtain ⟨_, _, p2, _⟩ := I.list h2
      have p2 := p2.isList
      exact ⟨EqAt.str_list _ _ p2 hu, RcAt.str_list _ _ p2 hu, RcNeAt.str_list _ _ p2 hu⟩
  | tup h1 t1 =>
    cases rx
    obtain ⟨_, _, p, _⟩ := I.tuple h1
    cases te with
    | non =>
      cases ry
      exact ⟨EqAt.tuple_none  p hu, RcAt.tuple_none  p hu, RcNeAt.tuple_none  p hu⟩
    | bl b =>
      cases ry
      exact ⟨EqAt.tuple_bool _ p hu, RcAt.tuple_bool _ p hu, RcNeAt.tuple_bool _ p hu⟩
    | int b =>
      obtain ⟨t2, rfl⟩ := ry
      exact ⟨EqAt.tuple_int _ _ p hu, RcAt.tuple_int _ _ p hu, RcNeAt.tuple_int _ _ p hu⟩
    | str b =>
      obtain ⟨t2, rfl⟩ := ry
      exact ⟨EqAt.tuple_str _ _ p hu, RcAt.tuple_str _ _ p hu, RcNeAt.tuple_str _ _ p hu⟩
    | tup h2 t2 => exact absurd h (by simp [Apart, Dt.kd])
    | lst h2 t2 =>
      cases ry
      obtain ⟨_, _, p2, _⟩ := I.list h2
      have p2 := p2.isList
      exact ⟨EqAt.tuple_list p p2 hu, RcAt.tuple_list p p2 hu, RcNeAt.tuple_list p p2 hu⟩
  | lst h1 t1 =>
    cases rx
    obtain ⟨_, _, p, _⟩ := I.list h1
    have p := p.isList
    cases te with
    | non =>
      cases ry
      exact ⟨EqAt.list_none  p hu, RcAt.list_none  p hu, RcNeAt.list_none  p hu⟩
    | bl b =>
      cases ry
      exact ⟨EqAt.list_bool _ p hu, RcAt.list_bool _ p hu, RcNeAt.list_bool _ p hu⟩
    | int b =>
      obtain ⟨t2, rfl⟩ := ry
      exact ⟨EqAt.list_int _ _ p hu, RcAt.list_int _ _ p hu, RcNeAt.list_int _ _ p hu⟩
    | str b =>
      obtain ⟨t2, rfl⟩ := ry
      exact ⟨EqAt.list_str _ _ p hu, RcAt.list_str _ _ p hu, RcNeAt.list_str _ _ p hu⟩
    | tup h2 t2 =>
      cases ry
      obtain ⟨_, _, p2, _⟩ := I.tuple h2
      exact ⟨EqAt.list_tuple p p2 hu, RcAt.list_tuple p p2 hu, RcNeAt.list_tuple p p2 hu⟩
    | lst h2 t2 => exact absurd h (by simp [Apart, Dt.kd])
theorem eq_of_rc (I : Inv X pins σ H s) {d e : Dt} {v u : V} {x y : Value} {A : Around} (td : IsDt X.K H v d) (te : IsDt X.K H u e) (rx : RelV v x) (ry : RelV u y) (h : RcAt A s x y (dec (d = e))) : EqAt A s x y (dec (d = e)) := by
  by_cases hxy : x = y
  · subst hxy
    have e1 := rx.inj ry
    subst e1
    rw [dec_true (IsDt.inj I td te)]
    exact EqAt.same _
  · intro prog w E Q hq
    unfold eqBool
    refine wpAny_holding ?_
    refine wpAny_ite_split (fun hab => absurd (eq_of_beq hab) hxy) (fun _ => ?_)
    cases td with
    | non => cases rx; exact wpAny_bind (h prog w E _ (wpAny_truthy_bool hq))
    | bl a => cases rx; exact wpAny_bind (h prog w E _ (wpAny_truthy_bool hq))
    | int a => obtain ⟨t, rfl⟩ := rx; exact wpAny_bind (h prog w E _ (wpAny_truthy_bool hq))
    | str a => obtain ⟨t, rfl⟩ := rx; exact wpAny_bind (h prog w E _ (wpAny_truthy_bool hq))
    | tup _ _ => cases rx; exact wpAny_bind (h prog w E _ (wpAny_truthy_bool hq))
    | lst _ _ => cases rx; exact wpAny_bind (h prog w E _ (wpAny_truthy_bool hq))
theorem kd_ne {d e : Dt} (h : Apart d.kd e.kd = true) : ¬ d = e := fun z => by
  subst z
  simp [Apart] at h
mutual
theorem rcD (I : Inv X pins σ H s) : ∀ {n : Nat} {d e : Dt} {v u : V} {x y : Value} {A : Around}, Cmp n d e → IsDt X.K H v d → IsDt X.K H u e → RelV v x → RelV u y → A.units + n < cLine → RcAt A s x y (dec (d = e)) ∧ RcNeAt A s x y (!dec (d = e))
  | n, _, _, _, _, _, _, _, .non, td, te, rx, ry, _ => by
    cases td; cases te
    cases rx; cases ry
    rw [dec_true rfl]
    exact ⟨RcAt.none_none, RcNeAt.none_none⟩
  | n, _, _, _, _, _, _, _, .bl a b, td, te, rx, ry, _ => by
    cases td; cases te
    cases rx; cases ry
    rw [← dec_beq (a := a) (b := b) (by simp)]
    exact ⟨RcAt.bool_bool a b, RcNeAt.bool_bool a b⟩
  | n, _, _, _, _, _, _, _, .int a b, td, te, rx, ry, _ => by
    cases td; cases te
    obtain ⟨t, rfl⟩ := rx
    obtain ⟨t', rfl⟩ := ry
    rw [← dec_beq (a := a) (b := b) (by simp)]
    exact ⟨RcAt.int_int a t b t', RcNeAt.int_int a t b t'⟩
  | n, _, _, _, _, _, _, _, .str a b, td, te, rx, ry, _ => by
    cases td; cases te
    obtain ⟨t, rfl⟩ := rx
    obtain ⟨t', rfl⟩ := ry
    rw [← dec_beq (a := a) (b := b) (by simp)]
    exact ⟨RcAt.str_str a t b t', RcNeAt.str_str a t b t'⟩
  | n + 1, _, _, _, _, _, _, A, .tup (ds := ds) (es := es) c, td, te, rx, ry, hu => by
    cases td; cases te
    rename_i a vs h t b us h' t'
    cases rx; cases ry
    obtain ⟨its, r, p, _⟩ := I.tuple h
    obtain ⟨its', r', p', _⟩ := I.tuple h'
    have l1 := r.length
    have l2 := r'.length
    have l3 := t.length
    have l4 := t'.length
    have he := eq_items (A := A.in1) I r r' t t' (eqDs I c (by rw [in1_units]; omega))
    have e : dec (Dt.tup ds = Dt.tup es) = ((List.range (min its.toArray.size its'.toArray.size)).all (fun j => dec (ds[j]? = es[j]?)) && its.toArray.size == its'.toArray.size) := by
      rw [dec_congr (p := Dt.tup ds = Dt.tup es) (q := ds = es) (by simp)]
      simp only [List.size_toArray]
      by_cases hl : ds.length = es.length
      · rw [show (its.length == its'.length) = true from beq_iff_eq.mpr (by omega), Bool.and_true, range_dec (by omega) hl]
      · rw [show (its.length == its'.length) = false from beq_false_of_ne (by omega), Bool.and_false, dec_false fun z => hl (by rw [z])]
    rw [e]
    exact ⟨RcAt.tuples (A := A) p p' (by omega) he, RcNeAt.tuples (A := A) p p' (by omega) he⟩
  | n + 1, _, _, _, _, _, _, A, .lst (ds := ds) (es := es) c, td, te, rx, ry, hu => by
    cases td; cases te
    rename_i a vs h t b us h' t'
    cases rx; cases ry
    obtain ⟨its, r, p, _⟩ := I.list h
    obtain ⟨its', r', p', _⟩ := I.list h'
    have l1 := r.length
    have l2 := r'.length
    have l3 := t.length
    have l4 := t'.length
    by_cases hl : ds.length = es.length
    · have he := eq_items (A := A.in1) I r r' t t' (eqDs I c (by rw [in1_units]; omega))
      rw [dec_congr (p := Dt.lst ds = Dt.lst es) (q := ds = es) (by simp), ← range_dec (n := its.toArray.size) (by simp only [List.size_toArray]; omega) hl]
      exact ⟨RcAt.lists (A := A) p.isList p'.isList (by simp only [List.size_toArray]; omega) (by omega) he, RcNeAt.lists (A := A) p.isList p'.isList (by simp only [List.size_toArray]; omega) (by omega) he⟩
    · rw [dec_false (show ¬ Dt.lst ds = Dt.lst es from fun z => hl (by cases z; rfl))]
      have hz : (its.toArray.size != its'.toArray.size) = true := by simp only [List.size_toArray]; rw [bne_iff_ne]; omega
      exact ⟨RcAt.lists_lengths p.isList p'.isList hz (by omega), RcNeAt.lists_lengths p.isList p'.isList hz (by omega)⟩
  | n + 1, _, _, _, _, _, _, A, .apart h, td, te, rx, ry, hu => by
    obtain ⟨_, h1, h2⟩ := apart_all (A := A) I h td te rx ry (by omega)
    rw [dec_false (kd_ne h)]
    exact ⟨h1, h2⟩
theorem eqDs (I : Inv X pins σ H s) : ∀ {n : Nat} {ds es : List Dt} {A : Around}, Cmps n ds es → A.units + n < cLine →
    ∀ (i : Nat) (d e : Dt) (v u : V) (x y : Value), ds[i]? = some d → es[i]? = some e → RelV v x → RelV u y → IsDt X.K H v d → IsDt X.K H u e → EqAt A s x y (dec (d = e))
  | _, _, _, _, .nil _, _, _, _, _, _, _, _, _, h, _, _, _, _, _ => by simp at h
  | _, _, _, _, .nil' _, _, _, _, _, _, _, _, _, _, h, _, _, _, _ => by simp at h
  | _, _, _, A, .cons c _, hu, 0, _, _, _, _, _, _, h, h', rx, ry, td, te => by
    simp at h h'; subst h; subst h'
    have hrc := rcD (A := A) I c td te rx ry hu
    exact eq_of_rc I td te rx ry hrc.1
  | _, _, _, _, .cons _ t, hu, i + 1, d, e, v, u, x, y, h, h', rx, ry, td, te =>
    eqDs I t hu i d e v u x y (by simpa using h) (by simpa using h') rx ry td te
end
theorem eqD (I : Inv X pins σ H s) {n : Nat} {d e : Dt} {v u : V} {x y : Value} {A : Around} (c : Cmp n d e) (td : IsDt X.K H v d) (te : IsDt X.K H u e) (rx : RelV v x) (ry : RelV u y) (hu : A.units + n < cLine) : EqAt A s x y (dec (d = e)) :=
  eq_of_rc I td te rx ry (rcD I c td te rx ry hu).1
end
section
variable {X : Cx}
/-- == and != of deep data; in, not in a list of them -/
def rEqD (K : PySem.W.Frag) : R2 := fun x y H Q => ∃ n d e, Cmp n d e ∧ n ≤ 60 ∧ IsDt K H x d ∧ IsDt K H y e ∧ Q (.bl (dec (d = e))) H
def rNeD (K : PySem.W.Frag) : R2 := fun x y H Q => ∃ n d e, Cmp n d e ∧ n ≤ 60 ∧ IsDt K H x d ∧ IsDt K H y e ∧ Q (.bl (!dec (d = e))) H
theorem op_eqD (hu : X.A.units + 64 < cLine) : OpR X (compareOp .Eq) (rEqD X.K) := by
  intro pins s σ H x y v u Q I rx ry h
  obtain ⟨n, d, e, c, hn, td, te, q⟩ := h
  exact (rcD (A := X.A) I c td te rx ry (by omega)).1 _ _ _ _ ⟨.bl _, H, I, rfl, q⟩
theorem op_neD (hu : X.A.units + 64 < cLine) : OpR X (compareOp .NotEq) (rNeD X.K) := by
  intro pins s σ H x y v u Q I rx ry h
  obtain ⟨n, d, e, c, hn, td, te, q⟩ := h
  exact (rcD (A := X.A) I c td te rx ry (by omega)).2 _ _ _ _ ⟨.bl _, H, I, rfl, q⟩
def rInD (K : PySem.W.Frag) : R2 := fun x y H Q => ∃ n d ds a vs, (∀ e ∈ ds, Cmp n e d) ∧ n ≤ 60 ∧ IsDt K H x d ∧ y = .ref a ∧ SqL K H a vs ∧ IsDts K H vs ds ∧ Q (.bl (dec (d ∈ ds))) H
def rNotInD (K : PySem.W.Frag) : R2 := fun x y H Q => ∃ n d ds a vs, (∀ e ∈ ds, Cmp n e d) ∧ n ≤ 60 ∧ IsDt K H x d ∧ y = .ref a ∧ SqL K H a vs ∧ IsDts K H vs ds ∧ Q (.bl (!dec (d ∈ ds))) H
theorem in_items {pins : List (Addr × Obj)} {σ : St} {H : Hp} {s : Shared} (I : Inv X pins σ H s) {n : Nat} {d : Dt} {ds : List Dt} {vs : List V} {its : List Value} {v : V} {x : Value} {A : Around} (r : Vals vs its) (t : IsDts X.K H vs ds) (hc : ∀ e ∈ ds, Cmp n e d) (td : IsDt X.K H v d) (rx : RelV v x) (hu : A.units + n < cLine) :
    (∀ y, y ∈ its.toArray → EqAt A s y x (dec (∃ u, RelV u y ∧ IsDt X.K H u d))) ∧ its.toArray.any (fun y => dec (∃ u, RelV u y ∧ IsDt X.K H u d)) = dec (d ∈ ds) := by
  have ll := r.length
  have lt := t.length
  have one : ∀ y, y ∈ its → ∃ e ∈ ds, ∃ u, RelV u y ∧ IsDt X.K H u e := fun y hy => by
    obtain ⟨i, hi, e⟩ := List.mem_iff_getElem.mp hy
    obtain ⟨y', hy', ry⟩ := r.get (i := i) (x := vs[i]'(by omega)) (List.getElem?_eq_getElem (by omega))
    obtain ⟨e', he, te⟩ := t.get (i := i) (v := vs[i]'(by omega)) (List.getElem?_eq_getElem (by omega))
    rw [List.getElem?_eq_getElem hi, e] at hy'
    cases hy'
    exact ⟨e', List.mem_of_getElem? he, _, ry, te⟩
  refine ⟨fun y hy => ?_, ?_⟩
  · obtain ⟨e, he, u, ru, te⟩ := one y (by simpa using hy)
    have := eqD (A := A) I (hc e he) te td ru rx hu
    rw [dec_congr (p := ∃ u, RelV u y ∧ IsDt X.K H u d) (q := e = d) ⟨fun ⟨u', ru', te'⟩ => by
      have e1 := ru.inj ru'
      subst e1
      exact IsDt.inj I te te', fun z => ⟨u, ru, by rw [← z]; exact te⟩⟩]
    exact this
  · by_cases hm : d ∈ ds
    · rw [dec_true hm, Array.any_eq_true]
      obtain ⟨i, hi, e⟩ := List.mem_iff_getElem.mp hm
      obtain ⟨u, hu', te⟩ := t.get' (i := i) (d := d) (by rw [List.getElem?_eq_getElem hi, e])
      obtain ⟨y, hy, ry⟩ := r.get hu'
      have hi' : i < its.length := (List.getElem?_eq_some_iff.mp hy).1
      refine ⟨i, by simpa using hi', ?_⟩
      have : its.toArray[i]'(by simpa using hi') = y := by
        rw [List.getElem?_eq_getElem hi'] at hy
        simpa using hy
      rw [this]
      exact dec_true ⟨u, ry, te⟩
    · rw [dec_false hm, Bool.eq_false_iff]
      intro q
      obtain ⟨i, hi, q⟩ := Array.any_eq_true.mp q
      obtain ⟨u, ru, te⟩ := dec_iff.mp q
      obtain ⟨e, he, u', ru', te'⟩ := one (its.toArray[i]) (by simp)
      have e1 := ru.inj ru'
      subst e1
      have e2 := IsDt.inj I te te'
      subst e2
      exact hm he
theorem op_inD (hu : X.A.units + 64 < cLine) : OpR X (compareOp .In) (rInD X.K) := by
  intro pins s σ H x y v u Q I rx ry h
  obtain ⟨n, d, ds, a, vs, hc, hn, td, rfl, hq, t, q⟩ := h
  cases ry
  obtain ⟨its, r, p, _⟩ := I.list hq
  obtain ⟨h1, h2⟩ := in_items (A := X.A.in1) I r t hc td rx (by rw [in1_units]; omega)
  exact in_listAt _ p.isList h1 (by rw [h2]; exact ⟨.bl _, H, I, rfl, q⟩)
theorem op_notinD (hu : X.A.units + 64 < cLine) : OpR X (compareOp .NotIn) (rNotInD X.K) := by
  intro pins s σ H x y v u Q I rx ry h
  obtain ⟨n, d, ds, a, vs, hc, hn, td, rfl, hq, t, q⟩ := h
  cases ry
  obtain ⟨its, r, p, _⟩ := I.list hq
  obtain ⟨h1, h2⟩ := in_items (A := X.A.in1) I r t hc td rx (by rw [in1_units]; omega)
  exact notIn_listAt _ p.isList h1 (by rw [h2]; exact ⟨.bl _, H, I, rfl, q⟩)
end
end L2

namespace Ord
variable {α : Type} [DecidableEq α]

/-- b comes behind a by one told pair or more -/
inductive Path (ps : List (α × α)) : α → α → Prop where
  | one {a b} : (a, b) ∈ ps → Path ps a b
  | snoc {a b c} : Path ps a b → (b, c) ∈ ps → Path ps a c

theorem Path.trans {ps : List (α × α)} {a b c : α} (h : Path ps a b) (k : Path ps b c) : Path ps a c := by
  induction k with
  | one e => exact .snoc h e
  | snoc _ e ih => exact .snoc ih e

theorem Path.mono {ps qs : List (α × α)} (hs : ∀ p ∈ ps, p ∈ qs) {a b : α} (h : Path ps a b) : Path qs a b := by
  induction h with
  | one e => exact .one (hs _ e)
  | snoc _ e ih => exact .snoc ih (hs _ e)

theorem Path.snd {ps : List (α × α)} {a b : α} (h : Path ps a b) : b ∈ ps.map (·.2) := by
  cases h with
  | one e => exact List.mem_map.mpr ⟨_, e, rfl⟩
  | snoc _ e => exact List.mem_map.mpr ⟨_, e, rfl⟩

theorem Path.fst {ps : List (α × α)} {a b : α} (h : Path ps a b) : a ∈ ps.map (·.1) := by
  induction h with
  | one e => exact List.mem_map.mpr ⟨_, e, rfl⟩
  | snoc _ _ ih => exact ih

/-- the labels told as worse than a, in their order -/
def worseOf (ps : List (α × α)) (a : α) : List α := (ps.filter (fun p => decide (p.1 = a))).map (·.2)
theorem mem_worseOf {ps : List (α × α)} {a b : α} : b ∈ worseOf ps a ↔ (a, b) ∈ ps := by
  unfold worseOf
  rw [List.mem_map]
  constructor
  · rintro ⟨⟨x, y⟩, h, rfl⟩
    obtain ⟨h1, h2⟩ := List.mem_filter.mp h
    have e : x = a := of_decide_eq_true h2
    subst e; exact h1
  · intro h
    exact ⟨(a, b), List.mem_filter.mpr ⟨h, decide_eq_true rfl⟩, rfl⟩
theorem worseOf_snoc {ps : List (α × α)} {x y a : α} : worseOf (ps ++ [(x, y)]) a = if x = a then worseOf ps a ++ [y] else worseOf ps a := by
  unfold worseOf
  rw [List.filter_append]
  by_cases e : x = a
  · simp [e]
  · simp [e]

/-- what came_from is at any time: each label once, each behind a told pair from the start or from a label that came earlier -/
structure Tree (ps : List (α × α)) (st : α) (cf : List (α × α)) : Prop where
  nd : (cf.map (·.1)).Nodup
  par : ∀ (i : Nat) (p : α × α), cf[i]? = some p → (p.2, p.1) ∈ ps ∧ (p.2 = st ∨ ∃ (j : Nat) (q : α × α), j < i ∧ cf[j]? = some q ∧ q.1 = p.2)

theorem Tree.nil {ps : List (α × α)} {st : α} : Tree ps st [] := ⟨List.nodup_nil, fun i p h => by simp at h⟩

theorem nodup_snoc {l : List α} {x : α} (h : l.Nodup) (hx : x ∉ l) : (l ++ [x]).Nodup := by
  rw [List.nodup_append]
  refine ⟨h, by simp, ?_⟩
  intro a ha b hb e
  rw [List.mem_singleton] at hb
  subst hb; subst e
  exact hx ha

theorem Tree.snoc {ps : List (α × α)} {st : α} {cf : List (α × α)} (T : Tree ps st cf) {w b : α} (hw : w ∉ cf.map (·.1)) (hb : (b, w) ∈ ps) (hp : b = st ∨ b ∈ cf.map (·.1)) : Tree ps st (cf ++ [(w, b)]) := by
  refine ⟨?_, fun i p h => ?_⟩
  · rw [List.map_append]
    exact nodup_snoc T.nd hw
  · by_cases hi : i < cf.length
    · rw [List.getElem?_append_left hi] at h
      obtain ⟨h1, h2⟩ := T.par i p h
      refine ⟨h1, ?_⟩
      rcases h2 with h2 | ⟨j, q, hj, hq, e⟩
      · exact .inl h2
      · exact .inr ⟨j, q, hj, by rw [List.getElem?_append_left (by omega)]; exact hq, e⟩
    · have hi' : i = cf.length := by
        have := (List.getElem?_eq_some_iff.mp h).1
        simp at this; omega
      subst hi'
      have e : p = (w, b) := by simpa using h.symm
      subst e
      refine ⟨hb, ?_⟩
      rcases hp with hp | hp
      · exact .inl hp
      · obtain ⟨q, hq, e⟩ := List.mem_map.mp hp
        obtain ⟨j, hj, e2⟩ := List.mem_iff_getElem.mp hq
        refine .inr ⟨j, q, hj, ?_, e⟩
        rw [List.getElem?_append_left hj]
        exact List.getElem?_eq_some_iff.mpr ⟨hj, e2⟩

theorem Tree.path {ps : List (α × α)} {st : α} {cf : List (α × α)} (T : Tree ps st cf) : ∀ (n i : Nat) (p : α × α), i < n → cf[i]? = some p → Path ps st p.1 := by
  intro n
  induction n with
  | zero => intro i p h; omega
  | succ n ih =>
    intro i p hi h
    obtain ⟨h1, h2⟩ := T.par i p h
    rcases h2 with h2 | ⟨j, q, hj, hq, e⟩
    · rw [h2] at h1; exact .one h1
    · have := ih j q (by omega) hq
      rw [e] at this
      exact .snoc this h1

theorem Tree.path_mem {ps : List (α × α)} {st : α} {cf : List (α × α)} (T : Tree ps st cf) {k : α} (h : k ∈ cf.map (·.1)) : Path ps st k := by
  obtain ⟨q, hq, e⟩ := List.mem_map.mp h
  obtain ⟨j, hj, e2⟩ := List.mem_iff_getElem.mp hq
  have := T.path (j + 1) j q (by omega) (List.getElem?_eq_some_iff.mpr ⟨hj, e2⟩)
  rw [e] at this; exact this

/-- nothing is left to come to -/
def Full (ps : List (α × α)) (st : α) (cf : List (α × α)) : Prop := ∀ b, (b = st ∨ b ∈ cf.map (·.1)) → ∀ w, (b, w) ∈ ps → w ∈ cf.map (·.1)

theorem Tree.iff {ps : List (α × α)} {st : α} {cf : List (α × α)} (T : Tree ps st cf) (F : Full ps st cf) {k : α} : k ∈ cf.map (·.1) ↔ Path ps st k := by
  constructor
  · exact T.path_mem
  · intro h
    induction h with
    | one e => exact F _ (.inl rfl) _ e
    | snoc _ e ih => exact F _ (.inr ih) _ e

theorem nodup_sub_length {l m : List α} (h : l.Nodup) (hs : ∀ x ∈ l, x ∈ m) : l.length ≤ m.length := by
  induction l generalizing m with
  | nil => simp
  | cons x r ih =>
    have hx := hs x (by simp)
    have hn := (List.nodup_cons.mp h)
    have : r.length ≤ (m.erase x).length := ih hn.2 (fun y hy => by
      have hy' := hs y (by simp [hy])
      have ne : y ≠ x := fun e => hn.1 (e ▸ hy)
      exact (List.mem_erase_of_ne ne).mpr hy')
    rw [List.length_erase_of_mem hx] at this
    have hp : 0 < m.length := List.length_pos_of_mem hx
    simp; omega

theorem Tree.length {ps : List (α × α)} {st : α} {cf : List (α × α)} (T : Tree ps st cf) : cf.length ≤ ps.length := by
  have := nodup_sub_length T.nd (m := ps.map (·.2)) (fun x hx => (T.path_mem hx).snd)
  simpa using this

/-! ### the loop by layers: layer = those whose worse labels were not looked at yet -/
/-- within a layer: rest are those of the layer still to be looked at, further those that came new -/
structure Lay (ps : List (α × α)) (st : α) (cf : List (α × α)) (rest further : List α) : Prop where
  tree : Tree ps st cf
  inR : ∀ b ∈ rest, b = st ∨ b ∈ cf.map (·.1)
  inF : ∀ b ∈ further, b ∈ cf.map (·.1)
  full : ∀ b, (b = st ∨ b ∈ cf.map (·.1)) → b ∈ rest ∨ b ∈ further ∨ ∀ w, (b, w) ∈ ps → w ∈ cf.map (·.1)
theorem Lay.start {ps : List (α × α)} {st : α} : Lay ps st [] [st] [] :=
  ⟨Tree.nil, fun b hb => .inl (by simpa using hb), fun b hb => by simp at hb, fun b hb => .inl (by simpa using hb)⟩
theorem Lay.next {ps : List (α × α)} {st : α} {cf : List (α × α)} {further : List α} (L : Lay ps st cf [] further) : Lay ps st cf further [] :=
  ⟨L.tree, fun b hb => .inr (L.inF b hb), fun b hb => by simp at hb, fun b hb => by
    rcases L.full b hb with h | h | h
    · simp at h
    · exact .inl h
    · exact .inr (.inr h)⟩
theorem Lay.done {ps : List (α × α)} {st : α} {cf : List (α × α)} (L : Lay ps st cf [] []) : Full ps st cf := fun b hb => by
  rcases L.full b hb with h | h | h
  · simp at h
  · simp at h
  · exact h
/-- one label b of the layer, of whose worse labels those of pre were looked at -/
structure LayB (ps : List (α × α)) (st b : α) (pre : List α) (cf : List (α × α)) (rest further : List α) : Prop where
  tree : Tree ps st cf
  inR : ∀ c ∈ b :: rest, c = st ∨ c ∈ cf.map (·.1)
  inF : ∀ c ∈ further, c ∈ cf.map (·.1)
  pre : ∀ w ∈ pre, w ∈ cf.map (·.1)
  full : ∀ c, (c = st ∨ c ∈ cf.map (·.1)) → c = b ∨ c ∈ rest ∨ c ∈ further ∨ ∀ w, (c, w) ∈ ps → w ∈ cf.map (·.1)
theorem Lay.into {ps : List (α × α)} {st b : α} {cf : List (α × α)} {rest further : List α} (L : Lay ps st cf (b :: rest) further) : LayB ps st b [] cf rest further :=
  ⟨L.tree, L.inR, L.inF, fun w hw => by simp at hw, fun c hc => by
    rcases L.full c hc with h | h | h
    · rcases List.mem_cons.mp h with h | h
      · exact .inl h
      · exact .inr (.inl h)
    · exact .inr (.inr (.inl h))
    · exact .inr (.inr (.inr h))⟩
theorem LayB.out {ps : List (α × α)} {st b : α} {cf : List (α × α)} {rest further : List α} (L : LayB ps st b (worseOf ps b) cf rest further) : Lay ps st cf rest further :=
  ⟨L.tree, fun c hc => L.inR c (by simp [hc]), L.inF, fun c hc => by
    rcases L.full c hc with h | h | h | h
    · subst h
      exact .inr (.inr fun w hw => L.pre w (mem_worseOf.mpr hw))
    · exact .inl h
    · exact .inr (.inl h)
    · exact .inr (.inr h)⟩
theorem LayB.known {ps : List (α × α)} {st b w : α} {pre : List α} {cf : List (α × α)} {rest further : List α} (L : LayB ps st b pre cf rest further) (hw : w ∈ cf.map (·.1)) : LayB ps st b (pre ++ [w]) cf rest further :=
  ⟨L.tree, L.inR, L.inF, fun x hx => by
    rcases List.mem_append.mp hx with h | h
    · exact L.pre x h
    · rw [List.mem_singleton] at h; subst h; exact hw, L.full⟩
theorem LayB.more {ps : List (α × α)} {st b w : α} {pre : List α} {cf : List (α × α)} {rest further : List α} (L : LayB ps st b pre cf rest further) (hw : w ∉ cf.map (·.1)) (hb : (b, w) ∈ ps) :
    LayB ps st b (pre ++ [w]) (cf ++ [(w, b)]) rest (further ++ [w]) := by
  have up : ∀ c, c ∈ cf.map (·.1) → c ∈ (cf ++ [(w, b)]).map (·.1) := fun c hc => by rw [List.map_append]; exact List.mem_append_left _ hc
  have upw : w ∈ (cf ++ [(w, b)]).map (·.1) := by rw [List.map_append]; exact List.mem_append_right _ (by simp)
  refine ⟨L.tree.snoc hw hb (L.inR b (by simp)), fun c hc => (L.inR c hc).imp id (up c), fun c hc => ?_, fun c hc => ?_, fun c hc => ?_⟩
  · rcases List.mem_append.mp hc with h | h
    · exact up c (L.inF c h)
    · rw [List.mem_singleton] at h; subst h; exact upw
  · rcases List.mem_append.mp hc with h | h
    · exact up c (L.pre c h)
    · rw [List.mem_singleton] at h; subst h; exact upw
  · have hc' : c = st ∨ c ∈ cf.map (·.1) ∨ c = w := by
      rcases hc with h | h
      · exact .inl h
      · rw [List.map_append] at h
        rcases List.mem_append.mp h with h | h
        · exact .inr (.inl h)
        · exact .inr (.inr (by simpa using h))
    have old : (c = st ∨ c ∈ cf.map (·.1)) → c = b ∨ c ∈ rest ∨ c ∈ further ++ [w] ∨ ∀ x, (c, x) ∈ ps → x ∈ (cf ++ [(w, b)]).map (·.1) := fun hc => by
      rcases L.full c hc with h | h | h | h
      · exact .inl h
      · exact .inr (.inl h)
      · exact .inr (.inr (.inl (List.mem_append_left _ h)))
      · exact .inr (.inr (.inr fun x hx => up x (h x hx)))
    rcases hc' with h | h | h
    · exact old (.inl h)
    · exact old (.inr h)
    · exact .inr (.inr (.inl (by rw [h]; exact List.mem_append_right _ (by simp))))

/-! ### a chain back along came_from -/
/-- each with the next one a told pair -/
def Links (ps : List (α × α)) (c : List α) : Prop := ∀ (i : Nat) (x y : α), c[i]? = some x → c[i + 1]? = some y → (x, y) ∈ ps
structure Chain (ps : List (α × α)) (one other : α) (c : List α) : Prop where
  two : 2 ≤ c.length
  hd : c[0]? = some one
  lst : c[c.length - 1]? = some other
  link : Links ps c
  nt : c.tail.Nodup
  nl : c.dropLast.Nodup
theorem lookup_idx {cf : List (α × α)} (hn : (cf.map (·.1)).Nodup) {i : Nat} {p : α × α} (h : cf[i]? = some p) : cf.lookup p.1 = some p.2 := by
  induction cf generalizing i with
  | nil => simp at h
  | cons q r ih =>
    have hn' : q.1 ∉ r.map (·.1) ∧ (r.map (·.1)).Nodup := by
      rw [List.map_cons] at hn; exact List.nodup_cons.mp hn
    cases i with
    | zero =>
      have e : q = p := by simpa using h
      subst e
      obtain ⟨a, b⟩ := q
      simp [List.lookup]
    | succ i =>
      have h' : r[i]? = some p := by simpa using h
      have hm : p ∈ r := List.mem_of_getElem? h'
      have ne : p.1 ≠ q.1 := fun e => hn'.1 (e ▸ List.mem_map.mpr ⟨p, hm, rfl⟩)
      obtain ⟨a, b⟩ := q
      rw [List.lookup_cons]
      have hb : (p.1 == a) = false := beq_false_of_ne ne
      rw [hb]
      exact ih hn'.2 h'
end Ord

namespace War
/-- a way by E, what lies between below k -/
inductive Pk (E : Nat → Nat → Prop) (k : Nat) : Nat → Nat → Prop where
  | one {i j : Nat} : E i j → Pk E k i j
  | cons {i l j : Nat} : E i l → l < k → Pk E k l j → Pk E k i j
theorem Pk.split {E : Nat → Nat → Prop} {k i j : Nat} (h : Pk E (k + 1) i j) : Pk E k i j ∨ (Pk E k i k ∧ Pk E k k j) := by
  induction h with
  | one e => exact .inl (.one e)
  | cons e hl _ ih =>
    rename_i i l j _
    by_cases hlk : l = k
    · subst hlk
      rcases ih with ih | ih
      · exact .inr ⟨.one e, ih⟩
      · exact .inr ⟨.one e, ih.2⟩
    · have : l < k := by omega
      rcases ih with ih | ih
      · exact .inl (.cons e this ih)
      · exact .inr ⟨.cons e this ih.1, ih.2⟩
theorem Pk.mono {E : Nat → Nat → Prop} {k k' i j : Nat} (hk : k ≤ k') (h : Pk E k i j) : Pk E k' i j := by
  induction h with
  | one e => exact .one e
  | cons e hl _ ih => exact .cons e (by omega) ih
theorem Pk.app {E : Nat → Nat → Prop} {k i l j : Nat} (h : Pk E k i l) (hl : l < k) (h' : Pk E k l j) : Pk E k i j := by
  induction h with
  | one e => exact .cons e hl h'
  | cons e hm _ ih => exact .cons e hm (ih hl h')
theorem Pk.zero {E : Nat → Nat → Prop} {i j : Nat} (h : Pk E 0 i j) : E i j := by
  cases h with
  | one e => exact e
  | cons _ hl _ => omega
def setR (R : Nat → Nat → Bool) (i j : Nat) : Nat → Nat → Bool := fun a b => if a = i ∧ b = j then true else R a b
theorem setR_ge {R : Nat → Nat → Bool} {i j a b : Nat} (h : R a b = true) : setR R i j a b = true := by
  unfold setR
  split
  · rfl
  · exact h
theorem setR_at {R : Nat → Nat → Bool} {i j : Nat} : setR R i j i j = true := by
  unfold setR
  rw [if_pos ⟨rfl, rfl⟩]
theorem setR_of {R : Nat → Nat → Bool} {i j a b : Nat} (h : setR R i j a b = true) : (a = i ∧ b = j) ∨ R a b = true := by
  unfold setR at h
  split at h
  · rename_i hc; exact .inl hc
  · exact .inr h
theorem setR_ne {R : Nat → Nat → Bool} {i j a b : Nat} (h : a ≠ i) : setR R i j a b = R a b := by
  unfold setR
  rw [if_neg fun z => h z.1]
/-- between two turns: at stage k, ahead of (i, j) -/
structure WI (E : Nat → Nat → Prop) (m k i j : Nat) (R : Nat → Nat → Bool) : Prop where
  sound : ∀ a b, a < m → b < m → R a b = true → Pk E m a b
  comp : ∀ a b, a < m → b < m → Pk E k a b → R a b = true
  done : ∀ a b, a < m → b < m → (a < i ∨ (a = i ∧ b < j)) → Pk E (k + 1) a b → R a b = true
theorem WI.start {E : Nat → Nat → Prop} {m : Nat} {R : Nat → Nat → Bool} (h : ∀ a b, a < m → b < m → (R a b = true ↔ E a b)) : WI E m 0 0 0 R :=
  ⟨fun a b ha hb r => .one ((h a b ha hb).mp r), fun a b ha hb p => (h a b ha hb).mpr p.zero, fun a b _ _ h => by omega⟩
theorem WI.step {E : Nat → Nat → Prop} {m k i j : Nat} {R : Nat → Nat → Bool} (W : WI E m k i j R) (hk : k < m) (hi : i < m) (hj : j < m) (h1 : R i k = true) (h2 : R k j = true) : WI E m k i (j + 1) (setR R i j) := by
  refine ⟨fun a b ha hb r => ?_, fun a b ha hb p => setR_ge (W.comp a b ha hb p), fun a b ha hb hab p => ?_⟩
  · rcases setR_of r with ⟨rfl, rfl⟩ | r
    · exact (W.sound _ _ ha hk h1).app hk (W.sound _ _ hk hb h2)
    · exact W.sound a b ha hb r
  · by_cases he : a = i ∧ b = j
    · obtain ⟨rfl, rfl⟩ := he; exact setR_at
    · exact setR_ge (W.done a b ha hb (by omega) p)
theorem WI.skip {E : Nat → Nat → Prop} {m k i j : Nat} {R : Nat → Nat → Bool} (W : WI E m k i j R) (hk : k < m) (hi : i < m) (hj : j < m) (h : ¬ (R i k = true ∧ R k j = true)) : WI E m k i (j + 1) R := by
  refine ⟨W.sound, W.comp, fun a b ha hb hab p => ?_⟩
  by_cases he : a = i ∧ b = j
  · obtain ⟨rfl, rfl⟩ := he
    rcases p.split with p | ⟨p1, p2⟩
    · exact W.comp _ _ ha hb p
    · exact absurd ⟨W.comp _ _ ha hk p1, W.comp _ _ hk hb p2⟩ h
  · exact W.done a b ha hb (by omega) p
theorem WI.nexti {E : Nat → Nat → Prop} {m k i : Nat} {R : Nat → Nat → Bool} (W : WI E m k i m R) : WI E m k (i + 1) 0 R :=
  ⟨W.sound, W.comp, fun a b ha hb hab p => W.done a b ha hb (by omega) p⟩
theorem WI.nextk {E : Nat → Nat → Prop} {m k : Nat} {R : Nat → Nat → Bool} (W : WI E m k m 0 R) : WI E m (k + 1) 0 0 R :=
  ⟨W.sound, fun a b ha hb p => W.done a b ha hb (by omega) p, fun a b _ _ h => by omega⟩
theorem WI.fin {E : Nat → Nat → Prop} {m : Nat} {R : Nat → Nat → Bool} (W : WI E m m 0 0 R) {a b : Nat} (ha : a < m) (hb : b < m) : R a b = true ↔ Pk E m a b :=
  ⟨W.sound a b ha hb, W.comp a b ha hb⟩
/-- labels and places -/
theorem path_iff {α : Type} [DecidableEq α] {ps : List (α × α)} {L : List α} (hin : ∀ p ∈ ps, p.1 ∈ L ∧ p.2 ∈ L) {a b : Nat} {x y : α} (hx : L[a]? = some x) (hy : L[b]? = some y) :
    Pk (fun i j => ∃ x y, L[i]? = some x ∧ L[j]? = some y ∧ (x, y) ∈ ps) L.length a b ↔ Ord.Path ps x y := by
  constructor
  · intro h
    induction h generalizing x y with
    | one e =>
      obtain ⟨x', y', e1, e2, e3⟩ := e
      rw [hx] at e1; rw [hy] at e2; cases e1; cases e2
      exact .one e3
    | cons e _ _ ih =>
      obtain ⟨x', z, e1, e2, e3⟩ := e
      rw [hx] at e1; cases e1
      exact (Ord.Path.one e3).trans (ih e2 hy)
  · intro h
    induction h generalizing b with
    | one e => exact .one ⟨_, _, hx, hy, e⟩
    | snoc p e ih =>
      rename_i u v
      obtain ⟨l, hl, e2⟩ := List.mem_iff_getElem.mp (hin _ e).1
      have hl' : L[l]? = some u := by rw [List.getElem?_eq_getElem hl, e2]
      exact (ih hl').app hl (.one ⟨_, _, hl', hy, e⟩)
end War

namespace Ord
variable {α : Type} [DecidableEq α]
theorem look_mem {cf : List (α × α)} {w b : α} (h : cf.lookup w = some b) : (w, b) ∈ cf := by
  induction cf with
  | nil => simp at h
  | cons p r ih =>
    obtain ⟨x, y⟩ := p
    rw [List.lookup_cons] at h
    by_cases e : w = x
    · subst e
      simp at h; subst h; exact List.mem_cons_self
    · have hb : (w == x) = false := beq_false_of_ne e
      rw [hb] at h
      exact List.mem_cons_of_mem _ (ih h)
theorem look_some {cf : List (α × α)} {w : α} (h : w ∈ cf.map (·.1)) : ∃ b, cf.lookup w = some b := by
  induction cf with
  | nil => simp at h
  | cons p r ih =>
    obtain ⟨x, y⟩ := p
    rw [List.lookup_cons]
    by_cases e : w = x
    · subst e; exact ⟨y, by simp⟩
    · have hb : (w == x) = false := beq_false_of_ne e
      rw [hb]
      refine ih ?_
      rcases List.mem_cons.mp h with h | h
      · exact absurd h e
      · exact h
theorem look_none {cf : List (α × α)} {w : α} (h : w ∉ cf.map (·.1)) : cf.lookup w = none := by
  cases e : cf.lookup w with
  | none => rfl
  | some b => exact absurd (List.mem_map.mpr ⟨_, look_mem e, rfl⟩) h
theorem nodup_rev {l : List α} (h : l.Nodup) : l.reverse.Nodup := by
  unfold List.Nodup at *
  rw [List.pairwise_reverse]
  exact h.imp fun {a b} h e => h e.symm
/-- the place of a label in came_from -/
def ix (cf : List (α × α)) (k : α) : Nat := (cf.map (·.1)).idxOf k
theorem ix_at {cf : List (α × α)} (hn : (cf.map (·.1)).Nodup) {i : Nat} {p : α × α} (h : cf[i]? = some p) : ix cf p.1 = i := by
  obtain ⟨hi, e⟩ := List.getElem?_eq_some_iff.mp h
  unfold ix
  have hi' : i < (cf.map (·.1)).length := by simpa using hi
  have : (cf.map (·.1))[i] = p.1 := by simp [e]
  rw [← this]
  exact hn.idxOf_getElem i hi'
theorem Tree.back {ps : List (α × α)} {st : α} {cf : List (α × α)} (T : Tree ps st cf) {w b : α} (h : cf.lookup w = some b) : (b, w) ∈ ps ∧ (b = st ∨ (b ∈ cf.map (·.1) ∧ ix cf b < ix cf w)) := by
  have hm := look_mem h
  obtain ⟨i, hi, e⟩ := List.mem_iff_getElem.mp hm
  have hi' : cf[i]? = some (w, b) := by rw [List.getElem?_eq_getElem hi, e]
  obtain ⟨h1, h2⟩ := T.par i _ hi'
  refine ⟨h1, ?_⟩
  rcases h2 with h2 | ⟨j, q, hj, hq, e2⟩
  · exact .inl h2
  · refine .inr ⟨?_, ?_⟩
    · have : q.1 = b := e2
      rw [← this]
      exact List.mem_map.mpr ⟨q, List.mem_of_getElem? hq, rfl⟩
    · have e3 := ix_at T.nd hq
      have e4 := ix_at T.nd hi'
      have e2' : q.1 = b := e2
      rw [e2'] at e3
      have e4' : ix cf w = i := e4
      omega
/-- going back: ls the labels so far, the last one ahead of lb -/
structure Back (ps : List (α × α)) (cf : List (α × α)) (one other : α) (ls : List α) (lb : α) : Prop where
  hd : ls[0]? = some other
  keys : ∀ x ∈ ls, x ∈ cf.map (·.1)
  dec : ls.Pairwise (fun x y => ix cf y < ix cf x)
  lnk : ∀ (i : Nat) (x y : α), ls[i]? = some x → ls[i + 1]? = some y → (y, x) ∈ ps
  nx : ∃ z, ls[ls.length - 1]? = some z ∧ cf.lookup z = some lb
  mid : ∀ x ∈ ls.tail, x ≠ one
theorem Back.start {ps cf : List (α × α)} {one other b : α} (h : cf.lookup other = some b) : Back ps cf one other [other] b := by
  refine ⟨rfl, fun x hx => ?_, by simp, fun i x y h1 h2 => by simp at h2, ⟨other, rfl, h⟩, fun x hx => by simp at hx⟩
  rw [List.mem_singleton] at hx; subst hx
  exact List.mem_map.mpr ⟨_, look_mem h, rfl⟩
theorem Back.next {ps cf : List (α × α)} {one other lb : α} {ls : List α} (T : Tree ps one cf) (B : Back ps cf one other ls lb) (hne : lb ≠ one) : ∃ b, cf.lookup lb = some b ∧ Back ps cf one other (ls ++ [lb]) b ∧ ix cf lb < ix cf (ls[ls.length - 1]?.getD other) := by
  obtain ⟨z, hz, hl⟩ := B.nx
  obtain ⟨h1, h2⟩ := T.back hl
  rcases h2 with h2 | ⟨hk, hi⟩
  · exact absurd h2 hne
  obtain ⟨b, hb⟩ := look_some hk
  have hzl : ls.length - 1 < ls.length := (List.getElem?_eq_some_iff.mp hz).1
  have hlast : ∀ x ∈ ls, ix cf lb < ix cf x := fun x hx => by
    obtain ⟨j, hj, e⟩ := List.mem_iff_getElem.mp hx
    by_cases hjl : j = ls.length - 1
    · subst hjl
      rw [List.getElem?_eq_getElem hzl] at hz
      have : ls[ls.length - 1] = z := Option.some.inj hz
      rw [this] at e; subst e; exact hi
    · have := List.pairwise_iff_getElem.mp B.dec j (ls.length - 1) hj hzl (by omega)
      rw [List.getElem?_eq_getElem hzl] at hz
      have e3 : ls[ls.length - 1] = z := Option.some.inj hz
      rw [e3, e] at this
      omega
  refine ⟨b, hb, ⟨?_, ?_, ?_, ?_, ?_, ?_⟩, by rw [hz]; exact hi⟩
  · rw [List.getElem?_append_left (by omega)]; exact B.hd
  · intro x hx
    rcases List.mem_append.mp hx with hx | hx
    · exact B.keys x hx
    · rw [List.mem_singleton] at hx; subst hx; exact hk
  · rw [List.pairwise_append]
    refine ⟨B.dec, by simp, fun x hx y hy => ?_⟩
    rw [List.mem_singleton] at hy; subst hy
    exact hlast x hx
  · intro i x y e1 e2
    by_cases hi2 : i + 1 < ls.length
    · rw [List.getElem?_append_left (by omega)] at e1
      rw [List.getElem?_append_left hi2] at e2
      exact B.lnk i x y e1 e2
    · have hi3 : i + 1 = ls.length := by
        have := (List.getElem?_eq_some_iff.mp e2).1
        simp at this; omega
      rw [List.getElem?_append_right (by omega), hi3] at e2
      simp at e2; subst e2
      rw [List.getElem?_append_left (by omega), show i = ls.length - 1 by omega, hz] at e1
      cases e1
      exact h1
  · refine ⟨lb, ?_, hb⟩
    rw [List.length_append, List.length_singleton, Nat.add_sub_cancel, List.getElem?_append_right (Nat.le_refl _)]
    simp
  · intro x hx
    have : ls ≠ [] := fun e => by rw [e] at hzl; simp at hzl
    rw [List.tail_append_of_ne_nil this] at hx
    rcases List.mem_append.mp hx with hx | hx
    · exact B.mid x hx
    · rw [List.mem_singleton] at hx; subst hx; exact hne
theorem Back.fin {ps cf : List (α × α)} {one other : α} {ls : List α} (T : Tree ps one cf) (B : Back ps cf one other ls one) : Chain ps one other (ls ++ [one]).reverse := by
  obtain ⟨z, hz, hl⟩ := B.nx
  obtain ⟨h1, _⟩ := T.back hl
  have hzl : ls.length - 1 < ls.length := (List.getElem?_eq_some_iff.mp hz).1
  have nd : ls.Nodup := B.dec.imp fun {a b} h e => by subst e; omega
  have e : (ls ++ [one]).reverse = one :: ls.reverse := by simp
  have len : (ls ++ [one]).reverse.length = ls.length + 1 := by simp
  have at_ : ∀ i, i < ls.length → ls.reverse[i]? = ls[ls.length - 1 - i]? := fun i hi => List.getElem?_reverse hi
  refine ⟨by rw [len]; omega, by rw [e]; rfl, ?_, ?_, ?_, ?_⟩
  · rw [len, e, Nat.add_sub_cancel]
    rw [show ls.length = (ls.length - 1) + 1 by omega, List.getElem?_cons_succ, at_ _ (by omega)]
    rw [show ls.length - 1 - (ls.length - 1) = 0 by omega]
    exact B.hd
  · intro i x y e1 e2
    rw [e] at e1 e2
    rw [List.getElem?_cons_succ] at e2
    have hi : i < ls.length := by
      have := (List.getElem?_eq_some_iff.mp e2).1
      simpa using this
    rw [at_ i hi] at e2
    cases i with
    | zero =>
      simp at e1; subst e1
      rw [Nat.sub_zero, hz] at e2
      cases e2
      exact h1
    | succ i =>
      rw [List.getElem?_cons_succ, at_ i (by omega)] at e1
      refine B.lnk (ls.length - 1 - (i + 1)) y x e2 ?_
      rw [show ls.length - 1 - (i + 1) + 1 = ls.length - 1 - i by omega]
      exact e1
  · rw [e]
    exact nodup_rev nd
  · rw [List.dropLast_reverse]
    refine nodup_rev ?_
    cases ls with
    | nil => simp at hzl
    | cons a r =>
      show (r ++ [one]).Nodup
      rw [List.nodup_append]
      refine ⟨(List.nodup_cons.mp nd).2, by simp, fun x hx y hy exy => ?_⟩
      rw [List.mem_singleton] at hy
      rw [hy] at exy
      exact B.mid x hx exy
end Ord

namespace L2
open PySem PySem.Spec PyProof.Rows Ord
/-! ### pairs of texts, dicts of texts -/
abbrev prD (p : Str × Str) : Dt := .tup [.str p.1, .str p.2]
/-- a list of pairs of texts -/
def Prs (K : PySem.W.Frag) (H : Hp) (a : Addr) (ps : List (Str × Str)) : Prop := ∃ vs, SqL K H a vs ∧ IsDts K H vs (ps.map prD)
theorem cmp_pair (p q : Str × Str) : Cmp 2 (prD p) (prD q) := .tup (.cons (.str _ _) (.cons (.str _ _) (.nil _)))
theorem cmp_pairs (ps : List (Str × Str)) (q : Str × Str) : ∀ e ∈ ps.map prD, Cmp 2 e (prD q) := fun e he => by
  obtain ⟨p, _, rfl⟩ := List.mem_map.mp he
  exact cmp_pair p q
theorem prD_mem {ps : List (Str × Str)} {q : Str × Str} : prD q ∈ ps.map prD ↔ q ∈ ps := by
  rw [List.mem_map]
  constructor
  · rintro ⟨p, hp, e⟩
    have e1 : p = q := by
      simp only [prD, Dt.tup.injEq, List.cons.injEq, Dt.str.injEq, and_true] at e
      exact Prod.ext e.1 e.2
    rw [← e1]; exact hp
  · exact fun h => ⟨q, h, rfl⟩
theorem map_at {ls : List Str} {i : Nat} {x : V} (h : (ls.map V.str)[i]? = some x) : ∃ z, ls[i]? = some z ∧ x = V.str z := by
  rw [List.getElem?_map] at h
  obtain ⟨b, h1, h2⟩ := Option.map_eq_some_iff.mp h
  exact ⟨b, h1, h2.symm⟩
theorem atI_lst {α : Type} {xs : List α} {v : α} (h : xs[xs.length - 1]? = some v) : atI xs (-1) = some v := by
  have hl : xs.length - 1 < xs.length := (List.getElem?_eq_some_iff.mp h).1
  unfold atI ixN
  rw [if_neg (by decide), if_pos (by omega)]
  show xs[(-1 + (xs.length : Int)).toNat]? = some v
  rw [show (-1 + (xs.length : Int)).toNat = xs.length - 1 by omega]
  exact h
theorem one_le : ([] : List V).length + 1 ≤ sizeLine := by decide
theorem two_le : ([] : List V).length + 1 + 1 ≤ sizeLine := by decide
theorem Prs.same {K : PySem.W.Frag} {H H' : Hp} {a : Addr} {ps : List (Str × Str)} (e : Same H H') (h : Prs K H a ps) : Prs K H' a ps := by
  obtain ⟨vs, h1, h2⟩ := h
  exact ⟨vs, e.seq h1, h2.same e⟩
theorem pair_at {K : PySem.W.Frag} {H : Hp} {v : V} {p : Str × Str} (h : IsDt K H v (prD p)) : ∃ t, v = .ref t ∧ SqT K H t [.str p.1, .str p.2] := by
  cases h with
  | tup h t =>
    cases t with
    | cons h1 t =>
      cases t with
      | cons h2 t =>
        cases t
        cases h1; cases h2
        exact ⟨_, rfl, h⟩
theorem IsDts.pairs_get {K : PySem.W.Frag} {H : Hp} {vs : List V} {ps : List (Str × Str)} (h : IsDts K H vs (ps.map prD)) {i : Nat} {v : V} (hv : vs[i]? = some v) : ∃ p t, ps[i]? = some p ∧ v = .ref t ∧ SqT K H t [.str p.1, .str p.2] := by
  obtain ⟨d, hd, hi⟩ := h.get hv
  rw [List.getElem?_map] at hd
  cases e : ps[i]? with
  | none => rw [e] at hd; cases hd
  | some p =>
    rw [e] at hd
    cases hd
    obtain ⟨t, h1, h2⟩ := pair_at hi
    exact ⟨p, t, rfl, h1, h2⟩
/-- a dict from texts to things -/
abbrev kvR (ks : List (Str × Addr)) : List (Key × V) := ks.map fun p => (Sum.inr p.1, V.ref p.2)
abbrev kvS (cf : List (Str × Str)) : List (Key × V) := cf.map fun p => (Sum.inr p.1, V.str p.2)
theorem val_gen {β : Type} (g : β → V) : ∀ (ks : List (Str × β)) (k : Str), valV (ks.map fun p => ((Sum.inr p.1 : Key), g p.2)) (Sum.inr k) = (ks.lookup k).map g
  | [], _ => rfl
  | p :: r, k => by
    obtain ⟨x, y⟩ := p
    rw [List.map_cons, List.lookup_cons]
    by_cases e : k = x
    · subst e
      rw [valV_pos rfl]
      simp
    · have e' : ¬ ((Sum.inr x : Key) = Sum.inr k) := fun z => e (Sum.inr.inj z).symm
      rw [valV_neg e', val_gen g r k]
      have hb : (k == x) = false := beq_false_of_ne e
      rw [hb]
theorem val_R (ks : List (Str × Addr)) (k : Str) : valV (kvR ks) (Sum.inr k) = (ks.lookup k).map V.ref := val_gen V.ref ks k
theorem val_S (cf : List (Str × Str)) (k : Str) : valV (kvS cf) (Sum.inr k) = (cf.lookup k).map V.str := val_gen V.str cf k
theorem lookA_mem {β : Type} {ks : List (Str × β)} {k : Str} {a : β} (h : ks.lookup k = some a) : (k, a) ∈ ks := by
  induction ks with
  | nil => simp at h
  | cons p r ih =>
    obtain ⟨x, y⟩ := p
    rw [List.lookup_cons] at h
    by_cases e : k = x
    · subst e
      simp at h; subst h; exact List.mem_cons_self
    · have hb : (k == x) = false := beq_false_of_ne e
      rw [hb] at h
      exact List.mem_cons_of_mem _ (ih h)
theorem lookA_none {β : Type} {ks : List (Str × β)} {k : Str} (h : ks.lookup k = none) : k ∉ ks.map (·.1) := by
  induction ks with
  | nil => simp
  | cons p r ih =>
    obtain ⟨x, y⟩ := p
    rw [List.lookup_cons] at h
    by_cases e : k = x
    · subst e; simp at h
    · have hb : (k == x) = false := beq_false_of_ne e
      rw [hb] at h
      intro z
      rcases List.mem_cons.mp z with z | z
      · exact e z
      · exact ih h z
/-- a dict: each better label, and the list of those told as worse -/
structure WBB (H : Hp) (d : Addr) (ps : List (Str × Str)) (ks : List (Str × Addr)) : Prop where
  dict : H d = some (.dK (kvR ks))
  nd : (ks.map (·.1)).Nodup
  lst : ∀ p ∈ ks, H p.2 = some (.lst ((worseOf ps p.1).map V.str))
  all : ∀ p ∈ ps, p.1 ∈ ks.map (·.1)
  adr : (ks.map (·.2)).Nodup
theorem WBB.same {H H' : Hp} {d : Addr} {ps : List (Str × Str)} {ks : List (Str × Addr)} (e : Same H H') (W : WBB H d ps ks) : WBB H' d ps ks :=
  ⟨e _ _ W.dict, W.nd, fun p hp => e _ _ (W.lst p hp), W.all, W.adr⟩
theorem WBB.ne {H : Hp} {d : Addr} {ps : List (Str × Str)} {ks : List (Str × Addr)} (W : WBB H d ps ks) {p : Str × Addr} (hp : p ∈ ks) : p.2 ≠ d := ne_of (W.lst p hp) W.dict (by intro z; cases z)
theorem WBB.start {H : Hp} {d : Addr} (h : H d = some (.dK [])) : WBB H d [] [] := ⟨h, List.nodup_nil, fun p hp => by simp at hp, fun p hp => by simp at hp, List.nodup_nil⟩
theorem WBB.worse {H : Hp} {d : Addr} {ps : List (Str × Str)} {ks : List (Str × Addr)} (W : WBB H d ps ks) {b : Str} : (∀ a, ks.lookup b = some a → H a = some (.lst ((worseOf ps b).map V.str))) ∧ (ks.lookup b = none → worseOf ps b = []) := by
  refine ⟨fun a h => W.lst _ (lookA_mem h), fun h => ?_⟩
  cases e : worseOf ps b with
  | nil => rfl
  | cons w r =>
    have : w ∈ worseOf ps b := by rw [e]; exact List.mem_cons_self
    exact absurd (W.all _ (mem_worseOf.mp this)) (lookA_none h)
/-- one pair more, its better label known -/
theorem WBB.known {H : Hp} {d a : Addr} {ps : List (Str × Str)} {ks : List (Str × Addr)} (W : WBB H d ps ks) {b w : Str} (h : ks.lookup b = some a) : WBB (upd H a (.lst ((worseOf ps b).map V.str ++ [.str w]))) d (ps ++ [(b, w)]) ks := by
  have hm := lookA_mem h
  refine ⟨by rw [upd_ne (W.ne hm).symm]; exact W.dict, W.nd, fun p hp => ?_, fun p hp => ?_, W.adr⟩
  · rw [worseOf_snoc]
    by_cases e : b = p.1
    · rw [if_pos e]
      have ep : p = (b, a) := by
        obtain ⟨i, hi, e1⟩ := List.mem_iff_getElem.mp hp
        obtain ⟨j, hj, e2⟩ := List.mem_iff_getElem.mp hm
        have h1 : (ks.map (·.1))[i]'(by simpa using hi) = (ks.map (·.1))[j]'(by simpa using hj) := by simp [e1, e2, e]
        have h2 := (List.getElem_inj W.nd).mp h1
        subst h2
        rw [← e1, e2]
      subst ep
      rw [upd_same, List.map_append]
      rfl
    · rw [if_neg e]
      have na : p.2 ≠ a := fun z => by
        obtain ⟨i, hi, e1⟩ := List.mem_iff_getElem.mp hp
        obtain ⟨j, hj, e2⟩ := List.mem_iff_getElem.mp hm
        have h1 : (ks.map (·.2))[i]'(by simpa using hi) = (ks.map (·.2))[j]'(by simpa using hj) := by simp [e1, e2, z]
        have h2 := (List.getElem_inj W.adr).mp h1
        subst h2
        rw [e1] at e2
        exact e (by rw [e2])
      rw [upd_ne na]
      exact W.lst p hp
  · rcases List.mem_append.mp hp with hp | hp
    · exact W.all p hp
    · rw [List.mem_singleton] at hp; subst hp
      exact List.mem_map.mpr ⟨_, hm, rfl⟩
/-- .. a new one -/
theorem WBB.more {H : Hp} {d a : Addr} {ps : List (Str × Str)} {ks : List (Str × Addr)} (W : WBB H d ps ks) {b w : Str} (h : ks.lookup b = none) (ha : H a = none) : WBB (upd (upd (upd H a (.lst [])) d (.dK (putK (kvR ks) (Sum.inr b) (.ref a)))) a (.lst ([] ++ [.str w]))) d (ps ++ [(b, w)]) (ks ++ [(b, a)]) := by
  have nda : d ≠ a := ne_of_none W.dict ha
  have hn := lookA_none h
  have hv : valV (kvR ks) (Sum.inr b) = none := by rw [val_R, h]; rfl
  refine ⟨?_, ?_, fun p hp => ?_, fun p hp => ?_, ?_⟩
  · rw [upd_ne nda, upd_same, putK_new _ hv]
    simp [kvR]
  · rw [List.map_append]; exact nodup_snoc W.nd hn
  · rw [worseOf_snoc]
    rcases List.mem_append.mp hp with hp | hp
    · have e : ¬ b = p.1 := fun z => hn (z ▸ List.mem_map.mpr ⟨p, hp, rfl⟩)
      have na : p.2 ≠ a := ne_of_none (W.lst p hp) ha
      rw [if_neg e, upd_ne na, upd_ne (W.ne hp), upd_ne na]
      exact W.lst p hp
    · rw [List.mem_singleton] at hp; subst hp
      rw [if_pos rfl, W.worse.2 h, upd_same]
      rfl
  · rw [List.map_append]
    rcases List.mem_append.mp hp with hp | hp
    · exact List.mem_append_left _ (W.all p hp)
    · rw [List.mem_singleton] at hp; subst hp
      exact List.mem_append_right _ (by simp)
  · rw [List.map_append]
    refine nodup_snoc W.adr fun z => ?_
    obtain ⟨p, hp, e⟩ := List.mem_map.mp z
    exact ne_of_none (W.lst p hp) ha e
end L2
namespace L2
open PySem PySem.Spec PyProof.Rows Ord
theorem IsDts.of_get {K : PySem.W.Frag} {H : Hp} : ∀ {vs : List V} {ds : List Dt}, vs.length = ds.length → (∀ (n : Nat) v d, vs[n]? = some v → ds[n]? = some d → IsDt K H v d) → IsDts K H vs ds
  | [], [], _, _ => .nil
  | v :: vs, d :: ds, hl, h => .cons (h 0 v d rfl rfl) (IsDts.of_get (by simpa using hl) fun n x y e1 e2 => h (n + 1) x y (by simpa using e1) (by simpa using e2))
/-- tuples of two texts at the addresses ts -/
structure Tups (H : Hp) (ts : List Addr) (ps : List (Str × Str)) : Prop where
  len : ts.length = ps.length
  at_ : ∀ (n : Nat) t p, ts[n]? = some t → ps[n]? = some p → H t = some (.tup [.str p.1, .str p.2])
theorem Tups.nil {H : Hp} : Tups H [] [] := ⟨rfl, fun n t p h => by simp at h⟩
theorem Tups.same {H H' : Hp} {ts : List Addr} {ps : List (Str × Str)} (e : Same H H') (h : Tups H ts ps) : Tups H' ts ps := ⟨h.len, fun n t p h1 h2 => e _ _ (h.at_ n t p h1 h2)⟩
theorem Tups.dts {K : PySem.W.Frag} {H : Hp} {ts : List Addr} {ps : List (Str × Str)} (h : Tups H ts ps) : IsDts K H (ts.map V.ref) (ps.map prD) := by
  refine IsDts.of_get (by simpa using h.len) fun n v d e1 e2 => ?_
  rw [List.getElem?_map] at e1 e2
  obtain ⟨t, h1, rfl⟩ := Option.map_eq_some_iff.mp e1
  obtain ⟨p, h2, rfl⟩ := Option.map_eq_some_iff.mp e2
  exact .tup (SqT.of (h.at_ n t p h1 h2)) (.cons (.str _) (.cons (.str _) .nil))
theorem Tups.prs {K : PySem.W.Frag} {H : Hp} {a : Addr} {ts : List Addr} {ps : List (Str × Str)} (h : Tups H ts ps) (e : H a = some (.lst (ts.map V.ref))) : Prs K H a ps := ⟨_, SqL.of e, h.dts⟩
theorem Tups.ne {H : Hp} {a : Addr} {xs : List V} {ts : List Addr} {ps : List (Str × Str)} (h : Tups H ts ps) (e : H a = some (.lst xs)) : a ∉ ts := fun z => by
  obtain ⟨n, hn, e1⟩ := List.mem_iff_getElem.mp z
  have hn' : n < ps.length := by rw [← h.len]; exact hn
  have := h.at_ n a ps[n] (by rw [List.getElem?_eq_getElem hn, e1]) (List.getElem?_eq_getElem hn')
  rw [e] at this
  cases this
theorem Tups.upd {H : Hp} {a : Addr} {o : HO} {ts : List Addr} {ps : List (Str × Str)} (h : Tups H ts ps) (e : a ∉ ts) : Tups (upd H a o) ts ps := ⟨h.len, fun n t p h1 h2 => by
  have ne : t ≠ a := fun z => by
    subst z
    exact e (List.mem_of_getElem? h1)
  rw [L2.upd_ne ne]
  exact h.at_ n t p h1 h2⟩
theorem Tups.snoc {H : Hp} {t : Addr} {ts : List Addr} {ps : List (Str × Str)} {p : Str × Str} (h : Tups H ts ps) (e : H t = some (.tup [.str p.1, .str p.2])) : Tups H (ts ++ [t]) (ps ++ [p]) := by
  refine ⟨by rw [List.length_append, List.length_append, h.len]; rfl, fun n t' p' h1 h2 => ?_⟩
  by_cases hn : n < ts.length
  · rw [List.getElem?_append_left hn] at h1
    rw [List.getElem?_append_left (by rw [← h.len]; exact hn)] at h2
    exact h.at_ n t' p' h1 h2
  · have hn2 : n = ts.length := by
      have := (List.getElem?_eq_some_iff.mp h1).1
      rw [List.length_append, List.length_singleton] at this; omega
    subst hn2
    rw [List.getElem?_append_right (Nat.le_refl _)] at h1
    rw [List.getElem?_append_right (by rw [h.len]; exact Nat.le_refl _)] at h2
    simp at h1
    simp [h.len] at h2
    subst h1; subst h2
    exact e
theorem getD_mem {ls : List Str} {i : Nat} (h : i < ls.length) : ls.getD i default ∈ ls := by
  rw [List.getD_eq_getElem?_getD, List.getElem?_eq_getElem h]
  exact List.getElem_mem h
theorem getD_at {ls : List Str} {i : Nat} (h : i < ls.length) : (ls.map V.str)[i]? = some (.str (ls.getD i default)) := by
  rw [List.getElem?_map, List.getD_eq_getElem?_getD, List.getElem?_eq_getElem h]; rfl
theorem mod_at {ls : List Str} {c m : Int} (h0 : 0 < m) (hm : m ≤ ls.length) : atI (ls.map V.str) (c % m) = some (.str (ls.getD (c % m).toNat default)) := by
  have k0 := Int.emod_nonneg c (show m ≠ 0 by omega)
  have k1 := Int.emod_lt_of_pos c h0
  have := atI_nat (getD_at (ls := ls) (i := (c % m).toNat) (by omega))
  rwa [Int.toNat_of_nonneg k0] at this
theorem mod_in {ls : List Str} {c m : Int} (h0 : 0 < m) (hm : m ≤ ls.length) : ls.getD (c % m).toNat default ∈ ls := by
  have k0 := Int.emod_nonneg c (show m ≠ 0 by omega)
  have k1 := Int.emod_lt_of_pos c h0
  exact getD_mem (by omega)
end L2

namespace L2
open PySem PySem.Spec PyProof.Rows
theorem at0 {α : Type} {xs : List α} {i : Nat} {v : α} (h : xs[i]? = some v) : atI xs (0 + (i : Int)) = some v := by
  rw [Int.zero_add]
  exact atI_nat h
theorem ixN0 {n i : Nat} (h : i < n) : ixN n (0 + (i : Int)) = some i := by
  rw [Int.zero_add, ixN_in (by omega) (by omega), Int.toNat_natCast]
/-- over a list that stays, no test, by an invariant of the items so far -/
theorem comp_listI {K : PySem.W.Frag} {a : Addr} {xs : List V} {k : Nat} {caps : List Nat} {g : TG} {te : TE} {σ : St} {H1 : Hp} {Q : Addr → Hp → Prop} (Pv : Addr → Nat → List V → Hp → Prop)
    (h0 : ∀ D, H1 D = none → Pv D 0 [] (upd H1 D (.lst []))) (hq : ∀ D i ys H2, Pv D i ys H2 → SqL K H2 a xs)
    (hs : ∀ D i x ys H2 (R : VK), H1 D = none → xs[i]? = some x → Pv D i ys H2 → (∀ y H6, H6 D = some (.lst ys) → ys.length < sizeLine → Pv D (i + 1) (ys ++ [y]) (upd H6 D (.lst (ys ++ [y]))) → R y H6) → g x (compSt k caps σ) H2 fun σ4 H4 => te σ4 H4 R)
    (hd : ∀ D ys H2, H1 D = none → Pv D xs.length ys H2 → Q D H2) :
    ∀ D, H1 D = none → ∃ W : Nat → Nat → List V → Hp → Prop, (∃ m, W 0 m [] (upd H1 D (.lst []))) ∧ ∀ i m ys H2, W i m ys H2 →
      ((Itl K a).stop i H2 ∧ Q D H2) ∨ ((Itl K a).go i H2 ∧ ∀ x H3, (Itl K a).yld i H2 x H3 → g x (compSt k caps σ) H3 fun σ4 H4 => tYes σ4 H4 fun b H5 =>
        if b = true then te σ4 H5 fun y H6 => H6 D = some (.lst ys) ∧ ys.length < sizeLine ∧ ∃ m', m' < m ∧ W (i + 1) m' (ys ++ [y]) (upd H6 D (.lst (ys ++ [y]))) else ∃ m', m' < m ∧ W (i + 1) m' ys H5) := by
  intro D hD
  refine ⟨fun i m ys H2 => m = xs.length - i ∧ i ≤ xs.length ∧ Pv D i ys H2, ⟨xs.length, rfl, Nat.zero_le _, h0 D hD⟩, ?_⟩
  rintro i m ys H2 ⟨rfl, hi, p⟩
  have q2 := hq D i ys H2 p
  by_cases hlt : i < xs.length
  · refine .inr ⟨⟨xs, xs[i], q2, by simp [hlt]⟩, fun x H3 y => ?_⟩
    obtain ⟨rfl, y⟩ := y
    have hx := y xs q2
    refine hs D i x ys H3 _ hD hx p fun v H6 e6 hz p6 => ?_
    exact ⟨e6, hz, xs.length - (i + 1), by omega, rfl, hlt, p6⟩
  · have e : i = xs.length := by omega
    subst e
    exact .inl ⟨⟨xs, q2, Nat.le_refl _⟩, hd D ys H2 hD p⟩
end L2

namespace L2
open PySem PySem.Spec PyProof.Rows
theorem ObjOk.ex {P : Program} {w : World} {H : Hp} {h : Heap} {a : Addr} {o : HO} (x : ObjOk P w H h a o) : ∃ u, h.get? a = some u := by
  cases o with
  | lst xs => obtain ⟨_, _, _, _, e⟩ := x; exact ⟨_, e⟩
  | tup xs => obtain ⟨_, _, _, u, e, _⟩ := x; exact ⟨u, e⟩
  | dK kvs => obtain ⟨_, _, _, _, u, _, _, e, _⟩ := x; exact ⟨u, e⟩
  | dT kvs => obtain ⟨_, _, _, _, u, _, _, e, _⟩ := x; exact ⟨u, e⟩
  | set S n => obtain ⟨u, _, _, _, e, _⟩ := x; exact ⟨u, e⟩
  | ins C dx fs => obtain ⟨_, _, _, e, _⟩ := x; exact ⟨_, e⟩
  | own y => exact x
  | xd fs => obtain ⟨_, ⟨u, _, _, e, _⟩, _⟩ := x; exact ⟨u, e⟩
  | rng lo hi => obtain ⟨_, _, _, e⟩ := x; exact ⟨_, e⟩
  | frz ob u => obtain ⟨e, _⟩ := x; exact ⟨_, e⟩
  | tbl ps => exact ⟨_, (show h.get? a = some _ from x)⟩
  | met f y => exact ⟨_, (show h.get? a = some _ from x)⟩
  | ext φ => exact x.2.1
theorem Inv.freshN {X : Cx} {pins : List (Addr × Obj)} {σ : L2.St} {H : Hp} {s : Shared} {a : Addr} (I : Inv X pins σ H s) (hne : ∀ b u, s.heap.get? b = some u → b ≠ a) : H a = none := by
  cases e : H a with
  | none => rfl
  | some o =>
    obtain ⟨u, hu⟩ := (I.hok a o e).ex
    exact absurd rfl (hne a u hu)
/-- a new object laid at an address where nothing stood -/
theorem Inv.laidN {X : Cx} {pins : List (Addr × Obj)} {σ : L2.St} {H : Hp} {s : Shared} {h' : Heap} {a : Addr} {o : HO} {t' : Nat} (I : Inv X pins σ H s) (k : ∀ b u, s.heap.get? b = some u → h'.get? b = some u) (hne : ∀ b u, s.heap.get? b = some u → b ≠ a) (new : ObjOk X.prog X.w (upd H a o) h' a o) :
    Inv X pins σ (upd H a o) { s with heap := h', toks := t' } := by
  have hn := I.freshN hne
  refine I.un ⟨fun b u q _ _ _ => k b u q, fun b u q _ _ _ => ⟨u.slots, k b u q⟩, fun b u q n _ => by rw [upd_ne (hne b u q)]; exact n, fun b u q _ => ⟨u, k b u q⟩, fun b xs q => by rw [upd_ne (ne_of_none q hn)]; exact q, fun b u xs q => by rw [upd_ne (ne_of_none q hn)]; exact q, fun b ps q => ⟨#[], by rw [upd_ne (ne_of_none q hn), q]; simp⟩⟩ fun b u e => ?_
  by_cases hb : b = a
  · subst hb; rw [upd_same] at e; cases e; exact new
  · rw [upd_ne hb] at e
    exact (I.hok b u e).stay (fun c v _ q => k c v q) (fun c q => by rw [upd_ne (ne_of_none q hn)]; exact q) fun c xs q => by rw [upd_ne (ne_of_none q hn)]; exact q
/-! ### sorted(d) of a dict whose keys are texts -/
/-- the order of texts -/
def ltS (a b : Str) : Prop := a.cps.toList < b.cps.toList
theorem ltS_irrefl (a : Str) : ¬ ltS a a := List.lt_irrefl _
theorem ltS_trans {a b c : Str} (h : ltS a b) (k : ltS b c) : ltS a c := List.lt_trans h k
theorem ltS_total {a b : Str} (h : ¬ ltS b a) (ne : a ≠ b) : ltS a b := by
  have h1 : a.cps.toList ≤ b.cps.toList := List.not_lt.mp h
  rcases Classical.em (a.cps.toList < b.cps.toList) with h2 | h2
  · exact h2
  · have h3 : b.cps.toList ≤ a.cps.toList := List.not_lt.mp h2
    exact absurd (ext_toList (List.le_antisymm h1 h3)) ne
theorem rising_pw : ∀ (l : List Str) (p : Str), risingS p l = true → (p :: l).Nodup → (p :: l).Pairwise ltS
  | [], p, _, _ => by simp
  | q :: r, p, h, hn => by
    have h' : (!ltCps q.cps.toList p.cps.toList && risingS q r) = true := by simpa [risingS] using h
    rw [Bool.and_eq_true] at h'
    have hn2 := (List.nodup_cons.mp hn)
    have ih := rising_pw r q h'.2 hn2.2
    have hpq : ltS p q := ltS_total (fun z => by
      have := h'.1
      rw [ltCps_eq, decide_eq_true (show q.cps.toList < p.cps.toList from z)] at this
      cases this) fun z => hn2.1 (by rw [z]; exact List.mem_cons_self)
    refine List.pairwise_cons.mpr ⟨fun x hx => ?_, ih⟩
    rcases List.mem_cons.mp hx with e | hx
    · rw [e]; exact hpq
    · exact ltS_trans hpq ((List.pairwise_cons.mp ih).1 x hx)
theorem sorted_pw {l : List Str} (h : sortedS l = true) (hn : l.Nodup) : l.Pairwise ltS := by
  cases l with
  | nil => exact List.Pairwise.nil
  | cons p r => exact rising_pw r p h hn
theorem vals_of_strs : ∀ {vs : List Value} {ss : List Str}, StrsAre vs ss → Vals (ss.map V.str) vs
  | _, _, .nil => .nil
  | _, _, .cons _ _ h => .cons ⟨_, rfl⟩ (vals_of_strs h)
theorem strs_of {ss : List Str} : ∀ {vs : List Value}, vs.length = ss.length → (∀ (i : Nat) (v : Value), vs[i]? = some v → ∃ t, v = .str (ss.getD i default) t) → StrsAre vs ss := by
  induction ss with
  | nil => intro vs hl _; cases vs with
    | nil => exact .nil
    | cons _ _ => simp at hl
  | cons x r ih =>
    intro vs hl h
    cases vs with
    | nil => simp at hl
    | cons v vs =>
      obtain ⟨t, e⟩ := h 0 v rfl
      have e' : v = .str x t := e
      subst e'
      exact .cons _ _ (ih (by simpa using hl) fun i u hu => h (i + 1) u (by simpa using hu))
section
variable {prog : Program} {w : World} {A : Around} {E : Value → Shared → Prop} {s : Shared}
theorem sorted_dictS {d : Addr} {kvs : List (Key × Value)} {ss : List Str} {Q : Value → Shared → Prop} (hh : A.handled = none) (dd : s.heap.DictOf (mixKind prog w) d kvs) (lo : (d == sysModules) = false)
    (hk : kvs.map (·.1) = ss.map Sum.inr) (h64 : ss.length < 64)
    (h : ∀ (D : Addr) (h' : Heap) (tk n : Nat) (out : List Value) (ss' : List Str), (∀ b o, s.heap.get? b = some o → h'.get? b = some o) → (∀ b o, s.heap.get? b = some o → b ≠ D) → h'.get? D = some { cls := .type "list", data := .seq out.toArray n } → Vals (ss'.map V.str) out → ss'.Perm ss → sortedS ss' = true → Q (.ref D) { s with heap := h', toks := tk }) :
    wpAny (model prog w) A (call (.builtin "sorted") [.ref d]) Q E s := by
  have hlk : kvs.length = ss.length := by have := congrArg List.length hk; simpa using this
  have hn : kvs.length ≤ sizeLine := Nat.le_of_lt (small1000 (by omega))
  obtain ⟨ep, hat⟩ := dd.dictAt
  refine Calls.call_function_entry kind_sorted plain_sorted entry_sorted (args_sorted1 _) ?_
  unfold Builtin.«sorted»
  refine wpAny_bind (m := checkCount "sorted" 1 1 _) (wpAny_pure ?_)
  refine wpAny_bind (PySem.W.kdu_collect (A := A.in1) (PySem.W.kdl_dict (knd := mixKind prog w) (kvs := kvs) (ep := ep) lo) hh hat hn fun h1 tk acc k1 hacc => ?_)
  have la : acc.toList.length = ss.length := by rw [Array.length_toList, hacc.1, hlk]
  have hS : StrsAre acc.toList ss := strs_of la fun i v hv => by
    obtain ⟨k, x, e1, e2⟩ := hacc.2 i v (by rw [← Array.getElem?_toList]; exact hv)
    have e3 : (kvs.map (·.1))[i]? = some k := by rw [List.getElem?_map, e1]; rfl
    rw [hk, List.getElem?_map] at e3
    obtain ⟨z, e4, e5⟩ := Option.map_eq_some_iff.mp e3
    have e2' : keyIs k v = true := e2
    rw [← e5] at e2'
    obtain ⟨t, e6⟩ := Value.isStrOf_shape e2'
    exact ⟨t, by rw [e6, List.getD_eq_getElem?_getD, e4]; rfl⟩
  refine wpAny_bind (wpAny_newList ?_ (by rw [la]; exact Nat.le_of_lt (small1000 (by omega))))
  have hoL : (h1.push { cls := .type "list", data := .seq acc.toList.toArray }).get? h1.objs.size = some (seqObj "list" acc.toList.toArray 0) := Heap.get?_push_size _ rfl
  refine wpAny_bind (wpAny_holding (wpAny_call_entry slot_list_sort ⟨_, hoL, rfl⟩ entry_list_sort (list_sort_treeK strKind_oneLt hoL hS.keysOf (fun v₁ v₂ rest e => keyKind_strs (by rw [← e]; exact hS)) (by rw [la]; exact h64) fun st' a1 a2 => ⟨_, rfl, ?_⟩) (args_list_sort _)))
  obtain ⟨ss', b1, b2, b3⟩ := sorted_out_str hS a1 a2
  obtain ⟨n, hg⟩ := sortedHeap_at (vs := acc.toList) (out := (arrOf st').map (·.2)) hoL
  have szle : ∀ b o, s.heap.get? b = some o → b ≠ h1.objs.size := fun b o e => Nat.ne_of_lt (Heap.lt_size (k1 b o e))
  refine wpAny_pure ⟨_, rfl, h h1.objs.size _ tk n _ ss' (fun b o e => ?_) szle (by rw [Array.toArray_toList]; exact hg) (vals_of_strs b1) b2 b3⟩
  have hb := Heap.lt_size (k1 b o e)
  rw [sortedHeap_old (Nat.ne_of_lt hb) (by rw [Heap.size_push]; exact Nat.lt_succ_of_lt hb)]
  exact Heap.get?_push_of_some _ (k1 b o e)
end
section
variable {X : Cx}
def rSortD : List V → Hp → VK → Prop := fun vs H Q => ∃ (d : Addr) (kvs : List (Key × V)) (ss : List Str), vs = [.ref d] ∧ H d = some (.dK kvs) ∧ kvs.map (·.1) = ss.map Sum.inr ∧ ss.length < 64 ∧ ∀ D ss', ss'.Perm ss → sortedS ss' = true → H D = none → Q (.ref D) (upd H D (.lst (ss'.map V.str)))
theorem call_sortD (hc : X.calm = true) : CallR X (.builtin "sorted") rSortD := by
  intro pins s σ H vs us Q I r h
  obtain ⟨d, kvs, ss, rfl, hd, hk, h64, q⟩ := h
  obtain ⟨u, rfl, ru⟩ := vals1 r
  obtain rfl : u = Value.ref d := ru
  obtain ⟨z, hm, ws, rel, dd⟩ := dk_of I.hok hd
  refine sorted_dictS (I.ok.hd hc) dd hm (ss := ss) (by rw [← rel.keys]; exact hk) h64 fun D h' tk n out ss' kk hD hg rv hp hs => ?_
  have hlen : (ss'.map V.str).length ≤ sizeLine := by rw [List.length_map, hp.length_eq]; exact Nat.le_of_lt (small1000 (by omega))
  exact ⟨.ref D, upd H D (.lst (ss'.map V.str)), I.laidN (t' := tk) kk hD ⟨hlen, out, n, rv, hg⟩, rfl, q D ss' hp hs (I.freshN hD)⟩
end
end L2

namespace HT
open PySem PyProof.Rows

/-- t < u of tuples of texts -/
def lexLtS : List Str → List Str → Bool
  | [], [] => false
  | [], _ :: _ => true
  | _ :: _, [] => false
  | x :: xs, y :: ys => if x = y then lexLtS xs ys else decide (x.cps.toList < y.cps.toList)
theorem lexLtS_cons (x y : Str) (xs ys : List Str) : lexLtS (x :: xs) (y :: ys) = if x = y then lexLtS xs ys else decide (x.cps.toList < y.cps.toList) := rfl
theorem lexLtS_nil_nil : lexLtS [] [] = false := rfl
theorem lexLtS_nil_cons (y : Str) (ys : List Str) : lexLtS [] (y :: ys) = true := rfl
theorem lexLtS_cons_nil (x : Str) (xs : List Str) : lexLtS (x :: xs) [] = false := rfl

theorem eqAt_strS (A : Around) (s : Shared) (a : Str) (t : Tok) (c : Str) (u : Tok) : ∃ e, SeqAt.EqAt A s (.str a t) (.str c u) e ∧ (e = true ↔ a = c) :=
  ⟨(a == c), SeqAt.EqAt.str_str a t c u, by simp⟩
theorem rcLt_strS (A : Around) (s : Shared) (a : Str) (t : Tok) (c : Str) (u : Tok) (prog : Program) (w : World) (E : Value → Shared → Prop) (Q : Value → Shared → Prop) (h : Q (.bool (decide (a.cps.toList < c.cps.toList))) s) :
    wpAny (model prog w) A (richCompare .Lt (.str a t) (.str c u)) Q E s :=
  (PySem.P.lt_str h : wpAny (model prog w) A (compareOp .Lt (.str a t) (.str c u)) Q E s)

section
open PySem.SeqAt
open PySem.AutoSeq1 (wpAny_loadPart')
open PySem.MeetsSeq PySem.MeetsSeq2 PySem.MeetsSeq3

theorem tuple_lt_strs (l b : Addr) (items items2 : Array Value) (n n2 : Nat) (dd dd2 : Option Addr) (sl sl2 : Array (Option Value)) (ns ms : List Str) (hi : StrsAre items.toList ns) (hj : StrsAre items2.toList ms) :
    Meets (Builtin.«tuple.__lt__» ⟨[.ref l, .ref b], []⟩)
      (fun _ R s => s.heap.get? l = some { cls := .type "tuple", dict := dd, data := .seq items n, slots := sl } ∧ s.heap.get? b = some { cls := .type "tuple", dict := dd2, data := .seq items2 n2, slots := sl2 } ∧
        R (.ok (.ret (.bool (lexLtS ns ms)))) s) :=
  .of_wp fun prog w A R s h => by
    obtain ⟨hp, g, d, tk, os⟩ := s; obtain ⟨hl, hb, h⟩ := h
    have f2 := AutoSeq1.sub_tuple_tuple
    have z1 : items.size = ns.length := by rw [← hi.length]; simp
    have z2 : items2.size = ms.length := by rw [← hj.length]; simp
    wp_walk using wpAny_loadPart' hl, wpAny_loadPart' hb, wpAny_forIn_list _ (fun rest b s' => b.1 = none ∧ s' = ⟨hp, g, d, tk, os⟩ ∧ ∃ (vs ws : List Value) (ns' ms' : List Str), rest = vs.zip ws ∧
      StrsAre vs ns' ∧ StrsAre ws ms' ∧ ns'.length + items2.size = ms'.length + items.size ∧ R (.ok (.ret (.bool (lexLtS ns' ms')))) ⟨hp, g, d, tk, os⟩) _
    case turn =>
      rintro ⟨y, x⟩ rest b s' ⟨hb', rfl, vs, ws, ns', ms', hz, hvi, hwi, hlen, hR⟩
      cases hvi with
      | nil => rw [List.zip_nil_left] at hz; cases hz
      | cons a t hvi' =>
        cases hwi with
        | nil => rw [List.zip_nil_right] at hz; cases hz
        | cons c u hwi' =>
          rw [List.zip_cons_cons] at hz
          injection hz with hyx hrest
          injection hyx with hy hx
          subst hy hx
          rw [lexLtS_cons] at hR
          simp only [List.length_cons] at hlen
          obtain ⟨e, he, hiff⟩ := eqAt_strS A.in1 ⟨hp, g, d, tk, os⟩ a t c u
          refine wpAny_bind (he prog w _ _ ?_)
          cases e with
          | true =>
            rw [if_pos (hiff.mp rfl)] at hR
            wp_walk
            exact ⟨rfl, rfl, _, _, _, _, hrest, hvi', hwi', by omega, hR⟩
          | false =>
            rw [if_neg (fun q => absurd (hiff.mpr q) Bool.false_ne_true)] at hR
            have hri := rcLt_strS A.in1 ⟨hp, g, d, tk, os⟩ a t c u prog w
            wp_walk using hri
            exact ⟨_, rfl, by simpa using hR⟩
    case fin =>
      rintro ⟨b1, b2⟩ s' ⟨hb', rfl, vs, ws, ns', ms', hz, hvi, hwi, hlen, hR⟩
      simp only at hb'
      subst hb'
      have hv : lexLtS ns' ms' = decide (items.size < items2.size) := by
        cases hvi with
        | nil =>
          cases hwi with
          | nil =>
            simp only [List.length_nil] at hlen
            rw [lexLtS_nil_nil]
            exact (decide_eq_false (by omega)).symm
          | cons c u hw =>
            simp only [List.length_nil, List.length_cons] at hlen
            rw [lexLtS_nil_cons]
            exact (decide_eq_true (by omega)).symm
        | cons a t hv =>
          cases hwi with
          | nil =>
            simp only [List.length_nil, List.length_cons] at hlen
            rw [lexLtS_cons_nil]
            exact (decide_eq_false (by omega)).symm
          | cons c u hw =>
            rw [List.zip_cons_cons] at hz
            cases hz
      rw [hv] at hR
      wp_walk
      exact ⟨_, rfl, by simpa [Builtin.Tuple.tupleCompareSizes] using hR⟩
    case h =>
      exact ⟨rfl, rfl, items.toList, items2.toList, ns, ms, rfl, hi, hj, by omega, h⟩
end

section
variable {prog : Program} {w : World} {A : Around} {E : Value → Shared → Prop} {s : Shared}

theorem lt_tupStrs {l b : Addr} {items items2 : Array Value} {ns ms : List Str} {Q : Value → Shared → Prop} (hl : IsTup s.heap l items) (hb : IsTup s.heap b items2) (hi : StrsAre items.toList ns) (hj : StrsAre items2.toList ms)
    (hu : A.units < cLine) (h : Q (.bool (lexLtS ns ms)) s) : wpAny (model prog w) A (compareOp .Lt (.ref l) (.ref b)) Q E s := by
  obtain ⟨⟨cls, dd, data, sl⟩, ho, hc, n, hd⟩ := id hl
  obtain ⟨⟨cls2, dd2, data2, sl2⟩, ho2, hc2, n2, hd2⟩ := id hb
  simp only at hc hd hc2 hd2
  subst hc hd hc2 hd2
  exact richCompare_meets_room (op := .Lt) ⟨_, ho, rfl⟩ ⟨_, ho2, rfl⟩ PySem.F.slot_tuple_lt PySem.F.entry_tuple_lt (PySem.F.args_tuple_lt_2 _ _) (tuple_lt_strs l b items items2 n n2 dd dd2 sl sl2 ns ms hi hj)
    ⟨ho, ho2, show Value.bool (lexLtS ns ms) ≠ Value.notImplemented ∧ Q (.bool (lexLtS ns ms)) s from ⟨(fun x => nomatch x), h⟩⟩ hu

end
end HT
namespace L2
open PySem PySem.Spec PyProof.Rows
section
variable {X : Cx}
theorem strsAre_of {ss : List Str} : ∀ {us : List Value}, Vals (ss.map V.str) us → StrsAre us ss := by
  induction ss with
  | nil => intro us h; cases h; exact .nil
  | cons x r ih =>
    intro us h
    cases h with
    | cons a b =>
      obtain ⟨t, rfl⟩ := a
      exact .cons _ _ (ih b)
/-- t < u of tuples of texts -/
def rLtTS (K : PySem.W.Frag) : R2 := fun x y H Q => ∃ (a b : Addr) (ns ms : List Str), x = .ref a ∧ y = .ref b ∧ SqT K H a (ns.map V.str) ∧ SqT K H b (ms.map V.str) ∧ Q (.bl (HT.lexLtS ns ms)) H
theorem op_ltTS (hu : X.A.units < cLine) : OpR X (compareOp .Lt) (rLtTS X.K) := by
  intro pins s σ H x y v u Q I rx ry h
  obtain ⟨a, b, ns, ms, rfl, rfl, ha, hb, q⟩ := h
  cases rx
  cases ry
  obtain ⟨its, r1, p1, _⟩ := I.tuple ha
  obtain ⟨its2, r2, p2, _⟩ := I.tuple hb
  exact HT.lt_tupStrs p1 p2 (strsAre_of r1) (strsAre_of r2) hu ⟨.bl _, H, I, rfl, q⟩
/-- xs[::-1] -/
def tRev (K : PySem.W.Frag) (te ts : TE) : TE := fun σ H Q => te σ H fun x H1 => ts σ H1 fun y H2 => ∃ (a : Addr) (xs : List V), x = .ref a ∧ y = .int (-1) ∧ SqL K H2 a xs ∧ ∀ p, H2 p = none → Q (.ref p) (upd H2 p (.lst xs.reverse))
theorem pe_rev {e st : Expr} {te ts : TE} {p2 pos : Pos} (he : PE X e te) (hst : PE X st ts) : PE X (.Subscript e (.Slice none none (some st) p2) pos) (tRev X.K te ts) := by
  intro pins s σ H Q I h
  refine Subscript_ (thn (he pins s σ H _ I h) fun v s1 ⟨x, H1, I1, r1, q1⟩ => ?_)
  refine wpAny_Slice (thn (po_none pins s1 σ H1 _ I1 (show tNoPart σ H1 (fun l H2 => l = none ∧ H2 = H1) from ⟨rfl, rfl⟩)) fun vl s2 ⟨l, H2, I2, pl, el, eH⟩ => thn (po_none pins s2 σ H2 _ I2 (show tNoPart σ H2 (fun l H3 => l = none ∧ H3 = H2) from ⟨rfl, rfl⟩)) fun vu s3 ⟨u, H3, I3, pu, eu, eH'⟩ => ?_)
  subst el; subst eu; subst eH; subst eH'
  rw [evalPart_some]
  refine thn (hst pins s3 σ _ _ I3 q1) fun vst s4 ⟨y, H4, I4, ry, a, xs, ex, ey, hx, q4⟩ => ?_
  subst ex; subst ey
  obtain ⟨tk, rfl⟩ := ry
  cases r1
  have I5 : Inv X pins σ H4 { s4 with heap := s4.heap.push { cls := .type "slice", data := .fields #[vl, vu, .int (-1) tk] } } := I4.kept (t' := s4.toks) fun b ob q => Heap.get?_push_of_some _ q
  obtain ⟨its, r, ht, hz⟩ := I5.list hx
  have hlen := r.length
  refine tail_any (ops := [.ref a, .ref s4.heap.objs.size]) ht.isList.typeIs slot_list_getitem.lookup ?_ (by with_unfolding_all rfl)
  refine wpAny_getItem_list_slice ht.isList (Heap.IsSliceOf.new ..) pl pu (.int (-1) tk) (by simp) ?_ (by rw [List.size_toArray] <;> omega)
  rw [PySem.W.krv_pick]
  refine ⟨.ref _, _, I5.laid (t' := s4.toks) (o := .lst xs.reverse) (fun b ob q => Heap.get?_push_of_some _ q) (Nat.le_refl _) ?_, rfl, q4 _ (I5.hok.fresh (Nat.le_refl _))⟩
  exact ⟨by rw [List.length_reverse]; exact hz, _, 0, r.reverse, Heap.get?_push_size _ rfl⟩
end
end L2

namespace L2
theorem nx_in {D : Ends} {σ : L2.St} {H : Hp} (h : D.nx σ H) : tNext D σ H := h
end L2

namespace KasM
open PySem PySem.W PyProof.Rows
set_option autoImplicit false
/-- a tree of questions answered by lt, all of them below n, ends in Q -/
def Tw {α : Type} (lt : Nat → Nat → Bool) (n : Nat) : KasT α → (α → Prop) → Prop
  | .ret a, Q => Q a
  | .ask i j k, Q => i < n ∧ j < n ∧ Tw lt n (k (lt i j)) Q
theorem Tw_bind {α β : Type} {lt : Nat → Nat → Bool} {n : Nat} {f : α → KasT β} {Q : β → Prop} : ∀ (t : KasT α), Tw lt n t (fun a => Tw lt n (f a) Q) → Tw lt n (t.bind f) Q
  | .ret _, h => h
  | .ask _ _ k, ⟨h1, h2, h3⟩ => ⟨h1, h2, Tw_bind (k _) h3⟩
theorem Tw_mono {α : Type} {lt : Nat → Nat → Bool} {n : Nat} {Q Q' : α → Prop} (hq : ∀ a, Q a → Q' a) : ∀ (t : KasT α), Tw lt n t Q → Tw lt n t Q'
  | .ret a, h => hq a h
  | .ask _ _ k, ⟨h1, h2, h3⟩ => ⟨h1, h2, Tw_mono hq (k _) h3⟩
theorem Tw_wp {α : Type} {lt : Nat → Nat → Bool} {n : Nat} {cmp : Nat → Nat → (Bool → Shared → Prop) → Shared → Prop} {s : Shared} {Q : α → Shared → Prop} (hc : ∀ i j C, i < n → j < n → C (lt i j) s → cmp i j C s) :
    ∀ (t : KasT α), Tw lt n t (fun a => Q a s) → t.kasWp cmp Q s
  | .ret _, h => h
  | .ask _ _ k, ⟨h1, h2, h3⟩ => hc _ _ _ h1 h2 (Tw_wp hc (k _) h3)

section
variable {O : KeyOrd} {key : Nat → O.α} {n : Nat}
abbrev G (p : Array Nat) (i : Nat) : Nat := p.getD i 0
def K (key : Nat → O.α) (p : Array Nat) (i : Nat) : O.α := key (p.getD i 0)
def Asc (key : Nat → O.α) (p : Array Nat) (k : Nat) : Prop := ∀ i, i + 1 < k → O.kle (K key p i) (K key p (i + 1))
def Dsc (key : Nat → O.α) (p : Array Nat) (k : Nat) : Prop := ∀ i, i + 1 < k → O.kle (K key p (i + 1)) (K key p i)
def Pm (n : Nat) (p : Array Nat) : Prop := p.Perm (List.range n).toArray
theorem Pm.size {p : Array Nat} (h : Pm n p) : p.size = n := by have := h.size_eq; simpa using this
theorem Pm.lt {p : Array Nat} (h : Pm n p) (hn : 0 < n) (i : Nat) : p.getD i 0 < n := by
  by_cases hi : i < p.size
  · have e : p.getD i 0 = p[i] := by simp [Array.getD, hi]
    rw [e]
    have : p[i] ∈ p := Array.getElem_mem hi
    have h2 := h.mem_iff.mp this
    simpa using h2
  · have e : p.getD i 0 = 0 := by simp [Array.getD, hi]
    rw [e]; exact hn
theorem getD_rev {p : Array Nat} {i j : Nat} (hj : j ≤ p.size) (k : Nat) : (kas_rev p i j).getD k 0 = if i ≤ k ∧ k < j then p.getD (i + j - 1 - k) 0 else p.getD k 0 := by
  unfold kas_rev
  simp only [Array.getD_eq_getD_getElem?]
  rw [getElem?_mirror_all hj]
  split <;> rfl
theorem getD_bub {p : Array Nat} {k l : Nat} (hk : k < p.size) (hl : l ≤ k) (t : Nat) : (bubble p k (k - l)).getD t 0 = if t = l then p.getD k 0 else if l < t ∧ t ≤ k then p.getD (t - 1) 0 else p.getD t 0 := by
  simp only [Array.getD_eq_getD_getElem?]
  rw [getElem?_bubble hk _ (by omega)]
  rw [show k - (k - l) = l by omega]
  split
  · rfl
  · split <;> rfl
theorem Pm.rev {p : Array Nat} (h : Pm n p) (i j : Nat) : Pm n (kas_rev p i j) := (mirror_perm _ _ _ _).trans h
theorem Pm.bub {p : Array Nat} (h : Pm n p) (i j : Nat) : Pm n (bubble p i j) := (bubble_perm _ _ _).trans h
theorem K_rev {p : Array Nat} {i j : Nat} (hj : j ≤ p.size) (k : Nat) : K key (kas_rev p i j) k = if i ≤ k ∧ k < j then K key p (i + j - 1 - k) else K key p k := by
  unfold K; rw [getD_rev hj]; split <;> rfl
theorem K_rev_eq {p : Array Nat} {i j : Nat} (hj : j ≤ p.size) (he : ∀ k, i ≤ k → k < j → K key p k = K key p (j - 1)) (k : Nat) : K key (kas_rev p i j) k = K key p k := by
  rw [K_rev hj]
  split
  · rw [he _ (by omega) (by omega), he k (by omega) (by omega)]
  · rfl
theorem K_bub {p : Array Nat} {k l : Nat} (hk : k < p.size) (hl : l ≤ k) (t : Nat) : K key (bubble p k (k - l)) t = if t = l then K key p k else if l < t ∧ t ≤ k then K key p (t - 1) else K key p t := by
  unfold K; rw [getD_bub hk hl]; split
  · rfl
  · split <;> rfl
theorem Asc.le {p : Array Nat} {k : Nat} (h : Asc key p k) {i : Nat} : ∀ (d : Nat), i + d < k → O.kle (K key p i) (K key p (i + d))
  | 0, _ => KeyOrd.kle_refl _
  | d + 1, hd => KeyOrd.kle_trans (h.le d (by omega)) (h (i + d) (by omega))
theorem Asc.le' {p : Array Nat} {k : Nat} (h : Asc key p k) {i j : Nat} (hij : i ≤ j) (hj : j < k) : O.kle (K key p i) (K key p j) := by
  have := h.le (i := i) (j - i) (by omega)
  rwa [show i + (j - i) = j by omega] at this

abbrev lt (O : KeyOrd) (key : Nat → O.α) (i j : Nat) : Bool := O.blt (key i) (key j)

theorem asc_ok {p : Array Nat} (hp : Pm n p) (h0 : 0 < n) : ∀ (f a : Nat), 1 ≤ a → Tw (lt O key) n (kas_asc p f a) fun m => a ≤ m ∧ m ≤ a + f ∧ (∀ i, a - 1 ≤ i → i + 1 < m → O.kle (K key p i) (K key p (i + 1))) ∧ (m < a + f → O.klt (K key p m) (K key p (m - 1)))
  | 0, a, _ => ⟨Nat.le_refl _, Nat.le_refl _, fun i h1 h2 => by omega, fun h => by omega⟩
  | f + 1, a, ha => by
    refine ⟨hp.lt h0 _, hp.lt h0 _, ?_⟩
    cases hc : lt O key (p.getD a 0) (p.getD (a - 1) 0) with
    | true =>
      simp only [if_true]
      exact ⟨Nat.le_refl _, by omega, fun i h1 h2 => by omega, fun _ => hc⟩
    | false =>
      simp only [Bool.false_eq_true, if_false]
      refine Tw_mono ?_ _ (asc_ok hp h0 f (a + 1) (by omega))
      rintro m ⟨h1, h2, h3, h4⟩
      refine ⟨by omega, by omega, fun i h5 h6 => ?_, fun h => h4 (by omega)⟩
      by_cases e : i = a - 1
      · subst e
        rw [show a - 1 + 1 = a by omega]
        exact hc
      · exact h3 i (by omega) h6

theorem desc_ok (h0 : 0 < n) : ∀ (f : Nat) (p : Array Nat) (a q : Nat), Pm n p → a + f ≤ n → Dsc key p a → q + 1 ≤ a → (∀ k, a - (q + 1) ≤ k → k < a → K key p k = K key p (a - 1)) →
    Tw (lt O key) n (kas_desc f p a q) fun r => Pm n r.1 ∧ a ≤ r.2.1 ∧ r.2.1 ≤ a + f ∧ Dsc key r.1 r.2.1 ∧ r.2.2 + 1 ≤ r.2.1 ∧ (∀ k, r.2.1 - (r.2.2 + 1) ≤ k → k < r.2.1 → K key r.1 k = K key r.1 (r.2.1 - 1))
  | 0, p, a, q, hp, _, hd, hq, he => ⟨hp, Nat.le_refl _, Nat.le_refl _, hd, hq, he⟩
  | f + 1, p, a, q, hp, hf, hd, hq, he => by
    have hz := hp.size
    refine ⟨hp.lt h0 _, hp.lt h0 _, ?_⟩
    cases hc : lt O key (p.getD a 0) (p.getD (a - 1) 0) with
    | true =>
      have hc' : O.klt (K key p a) (K key p (a - 1)) := hc
      have hd' : Dsc key p (a + 1) := fun i hi => by
        by_cases e : i + 1 = a
        · rw [e]; have : i = a - 1 := by omega
          rw [this]; exact KeyOrd.kle_of_klt hc'
        · exact hd i (by omega)
      simp only [if_true]
      by_cases hq0 : q > 0
      · rw [if_pos hq0]
        have kk := K_rev_eq (key := key) (p := p) (i := a - (q + 1)) (j := a) (by omega) he
        refine Tw_mono ?_ _ (desc_ok h0 f _ (a + 1) 0 (hp.rev _ _) (by omega) (fun i hi => by rw [kk, kk]; exact hd' i hi) (by omega) (fun k h1 h2 => by rw [show k = a + 1 - 1 by omega]))
        rintro r ⟨b1, b2, b3, b4, b5, b6⟩
        exact ⟨b1, by omega, by omega, b4, b5, b6⟩
      · rw [if_neg hq0]
        refine Tw_mono ?_ _ (desc_ok h0 f _ (a + 1) 0 hp (by omega) hd' (by omega) (fun k h1 h2 => by rw [show k = a + 1 - 1 by omega]))
        rintro r ⟨b1, b2, b3, b4, b5, b6⟩
        exact ⟨b1, by omega, by omega, b4, b5, b6⟩
    | false =>
      have hc' : O.kle (K key p (a - 1)) (K key p a) := hc
      simp only [Bool.false_eq_true, if_false]
      refine ⟨hp.lt h0 _, hp.lt h0 _, ?_⟩
      cases hc2 : lt O key (p.getD (a - 1) 0) (p.getD a 0) with
      | true =>
        simp only [if_true]
        exact ⟨hp, Nat.le_refl _, Nat.le_add_right _ _, hd, hq, he⟩
      | false =>
        have hc2' : O.kle (K key p a) (K key p (a - 1)) := hc2
        have ee : K key p a = K key p (a - 1) := KeyOrd.kle_antisymm hc2' hc'
        simp only [Bool.false_eq_true, if_false]
        refine Tw_mono ?_ _ (desc_ok h0 f _ (a + 1) (q + 1) hp (by omega) (fun i hi => ?_) (by omega) (fun k h1 h2 => ?_))
        · rintro r ⟨b1, b2, b3, b4, b5, b6⟩
          exact ⟨b1, by omega, by omega, b4, b5, b6⟩
        · by_cases e : i + 1 = a
          · rw [e]; have : i = a - 1 := by omega
            rw [this]; exact hc2'
          · exact hd i (by omega)
        · rw [show a + 1 - 1 = a by omega]
          by_cases e : k = a
          · rw [e]
          · rw [he k (by omega) (by omega), ee]

abbrev Cnt (key : Nat → O.α) (n : Nat) (r : Nat × Array Nat) : Prop := Pm n r.2 ∧ 1 ≤ r.1 ∧ r.1 ≤ n ∧ Asc key r.2 r.1
theorem tail3_ok (h0 : 0 < n) {p : Array Nat} {a : Nat} (hp : Pm n p) (h1 : 1 ≤ a) (ha : a ≤ n) (hd : Dsc key p a) : Tw (lt O key) n (kas_tail3 a n p) (Cnt key n) := by
  unfold kas_tail3
  have hz := hp.size
  have kk := K_rev (key := key) (p := p) (i := 0) (j := a) (by omega)
  refine Tw_bind _ (Tw_mono ?_ _ (asc_ok (O := O) (key := key) (hp.rev 0 a) h0 (n - a) a h1))
  rintro m ⟨b1, b2, b3, _⟩
  refine ⟨hp.rev _ _, by show 1 ≤ m; omega, by show m ≤ n; omega, fun i hi => ?_⟩
  have hi' : i + 1 < m := hi
  by_cases e : a - 1 ≤ i
  · exact b3 i e hi'
  · show O.kle (K key (kas_rev p 0 a) i) (K key (kas_rev p 0 a) (i + 1))
    rw [kk, kk, if_pos (by omega), if_pos (by omega)]
    have := hd (0 + a - 1 - (i + 1)) (by omega)
    rwa [show 0 + a - 1 - (i + 1) + 1 = 0 + a - 1 - i by omega] at this
theorem descPart_ok (h0 : 0 < n) {p : Array Nat} {a : Nat} (hp : Pm n p) (h1 : 1 ≤ a) (ha : a + 1 ≤ n) (hd : Dsc key p (a + 1)) : Tw (lt O key) n (kas_descPart a n p) (Cnt key n) := by
  unfold kas_descPart
  refine Tw_bind _ (Tw_mono ?_ _ (desc_ok (O := O) (key := key) h0 (n - (a + 1)) p (a + 1) 0 hp (by omega) hd (by omega) (fun k h1 h2 => by rw [show k = a + 1 - 1 by omega])))
  rintro ⟨p', m, q⟩ ⟨b1, b2, b3, b4, b5, b6⟩
  dsimp only at b1 b2 b3 b4 b5 b6 ⊢
  have hz := b1.size
  split
  · have kk := K_rev_eq (key := key) (p := p') (i := m - (q + 1)) (j := m) (by omega) b6
    exact tail3_ok h0 (b1.rev _ _) (by omega) (by omega) fun i hi => by rw [kk, kk]; exact b4 i hi
  · exact tail3_ok h0 b1 (by omega) (by omega) b4
theorem count_ok (h0 : 0 < n) {p : Array Nat} (hp : Pm n p) : Tw (lt O key) n (kas_count n p) (Cnt key n) := by
  unfold kas_count
  have hz := hp.size
  refine Tw_bind _ (Tw_mono ?_ _ (asc_ok (O := O) (key := key) hp h0 (n - 1) 1 (Nat.le_refl _)))
  rintro m ⟨b1, b2, b3, b4⟩
  have asc : Asc key p m := fun i hi => b3 i (by omega) hi
  by_cases e1 : (m == n) = true
  · rw [if_pos e1]
    exact ⟨hp, b1, by show m ≤ n; omega, asc⟩
  · rw [if_neg e1]
    have hlt : m < n := by
      have : m ≠ n := fun q => e1 (by rw [q]; exact beq_self_eq_true _)
      omega
    have hk := b4 (by omega)
    by_cases e2 : m > 1
    · rw [if_pos e2]
      refine ⟨hp.lt h0 _, hp.lt h0 _, ?_⟩
      cases hc : lt O key (p.getD 0 0) (p.getD (m - 1) 0) with
      | true =>
        simp only [if_true]
        exact ⟨hp, b1, by show m ≤ n; omega, asc⟩
      | false =>
        have hc' : O.kle (K key p (m - 1)) (K key p 0) := hc
        simp only [Bool.false_eq_true, if_false]
        have he : ∀ k, 0 ≤ k → k < m → K key p k = K key p (m - 1) := fun k _ h2 =>
          KeyOrd.kle_antisymm (asc.le' (by omega) (by omega)) (KeyOrd.kle_trans hc' (asc.le' (by omega) h2))
        have kk := K_rev_eq (key := key) (p := p) (i := 0) (j := m) (by omega) he
        refine descPart_ok h0 (hp.rev _ _) b1 (by omega) fun i hi => ?_
        rw [kk, kk]
        by_cases e : i + 1 = m
        · rw [e, show i = m - 1 by omega]; exact KeyOrd.kle_of_klt hk
        · rw [he i (by omega) (by omega), he (i + 1) (by omega) (by omega)]; exact KeyOrd.kle_refl _
    · rw [if_neg e2]
      refine descPart_ok h0 hp b1 (by omega) fun i hi => ?_
      have : m = 1 := by omega
      subst this
      obtain rfl : i = 0 := by omega
      exact KeyOrd.kle_of_klt hk

theorem place_ok (h0 : 0 < n) {p : Array Nat} {k : Nat} (hp : Pm n p) (ha : Asc key p k) : ∀ (f l r : Nat), r - l ≤ f → l ≤ r → r ≤ k → (∀ i, i < l → O.kle (K key p i) (K key p k)) → (∀ i, r ≤ i → i < k → O.klt (K key p k) (K key p i)) →
    Tw (lt O key) n (kas_place p k f l r) fun m => m ≤ k ∧ (∀ i, i < m → O.kle (K key p i) (K key p k)) ∧ (∀ i, m ≤ i → i < k → O.klt (K key p k) (K key p i))
  | 0, l, r, hf, hl, hr, h1, h2 => ⟨by omega, h1, fun i a b => h2 i (by omega) b⟩
  | f + 1, l, r, hf, hl, hr, h1, h2 => by
    unfold kas_place
    by_cases e : l ≥ r
    · rw [if_pos e]
      exact ⟨by omega, h1, fun i a b => h2 i (by omega) b⟩
    · rw [if_neg e]
      refine ⟨hp.lt h0 _, hp.lt h0 _, ?_⟩
      cases hc : lt O key (p.getD k 0) (p.getD ((l + r) / 2) 0) with
      | true =>
        have hc' : O.klt (K key p k) (K key p ((l + r) / 2)) := hc
        simp only [if_true]
        exact place_ok h0 hp ha f l ((l + r) / 2) (by omega) (by omega) (by omega) h1 fun i a b => KeyOrd.klt_of_klt_of_kle hc' (ha.le' a b)
      | false =>
        have hc' : O.kle (K key p ((l + r) / 2)) (K key p k) := hc
        simp only [Bool.false_eq_true, if_false]
        exact place_ok h0 hp ha f ((l + r) / 2 + 1) r (by omega) (by omega) hr (fun i a => KeyOrd.kle_trans (ha.le' (by omega) (by omega)) hc') h2
theorem bin_ok (h0 : 0 < n) : ∀ (f : Nat) (p : Array Nat) (k : Nat), Pm n p → k + f = n → Asc key p k → Tw (lt O key) n (kas_bin f p k) fun p' => Pm n p' ∧ Asc key p' n
  | 0, p, k, hp, hk, ha => ⟨hp, by have : k = n := by omega
                                   rw [← this]; exact ha⟩
  | f + 1, p, k, hp, hk, ha => by
    have hz := hp.size
    unfold kas_bin
    refine Tw_bind _ (Tw_mono ?_ _ (place_ok (O := O) (key := key) h0 hp ha k 0 k (by omega) (by omega) (Nat.le_refl _) (fun i h => by omega) fun i a b => by omega))
    rintro l ⟨b1, b2, b3⟩
    have kk := K_bub (key := key) (p := p) (k := k) (l := l) (by omega) b1
    refine bin_ok h0 f _ (k + 1) (hp.bub _ _) (by omega) fun i hi => ?_
    rw [kk, kk]
    by_cases e1 : i = l
    · rw [if_pos e1, if_neg (by omega)]
      by_cases e2 : i + 1 ≤ k
      · rw [if_pos (by omega)]
        exact KeyOrd.kle_of_klt (b3 (i + 1 - 1) (by omega) (by omega))
      · omega
    · rw [if_neg e1]
      by_cases e2 : i + 1 = l
      · rw [if_pos e2, if_neg (by omega)]
        exact b2 i (by omega)
      · rw [if_neg e2]
        by_cases e3 : l < i
        · rw [if_pos (by omega), if_pos (by omega)]
          have := ha (i - 1) (by omega)
          rwa [show i - 1 + 1 = i + 1 - 1 by omega] at this
        · rw [if_neg (by omega), if_neg (by omega)]
          exact ha i (by omega)
theorem sort_ok (h0 : 0 < n) : Tw (lt O key) n (kas_sort n) fun p => Pm n p ∧ Asc key p n := by
  unfold kas_sort
  refine Tw_bind _ (Tw_mono ?_ _ (count_ok (O := O) (key := key) h0 (Array.Perm.refl _)))
  rintro ⟨m, p⟩ ⟨b1, b2, b3, b4⟩
  dsimp only at b1 b2 b3 b4 ⊢
  split
  · rw [show max m 1 = m by omega]
    exact bin_ok h0 _ _ _ b1 (by omega) b4
  · exact ⟨b1, by have : m = n := by omega
                  rw [← this]; exact b4⟩
end
end KasM

namespace L2
open PySem PySem.Spec PyProof.Rows
section
variable {prog : Program} {w : World} {A : Around} {E : Value → Shared → Prop} {s : Shared}
/-- list.sort with questions that change nothing -/
theorem list_sort_kas {O : KeyOrd} {key : Nat → O.α} {κ : SortKind} {a : Addr} {vs : List Value} {n : Nat} {P : PySem.Fin → Shared → Prop} (ho : s.heap.get? a = some (seqObj "list" vs.toArray n)) (h64 : vs.length < 64)
    (hkind : 2 ≤ vs.length → ∀ (h' : Heap), (∀ b o, b ≠ a → s.heap.get? b = some o → h'.get? b = some o) → ∀ (Q : SortKind → Shared → Prop), Q κ { s with heap := h' } → wpAny (model prog w) A (keyKind' vs.toArray) Q (fun _ _ => False) { s with heap := h' })
    (hcmp : ∀ (h' : Heap), (∀ b o, b ≠ a → s.heap.get? b = some o → h'.get? b = some o) → ∀ (i j : Nat) (C : Bool → Shared → Prop), i < vs.length → j < vs.length → C (O.blt (key i) (key j)) { s with heap := h' } → PySem.W.kas_ask prog w A κ vs i j C { s with heap := h' })
    (h : ∀ is : List Nat, is.Perm (List.range vs.length) → (∀ i, i + 1 < is.length → O.kle (key (is.getD i 0)) (key (is.getD (i + 1) 0))) → P (.done (.ret .none)) { s with heap := sortedHeap s.heap a vs (is.map fun i => vs.getD i Value.none).toArray }) :
    wpAny (model prog w) A (Builtin.«list.sort» ⟨[.ref a], []⟩) P E s := by
  rw [list_sort_plain]
  have ha : a < s.heap.objs.size := Heap.lt_size ho
  have hsz : vs.toArray.size = vs.length := by simp
  refine wpAny_bind (listItems_at ho rfl ?_)
  refine wpAny_bind (listUpdate_at ho rfl ?_ (by rw [List.size_toArray, sizeLine_eq]; omega) (Nat.zero_le _))
  obtain ⟨e1, ho1⟩ : ∃ e1, (s.heap.update a (Obj.mapSeq fun _ => #[])).get? a = some (seqObj "list" #[] e1) := ⟨_, get?_update_seq ho (fun _ => #[])⟩
  refine wpAny_bind (seqEpoch_at ho1 rfl ?_)
  refine wpAny_bind (wpAny_newTuple ?_ (by show vs.length ≤ _; rw [sizeLine_eq]; omega))
  refine wpAny_bind (wpAny_newList ?_ (Nat.zero_le _))
  refine wpAny_holding ?_
  have ho6 : (((s.heap.update a (Obj.mapSeq fun _ => #[])).push (seqObj "tuple" vs.toArray 0)).push (seqObj "list" #[] 0)).get? a = some (seqObj "list" #[] e1) := by
    rw [Heap.get?_push_ne _ _ _ (by rw [size_push', Heap.size_update]; exact Nat.ne_of_lt (Nat.lt_succ_of_lt ha)), Heap.get?_push_ne _ _ _ (by rw [Heap.size_update]; exact Nat.ne_of_lt ha)]
    exact ho1
  have keep : ∀ b o, b ≠ a → s.heap.get? b = some o → (((s.heap.update a (Obj.mapSeq fun _ => #[])).push (seqObj "tuple" vs.toArray 0)).push (seqObj "list" #[] 0)).get? b = some o := fun b o hb q => by
    refine Heap.get?_push_of_some _ (Heap.get?_push_of_some _ ?_)
    rw [Heap.get?_update_ne _ _ _ _ hb]; exact q
  show wpAny (model prog w) A _ P E { s with heap := ((s.heap.update a (Obj.mapSeq fun _ => #[])).push (seqObj "tuple" vs.toArray 0)).push (seqObj "list" #[] 0) }
  dsimp only
  by_cases h2 : vs.toArray.size < 2
  · rw [if_pos h2, if_pos h2]
    refine wpAny_bind (wpAny_pure ?_)
    rw [StateT.run_pure]
    refine wpAny_bind (wpAny_pure ?_)
    dsimp only
    refine wpAny_bind (seqEpoch_at ho6 rfl ?_)
    refine wpAny_bind (listUpdate_at ho6 rfl ?_ (Nat.zero_le _) (by rw [Array.size_map]; show (pairsOf vs).size ≤ _; rw [pairsOf_size, sizeLine_eq]; omega))
    simp only [bne_self_eq_false, Bool.false_eq_true, if_false]
    have := h (List.range vs.length) (List.Perm.refl _) (fun i hi => by rw [List.length_range] at hi; omega)
    have e : ((List.range vs.length).map fun i => vs.getD i Value.none).toArray = (arrOf (SortSt.mk' general' (vs.toArray.zip vs.toArray) #[] 7 none)).map (·.2) := by
      apply Array.toList_inj.mp
      show (List.range vs.length).map (fun i => vs.getD i Value.none) = ((vs.toArray.zip vs.toArray).map (·.2)).toList
      apply List.ext_getElem?
      intro k
      by_cases hk : k < vs.length
      · simp [hk, List.getD_eq_getElem?_getD]
      · simp [hk]
    rw [e] at this
    exact wpAny_pure this
  · rw [if_neg h2, if_neg h2]
    have h2' : 2 ≤ vs.length := by omega
    refine wpAny_bind (wpAny_mono (hkind h2' _ keep (fun κ' s' => κ' = κ ∧ s' = _) ⟨rfl, rfl⟩) ?_ fun _ _ x => x.elim)
    rintro κ' s' ⟨rfl, rfl⟩
    refine wpAny_bind (wpAny_mono (PySem.W.kat_run (Q := fun st' s' => ∃ p : Array Nat, arrOf st' = p.map (PySem.W.kas_item (vs.toArray.zip vs.toArray)) ∧ failedOf st' = none ∧ KasM.Pm vs.length p ∧ KasM.Asc key p vs.length ∧ s' = { s with heap := ((s.heap.update a (Obj.mapSeq fun _ => #[])).push (seqObj "tuple" vs.toArray 0)).push (seqObj "list" #[] 0) })
      (G := fun p s' => KasM.Pm vs.length p ∧ KasM.Asc key p vs.length ∧ s' = { s with heap := ((s.heap.update a (Obj.mapSeq fun _ => #[])).push (seqObj "tuple" vs.toArray 0)).push (seqObj "list" #[] 0) })
      rfl h2' h64 (fun p' st' s' a1 a2 a3 a4 => ⟨p', a2, a3, a4.1, a4.2.1, a4.2.2⟩)
      (KasM.Tw_wp (lt := KasM.lt O key) (n := vs.length) (hcmp _ keep) _ (KasM.Tw_mono (fun p hp => ⟨hp.1, hp.2, rfl⟩) _ (KasM.sort_ok (O := O) (key := key) (by omega))))) ?_ fun _ _ e => e)
    rintro ⟨⟨⟩, st'⟩ s' ⟨p, har, hf, hp, hasc, rfl⟩
    dsimp only
    have hout := PySem.W.kat_snds (ks := vs) (vs := vs) rfl har
    rw [hout]
    refine wpAny_bind (seqEpoch_at ho6 rfl ?_)
    refine wpAny_bind (listUpdate_at ho6 rfl ?_ (Nat.zero_le _) (by rw [List.size_toArray, List.length_map, Array.length_toList, hp.size, sizeLine_eq]; omega))
    rw [hf]
    simp only [bne_self_eq_false, Bool.false_eq_true, if_false]
    refine wpAny_pure (h p.toList (by have := Array.perm_iff_toList_perm.mp hp; simpa using this) fun i hi => ?_)
    have hz := hp.size
    have := hasc i (by simpa [hz] using hi)
    simpa [KasM.K, Array.getD_eq_getD_getElem?, List.getD_eq_getElem?_getD] using this

theorem sorted_kas {O : KeyOrd} {key : Nat → O.α} {κ : SortKind} {l : Addr} {vs : List Value} {Q : Value → Shared → Prop} (hl : s.heap.IsList l vs.toArray) (h64 : vs.length < 64)
    (hkind : 2 ≤ vs.length → ∀ (h' : Heap), (∀ b o, s.heap.get? b = some o → h'.get? b = some o) → ∀ (Q : SortKind → Shared → Prop), Q κ { s with heap := h' } → wpAny (model prog w) A.in1.in1 (keyKind' vs.toArray) Q (fun _ _ => False) { s with heap := h' })
    (hcmp : ∀ (h' : Heap), (∀ b o, s.heap.get? b = some o → h'.get? b = some o) → ∀ (i j : Nat) (C : Bool → Shared → Prop), i < vs.length → j < vs.length → C (O.blt (key i) (key j)) { s with heap := h' } → PySem.W.kas_ask prog w A.in1.in1 κ vs i j C { s with heap := h' })
    (h : ∀ (D : Addr) (h' : Heap) (n : Nat) (is : List Nat), (∀ b o, s.heap.get? b = some o → h'.get? b = some o) → (∀ b o, s.heap.get? b = some o → b ≠ D) → is.Perm (List.range vs.length) → (∀ i, i + 1 < is.length → O.kle (key (is.getD i 0)) (key (is.getD (i + 1) 0))) →
      h'.get? D = some (seqObj "list" (is.map fun i => vs.getD i Value.none).toArray n) → Q (.ref D) { s with heap := h' }) :
    wpAny (model prog w) A (call (.builtin "sorted") [.ref l]) Q E s := by
  refine Calls.call_function_entry kind_sorted plain_sorted entry_sorted (args_sorted1 _) ?_
  unfold Builtin.«sorted»
  refine wpAny_bind (m := checkCount "sorted" 1 1 _) (wpAny_pure ?_)
  refine wpAny_bind (collect_list hl ?_ (by rw [sizeLine_eq]; omega))
  refine wpAny_bind (wpAny_newList ?_ (by rw [sizeLine_eq]; omega))
  have hsz : ((s.heap.push (seqObj "list" #[] 0)).update s.heap.objs.size (Obj.mapSeq (· ++ vs.toArray))).objs.size = s.heap.objs.size + 1 := by
    rw [Heap.size_update, size_push']
  have hoL : (((s.heap.push (seqObj "list" #[] 0)).update s.heap.objs.size (Obj.mapSeq (· ++ vs.toArray))).push (seqObj "list" vs.toArray 0)).get? (s.heap.objs.size + 1) = some (seqObj "list" vs.toArray 0) := by
    rw [← hsz]; exact Heap.get?_push_size _ rfl
  have keep : ∀ b o, s.heap.get? b = some o → (((s.heap.push (seqObj "list" #[] 0)).update s.heap.objs.size (Obj.mapSeq (· ++ vs.toArray))).push (seqObj "list" vs.toArray 0)).get? b = some o := fun b o q => by
    have hlt : b < s.heap.objs.size := Heap.lt_size q
    rw [Heap.get?_push_ne _ _ _ (by rw [hsz]; exact Nat.ne_of_lt (Nat.lt_succ_of_lt hlt)), Heap.get?_update_ne _ _ _ _ (Nat.ne_of_lt hlt), Heap.get?_push_ne _ _ _ (Nat.ne_of_lt hlt)]
    exact q
  have szne : ∀ b o, s.heap.get? b = some o → b ≠ s.heap.objs.size + 1 := fun b o q => Nat.ne_of_lt (Nat.lt_succ_of_lt (Heap.lt_size q))
  show wpAny _ _ _ _ _ { s with heap := ((s.heap.push (seqObj "list" #[] 0)).update s.heap.objs.size (Obj.mapSeq (· ++ vs.toArray))).push (seqObj "list" vs.toArray 0) }
  rw [hsz]
  refine wpAny_bind (wpAny_holding (wpAny_call_entry slot_list_sort ⟨_, hoL, rfl⟩ entry_list_sort ?body (args_list_sort _)))
  case body =>
    refine list_sort_kas (s := { s with heap := ((s.heap.push (seqObj "list" #[] 0)).update s.heap.objs.size (Obj.mapSeq (· ++ vs.toArray))).push (seqObj "list" vs.toArray 0) }) (key := key) (κ := κ) hoL h64
      (fun h2 h' k => hkind h2 h' fun b o q => k b o (szne b o q) (keep b o q)) (fun h' k => hcmp h' fun b o q => k b o (szne b o q) (keep b o q)) fun is hp hs => ?_
    obtain ⟨n, hg⟩ := sortedHeap_at (vs := vs) (out := (is.map fun i => vs.getD i Value.none).toArray) hoL
    refine ⟨_, rfl, wpAny_pure ⟨_, rfl, h (s.heap.objs.size + 1) _ n is (fun b o q => ?_) szne hp hs hg⟩⟩
    show (sortedHeap (((s.heap.push (seqObj "list" #[] 0)).update s.heap.objs.size (Obj.mapSeq (· ++ vs.toArray))).push (seqObj "list" vs.toArray 0)) (s.heap.objs.size + 1) vs _).get? b = some o
    rw [sortedHeap_old (szne b o q) (Heap.lt_size (keep b o q))]
    exact keep b o q
end
end L2

namespace L2
open PySem PySem.Spec PyProof.Rows
/-- the order of pairs -/
@[reducible] def lexO (O P : KeyOrd) : KeyOrd where
  α := O.α × P.α
  blt x y := O.blt x.1 y.1 || (!O.blt y.1 x.1 && P.blt x.2 y.2)
  irrefl x := by simp [O.irrefl, P.irrefl]
  trans x y z h1 h2 := by
    simp only [Bool.or_eq_true, Bool.and_eq_true, Bool.not_eq_true'] at h1 h2 ⊢
    rcases h1 with h1 | ⟨h1, k1⟩ <;> rcases h2 with h2 | ⟨h2, k2⟩
    · exact .inl (O.trans _ _ _ h1 h2)
    · exact .inl (KeyOrd.klt_of_klt_of_kle h1 h2)
    · exact .inl (KeyOrd.klt_of_kle_of_klt h1 h2)
    · exact .inr ⟨KeyOrd.kle_trans (O := O) h1 h2, P.trans _ _ _ k1 k2⟩
  negTrans x y z h := by
    simp only [Bool.or_eq_true, Bool.and_eq_true, Bool.not_eq_true'] at h ⊢
    rcases h with h | ⟨h, k⟩
    · rcases O.negTrans _ y.1 _ h with h | h
      · exact .inl (.inl h)
      · exact .inr (.inl h)
    · cases e1 : O.blt x.1 y.1 with
      | true => exact .inl (.inl rfl)
      | false =>
        cases e2 : O.blt y.1 z.1 with
        | true => exact .inr (.inl rfl)
        | false =>
          have a1 : O.kle y.1 x.1 := e1
          have a2 : O.kle z.1 y.1 := e2
          have a3 : O.kle x.1 z.1 := h
          have b1 : O.blt y.1 x.1 = false := KeyOrd.kle_trans (O := O) a3 a2
          have b2 : O.blt z.1 y.1 = false := KeyOrd.kle_trans (O := O) a1 a3
          rcases P.negTrans _ y.2 _ k with k | k
          · exact .inl (.inr ⟨b1, k⟩)
          · exact .inr (.inr ⟨b2, k⟩)
  total x y h1 h2 := by
    simp only [Bool.or_eq_false_iff, Bool.and_eq_false_iff, Bool.not_eq_false'] at h1 h2
    have e1 : x.1 = y.1 := O.total _ _ h1.1 h2.1
    have e2 : x.2 = y.2 := P.total _ _ (by rcases h1.2 with z | z; exact absurd (h2.1.symm.trans z) (by simp); exact z) (by rcases h2.2 with z | z; exact absurd (h1.1.symm.trans z) (by simp); exact z)
    exact Prod.ext e1 e2
@[reducible] def strO : KeyOrd where
  α := Str
  blt a b := decide (a.cps.toList < b.cps.toList)
  irrefl a := by simpa using List.lt_irrefl a.cps.toList
  trans a b c h1 h2 := by simp only [decide_eq_true_eq] at *; exact List.lt_trans h1 h2
  negTrans a b c h := by
    simp only [decide_eq_true_eq] at *
    by_cases hab : a.cps.toList < b.cps.toList
    · exact .inl hab
    · exact .inr (List.lt_of_le_of_lt (List.not_lt.mp hab) h)
  total a b h1 h2 := by simp only [decide_eq_false_iff_not] at *; exact ext_toList (List.le_antisymm (List.not_lt.mp h2) (List.not_lt.mp h1))
@[reducible] def intO : KeyOrd where
  α := Int
  blt a b := decide (a < b)
  irrefl a := by simp
  trans a b c h1 h2 := by simp only [decide_eq_true_eq] at *; omega
  negTrans a b c h := by simp only [decide_eq_true_eq] at *; omega
  total a b h1 h2 := by simp only [decide_eq_false_iff_not] at *; omega
/-- a column of sorted rows -/
structure Col where
  O : KeyOrd
  val : O.α → V
  dflt : O.α
  T : Value
  tT : (T == T) = true
  tN : (T != Value.type "tuple") = true
  look : ∀ (M : Model) (h : Heap) (a : O.α) (u : Value), RelV (val a) u → PySem.W.Looks M h (typeOf u) T
  eqB : ∀ (prog : Program) (w : World) (A : Around) (E : Value → Shared → Prop) (s : Shared) (a b : O.α) (u v : Value) (Q : Bool → Shared → Prop), RelV (val a) u → RelV (val b) v → (∀ e : Bool, (e = true ↔ a = b) → Q e s) → wpAny (model prog w) A (eqBool u v) Q E s
  ltB : ∀ (prog : Program) (w : World) (A : Around) (E : Value → Shared → Prop) (s : Shared) (a b : O.α) (u v : Value) (Q : Bool → Shared → Prop), RelV (val a) u → RelV (val b) v → Q (O.blt a b) s → wpAny (model prog w) A (oneLt' true u v) Q E s
  ltC : ∀ (prog : Program) (w : World) (A : Around) (E : Value → Shared → Prop) (s : Shared) (a b : O.α) (u v : Value) (Q : Bool → Shared → Prop), RelV (val a) u → RelV (val b) v → Q (O.blt a b) s → wpAny (model prog w) A (oneLt' false u v) Q E s
@[reducible] def strC : Col where
  O := strO
  val := V.str
  dflt := default
  T := .type "str"
  tT := by decide
  tN := by decide
  look M h a u r := by obtain ⟨t, rfl⟩ := r; exact PySem.W.Looks.of_pure rfl
  eqB prog w A E s a b u v Q r r' h := by
    obtain ⟨t, rfl⟩ := r; obtain ⟨t', rfl⟩ := r'
    exact eqBool_str (h _ (by simp))
  ltB prog w A E s a b u v Q r r' h := by
    obtain ⟨t, rfl⟩ := r; obtain ⟨t', rfl⟩ := r'
    exact oneLt_str h
  ltC prog w A E s a b u v Q r r' h := by
    obtain ⟨t, rfl⟩ := r; obtain ⟨t', rfl⟩ := r'
    exact PySem.W.kat_one _ _ (PySem.P.lt_str h)
@[reducible] def intC : Col where
  O := intO
  val := V.int
  dflt := 0
  T := .type "int"
  tT := by decide
  tN := by decide
  look M h a u r := by obtain ⟨t, rfl⟩ := r; exact PySem.W.Looks.of_pure rfl
  eqB prog w A E s a b u v Q r r' h := by
    obtain ⟨t, rfl⟩ := r; obtain ⟨t', rfl⟩ := r'
    exact wpAny_eqBool_int (h _ (by simp))
  ltB prog w A E s a b u v Q r r' h := by
    obtain ⟨t, rfl⟩ := r; obtain ⟨t', rfl⟩ := r'
    exact oneLt_int h
  ltC prog w A E s a b u v Q r r' h := by
    obtain ⟨t, rfl⟩ := r; obtain ⟨t', rfl⟩ := r'
    exact PySem.W.kat_one _ _ (PySem.P.lt_int h)

theorem lexO_eq {c d : Col} (x y : (lexO c.O d.O).α) (e : x.1 = y.1) : (lexO c.O d.O).blt x y = d.O.blt x.2 y.2 := by
  show (c.O.blt x.1 y.1 || (!c.O.blt y.1 x.1 && d.O.blt x.2 y.2)) = _
  rw [e, c.O.irrefl]; rfl
theorem lexO_ne {c d : Col} (x y : (lexO c.O d.O).α) (e : x.1 ≠ y.1) : (lexO c.O d.O).blt x y = c.O.blt x.1 y.1 := by
  show (c.O.blt x.1 y.1 || (!c.O.blt y.1 x.1 && d.O.blt x.2 y.2)) = _
  cases h1 : c.O.blt x.1 y.1 with
  | true => rfl
  | false =>
    cases h2 : c.O.blt y.1 x.1 with
    | true => rfl
    | false => exact absurd (c.O.total _ _ h1 h2) e
section
variable {prog : Program} {w : World} {A : Around} {E : Value → Shared → Prop} {s : Shared}
theorem cmp_rowP (c d : Col) {x y : Addr} {p q : (lexO c.O d.O).α} {u1 u2 v1 v2 : Value} {Q : Bool → Shared → Prop} (hx : IsTup s.heap x #[u1, u2]) (hy : IsTup s.heap y #[v1, v2]) (r1 : RelV (c.val p.1) u1) (r2 : RelV (d.val p.2) u2) (s1 : RelV (c.val q.1) v1) (s2 : RelV (d.val q.2) v2)
    (h : Q ((lexO c.O d.O).blt p q) s) : wpAny (model prog w) A (keyLt' (tuples' true) (.ref x) (.ref y)) Q E s := by
  obtain ⟨ox, hox, _, n, dx⟩ := hx
  obtain ⟨oy, hoy, _, m, dy⟩ := hy
  refine PySem.W.kat_lt hox dx hoy dy (PySem.W.kat_cons (c.eqB _ _ _ _ _ _ _ _ _ _ r1 s1 fun e he => ?_))
  cases e with
  | false =>
    have hne : p.1 ≠ q.1 := fun z => Bool.false_ne_true (he.mpr z)
    rw [lexO_ne _ _ hne] at h
    exact PySem.W.kat_no (c.ltB _ _ _ _ _ _ _ _ _ _ r1 s1 h)
  | true =>
    rw [lexO_eq _ _ (he.mp rfl)] at h
    refine PySem.W.kat_yes (PySem.W.kat_cons (d.eqB _ _ _ _ _ _ _ _ _ _ r2 s2 fun e he => ?_))
    cases e with
    | false => exact PySem.W.kat_no (d.ltC _ _ _ _ _ _ _ _ _ _ r2 s2 h)
    | true =>
      refine PySem.W.kat_yes (PySem.W.kat_nil ?_)
      rw [he.mp rfl, d.O.irrefl] at h
      exact h
end
theorem pairwise_of_steps {α : Type} {R : α → α → Prop} (tr : ∀ a b c, R a b → R b c → R a c) : ∀ (l : List α), (∀ i a b, l[i]? = some a → l[i + 1]? = some b → R a b) → l.Pairwise R
  | [], _ => .nil
  | [x], _ => by simp
  | x :: y :: r, h => by
    have ih := pairwise_of_steps tr (y :: r) fun i a b h1 h2 => h (i + 1) a b (by simpa using h1) (by simpa using h2)
    have hxy : R x y := h 0 x y rfl rfl
    refine List.pairwise_cons.mpr ⟨fun z hz => ?_, ih⟩
    rcases List.mem_cons.mp hz with e | hz
    · rw [e]; exact hxy
    · exact tr _ _ _ hxy ((List.pairwise_cons.mp ih).1 z hz)
section
variable {X : Cx}
abbrev Row (c d : Col) : Type := V × (lexO c.O d.O).α
def rSortP (X : Cx) (c d : Col) : List V → Hp → VK → Prop := fun vs H Q => ∃ (l : Addr) (zs : List (Row c d)), vs = [.ref l] ∧ SqL X.K H l (zs.map (·.1)) ∧ zs.length < 64 ∧
  (∀ z ∈ zs, ∃ t, z.1 = .ref t ∧ SqT X.K H t [c.val z.2.1, d.val z.2.2]) ∧ ∀ (D : Addr) (zs' : List (Row c d)), zs'.Perm zs → (zs'.map (·.2)).Pairwise (lexO c.O d.O).kle → H D = none → Q (.ref D) (upd H D (.lst (zs'.map (·.1))))

def HR (c d : Col) (h : Heap) (z : Row c d) (v : Value) : Prop := ∃ t u1 u2, z.1 = .ref t ∧ v = .ref t ∧ IsTup h t #[u1, u2] ∧ RelV (c.val z.2.1) u1 ∧ RelV (d.val z.2.2) u2
theorem HR.keeps {c d : Col} {h h' : Heap} {z : Row c d} {v : Value} (k : ∀ b o, h.get? b = some o → h'.get? b = some o) (x : HR c d h z v) : HR c d h' z v := by
  obtain ⟨t, u1, u2, a1, a2, a3, a4⟩ := x
  exact ⟨t, u1, u2, a1, a2, a3.keeps k, a4⟩
theorem hr_tups {c d : Col} {h : Heap} : ∀ (zs : List (Row c d)) (its : List Value), Paired (HR c d h) zs its → ∃ fs, PySem.W.KatTups h its fs ∧ fs.length = zs.length ∧ ∀ v ∈ fs, ∃ a, RelV (c.val a) v
  | _, _, .nil => ⟨[], .nil, rfl, fun _ x => by cases x⟩
  | _, _, .cons ⟨t, u1, u2, a1, a2, ⟨o, b1, b2, n, b3⟩, a4, a5⟩ r => by
    obtain ⟨fs, k1, k2, k3⟩ := hr_tups _ _ r
    subst a2
    refine ⟨u1 :: fs, .cons b1 b2 b3 rfl k1, by simp [k2], fun v hv => ?_⟩
    rcases List.mem_cons.mp hv with e | hv
    · exact ⟨_, e ▸ a4⟩
    · exact k3 v hv
theorem paired_at {α β : Type} {R : α → β → Prop} : ∀ {xs : List α} {ys : List β}, Paired R xs ys → ∀ (i : Nat) (dx : α) (dy : β), i < xs.length → R (xs.getD i dx) (ys.getD i dy)
  | _, _, .nil, i, _, _, h => by simp at h
  | _, _, .cons a r, 0, _, _, _ => a
  | _, _, .cons a r, i + 1, dx, dy, h => by
    have := paired_at r i dx dy (by simpa using h)
    simpa using this
theorem paired_map {α β γ : Type} {R : α → β → Prop} {f : γ → α} {g : γ → β} : ∀ (l : List γ), (∀ x ∈ l, R (f x) (g x)) → Paired R (l.map f) (l.map g)
  | [], _ => .nil
  | x :: l, h => .cons (h x List.mem_cons_self) (paired_map l fun y hy => h y (List.mem_cons_of_mem _ hy))
theorem hr_of {c d : Col} {pins : List (Addr × Obj)} {σ : L2.St} {H : Hp} {s : Shared} (I : Inv X pins σ H s) : ∀ (zs : List (Row c d)) (its : List Value), Vals (zs.map (·.1)) its → (∀ z ∈ zs, ∃ t, z.1 = .ref t ∧ SqT X.K H t [c.val z.2.1, d.val z.2.2]) → Paired (HR c d s.heap) zs its
  | [], its, r, _ => by cases r; exact .nil
  | z :: zs, its, r, h => by
    cases r with
    | cons a b =>
      obtain ⟨t, e, sq⟩ := h z List.mem_cons_self
      obtain ⟨us, r1, it, _⟩ := I.tuple sq
      cases r1 with
      | cons r1 r2 =>
        cases r2 with
        | cons r2 r3 =>
          cases r3
          dsimp only at a
          rw [e] at a
          exact .cons ⟨t, _, _, e, a, it, r1, r2⟩ (hr_of I zs _ b fun y hy => h y (List.mem_cons_of_mem _ hy))
theorem call_sortP (c d : Col) : CallR X (.builtin "sorted") (rSortP X c d) := by
  intro pins s σ H vs us Q I r h
  obtain ⟨l, zs, rfl, hl, h64, hr, q⟩ := h
  obtain ⟨u, rfl, ru⟩ := vals1 r
  obtain rfl : u = Value.ref l := ru
  obtain ⟨its, ri, pl, _⟩ := I.list hl
  have hp := hr_of I zs its ri hr
  have hlen : zs.length = its.length := hp.length
  let dz : Row c d := (V.non, (c.dflt, d.dflt))
  refine sorted_kas (O := lexO c.O d.O) (key := fun i => (zs.getD i dz).2) (κ := tuples' true) (vs := its) (by obtain ⟨o, n, a1, a2, a3, a4⟩ := pl; exact ⟨o, a1, a2, n, a4⟩) (by omega) (fun h2 h' k Q' hq => ?_) (fun h' k i j C hi hj hC => ?_) fun D h' n is kk hD hpm hst hg => ?_
  · have hp' : Paired (HR c d h') zs its := Paired.mapP hp fun _ _ x => x.keeps k
    obtain ⟨fs, k1, k2, k3⟩ := hr_tups _ _ hp'
    refine PySem.W.kat_kind (T := c.T) k1 (by omega) (fun v hv => ?_) c.tT (by rw [c.tN]; exact hq)
    obtain ⟨a, ha⟩ := k3 v hv
    exact c.look _ _ a v ha
  · obtain ⟨t, u1, u2, a1, a2, a3, a4, a5⟩ := (paired_at hp i dz Value.none (by omega)).keeps k
    obtain ⟨t', v1, v2, b1, b2, b3, b4, b5⟩ := (paired_at hp j dz Value.none (by omega)).keeps k
    unfold PySem.W.kas_ask
    rw [a2, b2]
    exact cmp_rowP c d a3 b3 a4 a5 b4 b5 hC
  · have hin : ∀ i ∈ is, i < zs.length := fun i hi => by
      have := hpm.mem_iff.mp hi
      rw [hlen]; simpa using this
    have hrange : (List.range zs.length).map (fun i => zs.getD i dz) = zs := by
      apply List.ext_getElem?
      intro k
      by_cases hk : k < zs.length
      · simp [hk, List.getD_eq_getElem?_getD]
      · simp [hk]
    have hperm : (is.map fun i => zs.getD i dz).Perm zs := by
      have := hpm.map (fun i => zs.getD i dz)
      rwa [← hlen, hrange] at this
    have hv : Vals ((is.map fun i => zs.getD i dz).map (·.1)) (is.map fun i => its.getD i Value.none) := by
      rw [List.map_map]
      refine paired_map is fun i hi => ?_
      obtain ⟨t, u1, u2, a1, a2, _⟩ := paired_at hp i dz Value.none (hin i hi)
      show RelV (zs.getD i dz).1 (its.getD i Value.none)
      rw [a1, a2]; exact rfl
    have hpw : ((is.map fun i => zs.getD i dz).map (·.2)).Pairwise (lexO c.O d.O).kle := by
      refine pairwise_of_steps (fun _ _ _ => KeyOrd.kle_trans) _ fun i a b h1 h2 => ?_
      rw [List.map_map, List.getElem?_map, Option.map_eq_some_iff] at h1 h2
      obtain ⟨x, e1, rfl⟩ := h1
      obtain ⟨y, e2, rfl⟩ := h2
      obtain ⟨hlt, _⟩ := List.getElem?_eq_some_iff.mp e2
      have := hst i hlt
      have g1 : is.getD i 0 = x := by rw [List.getD_eq_getElem?_getD, e1]; rfl
      have g2 : is.getD (i + 1) 0 = y := by rw [List.getD_eq_getElem?_getD, e2]; rfl
      rw [g1, g2] at this
      exact this
    exact ⟨.ref D, upd H D (.lst ((is.map fun i => zs.getD i dz).map (·.1))), I.laidN (t' := s.toks) kk hD ⟨by rw [List.length_map, hperm.length_eq]; exact Nat.le_of_lt (small1000 (by omega)), _, n, hv, hg⟩, rfl, q D _ hperm hpw (I.freshN hD)⟩
end
end L2

namespace L2
open PySem PySem.Spec PyProof.Rows Ord
/-! ### states of tables -/
abbrev goD (p : Str × Int) : Dt := .tup [.str p.1, .int p.2]
abbrev Stt : Type := List (Str × Int) × List Str
abbrev stD (s : Stt) : Dt := .tup [.lst (s.1.map goD), .lst (s.2.map Dt.str)]
def Goes (K : PySem.W.Frag) (H : Hp) (a : Addr) (gs : List (Str × Int)) : Prop := ∃ vs, SqL K H a vs ∧ IsDts K H vs (gs.map goD)
def Stts (K : PySem.W.Frag) (H : Hp) (a : Addr) (ss : List Stt) : Prop := ∃ vs, SqL K H a vs ∧ IsDts K H vs (ss.map stD)
theorem Goes.same {K : PySem.W.Frag} {H H' : Hp} {a : Addr} {gs : List (Str × Int)} (e : Same H H') (h : Goes K H a gs) : Goes K H' a gs := by
  obtain ⟨vs, h1, h2⟩ := h
  exact ⟨vs, e.seq h1, h2.same e⟩
theorem Stts.same {K : PySem.W.Frag} {H H' : Hp} {a : Addr} {ss : List Stt} (e : Same H H') (h : Stts K H a ss) : Stts K H' a ss := by
  obtain ⟨vs, h1, h2⟩ := h
  exact ⟨vs, e.seq h1, h2.same e⟩
theorem strs_dts {K : PySem.W.Frag} {H : Hp} : ∀ {vs : List V} {xs : List Str}, IsDts K H vs (xs.map Dt.str) → vs = xs.map V.str
  | _, [], .nil => rfl
  | _, _ :: _, .cons h t => by cases h; rw [strs_dts t]; rfl
theorem go_at {K : PySem.W.Frag} {H : Hp} {v : V} {p : Str × Int} (h : IsDt K H v (goD p)) : ∃ t, v = .ref t ∧ SqT K H t [.str p.1, .int p.2] := by
  cases h with
  | tup h t =>
    cases t with
    | cons h1 t =>
      cases t with
      | cons h2 t =>
        cases t
        cases h1; cases h2
        exact ⟨_, rfl, h⟩
theorem IsDts.goes_get {K : PySem.W.Frag} {H : Hp} {vs : List V} {gs : List (Str × Int)} (h : IsDts K H vs (gs.map goD)) {i : Nat} {v : V} (hv : vs[i]? = some v) : ∃ p t, gs[i]? = some p ∧ v = .ref t ∧ SqT K H t [.str p.1, .int p.2] := by
  obtain ⟨d, hd, hi⟩ := h.get hv
  rw [List.getElem?_map] at hd
  cases e : gs[i]? with
  | none => rw [e] at hd; cases hd
  | some p =>
    rw [e] at hd
    cases hd
    obtain ⟨t, h1, h2⟩ := go_at hi
    exact ⟨p, t, rfl, h1, h2⟩
theorem st_at {K : PySem.W.Frag} {H : Hp} {v : V} {s : Stt} (h : IsDt K H v (stD s)) : ∃ t g e, v = .ref t ∧ SqT K H t [.ref g, .ref e] ∧ Goes K H g s.1 ∧ SqL K H e (s.2.map V.str) := by
  cases h with
  | tup h t =>
    cases t with
    | cons h1 t =>
      cases t with
      | cons h2 t =>
        cases t
        cases h1 with
        | lst a1 b1 =>
          cases h2 with
          | lst a2 b2 =>
            rw [strs_dts b2] at a2
            exact ⟨_, _, _, rfl, h, ⟨_, a1, b1⟩, a2⟩
theorem IsDts.sts_get {K : PySem.W.Frag} {H : Hp} {vs : List V} {ss : List Stt} (h : IsDts K H vs (ss.map stD)) {i : Nat} {v : V} (hv : vs[i]? = some v) :
    ∃ s t g e, ss[i]? = some s ∧ v = .ref t ∧ SqT K H t [.ref g, .ref e] ∧ Goes K H g s.1 ∧ SqL K H e (s.2.map V.str) := by
  obtain ⟨d, hd, hi⟩ := h.get hv
  rw [List.getElem?_map] at hd
  cases e : ss[i]? with
  | none => rw [e] at hd; cases hd
  | some p =>
    rw [e] at hd
    cases hd
    obtain ⟨t, g, e, h1, h2, h3, h4⟩ := st_at hi
    exact ⟨p, t, g, e, rfl, h1, h2, h3, h4⟩
theorem IsDts.len_map {K : PySem.W.Frag} {H : Hp} {α : Type} {f : α → Dt} {vs : List V} {xs : List α} (h : IsDts K H vs (xs.map f)) : vs.length = xs.length := by
  have := h.length
  rwa [List.length_map] at this
/-- states whose ends are lists of this heap -/
def StE (K : PySem.W.Frag) (H : Hp) (a : Addr) (ss : List Stt) : Prop := ∃ vs, SqL K H a vs ∧ vs.length = ss.length ∧ ∀ (i : Nat) (v : V) (s : Stt), vs[i]? = some v → ss[i]? = some s → ∃ t g e, v = .ref t ∧ SqT K H t [.ref g, .ref e] ∧ Goes K H g s.1 ∧ H e = some (.lst (s.2.map V.str))
theorem StE.same {K : PySem.W.Frag} {H H' : Hp} {a : Addr} {ss : List Stt} (e : Same H H') (h : StE K H a ss) : StE K H' a ss := by
  obtain ⟨vs, h1, h2, h3⟩ := h
  refine ⟨vs, e.seq h1, h2, fun i v s hv hs => ?_⟩
  obtain ⟨t, g, en, a1, a2, a3, a4⟩ := h3 i v s hv hs
  exact ⟨t, g, en, a1, e.seqT a2, a3.same e, e _ _ a4⟩
/-- the sizes that a table may have -/
structure Fits (ss : List Stt) : Prop where
  n : ss.length ≤ 8
  gs : ∀ s ∈ ss, s.1.length ≤ 8
  es : ∀ s ∈ ss, s.2.length ≤ 8
def labelsOf (ss : List Stt) : List Str := ss.flatMap fun s => s.1.map (·.1) ++ s.2
def labelsP (ps : List (Str × Str)) : List Str := ps.flatMap fun p => [p.1, p.2]
theorem labelsOf_snoc (ss : List Stt) (s : Stt) : labelsOf (ss ++ [s]) = (labelsOf ss ++ s.1.map (·.1)) ++ s.2 := by
  unfold labelsOf; rw [List.flatMap_append]; simp
theorem labelsP_snoc (ps : List (Str × Str)) (p : Str × Str) : labelsP (ps ++ [p]) = (labelsP ps ++ [p.1]) ++ [p.2] := by
  unfold labelsP; rw [List.flatMap_append]; simp
theorem labelsOf_len : ∀ (ss : List Stt), (∀ s ∈ ss, s.1.length ≤ 8) → (∀ s ∈ ss, s.2.length ≤ 8) → (labelsOf ss).length ≤ 16 * ss.length
  | [], _, _ => Nat.le_refl _
  | s :: r, h1, h2 => by
    have ih := labelsOf_len r (fun x hx => h1 x (List.mem_cons_of_mem _ hx)) (fun x hx => h2 x (List.mem_cons_of_mem _ hx))
    have a1 := h1 s List.mem_cons_self
    have a2 := h2 s List.mem_cons_self
    unfold labelsOf at ih ⊢
    rw [List.flatMap_cons, List.length_append, List.length_append, List.length_map, List.length_cons]
    omega
theorem labelsP_len : ∀ (ps : List (Str × Str)), (labelsP ps).length = 2 * ps.length
  | [] => rfl
  | p :: r => by
    have ih := labelsP_len r
    unfold labelsP at ih ⊢
    rw [List.flatMap_cons, List.length_append, ih, List.length_cons]
    simp; omega

theorem kind_strs2 {its : List Value} {ss : List Str} (hS : StrsAre its ss) (h2 : 2 ≤ its.length) : keyKind' its.toArray = pure oneType' := by
  match its, hS, h2 with
  | [], _, h2 => simp at h2
  | [_], _, h2 => simp at h2
  | v₁ :: v₂ :: rest, hS, _ => exact keyKind_strs hS
section
variable {X : Cx}
def rSortS (X : Cx) : List V → Hp → VK → Prop := fun vs H Q => ∃ (l : Addr) (ss : List Str), vs = [.ref l] ∧ SqL X.K H l (ss.map V.str) ∧ ss.length < 64 ∧ ∀ (D : Addr) (ss' : List Str), ss'.Perm ss → ss'.Pairwise strO.kle → H D = none → Q (.ref D) (upd H D (.lst (ss'.map V.str)))
theorem call_sortS : CallR X (.builtin "sorted") (rSortS X) := by
  intro pins s σ H vs us Q I r h
  obtain ⟨l, ss, rfl, hl, h64, q⟩ := h
  obtain ⟨u, rfl, ru⟩ := vals1 r
  obtain rfl : u = Value.ref l := ru
  obtain ⟨its, ri, pl, _⟩ := I.list hl
  have hS := strsAre_of ri
  have hlen : ss.length = its.length := by have := ri.length; rwa [List.length_map] at this
  have hat : ∀ i, i < ss.length → ∃ t, its.getD i Value.none = .str (ss.getD i default) t := fun i hi => by
    have := paired_at ri i V.non Value.none (by rw [List.length_map]; exact hi)
    have e : (ss.map V.str).getD i V.non = V.str (ss.getD i default) := by
      rw [List.getD_eq_getElem?_getD, List.getElem?_map, List.getD_eq_getElem?_getD, List.getElem?_eq_getElem hi]; rfl
    rw [e] at this
    exact this
  refine sorted_kas (O := strO) (key := fun i => ss.getD i default) (κ := oneType') (vs := its) pl.isList (by omega) (fun h2 h' k Q' hq => ?_) (fun h' k i j C hi hj hC => ?_) fun D h' n is kk hD hpm hst hg => ?_
  · rw [kind_strs2 hS h2]
    exact wpAny_pure hq
  · obtain ⟨t, e1⟩ := hat i (by omega)
    obtain ⟨t', e2⟩ := hat j (by omega)
    unfold PySem.W.kas_ask
    rw [e1, e2, keyLt'_oneType]
    exact oneLt_str hC
  · have hin : ∀ i ∈ is, i < ss.length := fun i hi => by
      have := hpm.mem_iff.mp hi
      rw [hlen]; simpa using this
    have hrange : (List.range ss.length).map (fun i => ss.getD i default) = ss := by
      apply List.ext_getElem?
      intro k
      by_cases hk : k < ss.length
      · simp [hk, List.getD_eq_getElem?_getD]
      · simp [hk]
    have hperm : (is.map fun i => ss.getD i default).Perm ss := by
      have := hpm.map (fun i => ss.getD i default)
      rwa [← hlen, hrange] at this
    have hv : Vals ((is.map fun i => ss.getD i default).map V.str) (is.map fun i => its.getD i Value.none) := by
      rw [List.map_map]
      exact paired_map is fun i hi => hat i (hin i hi)
    have hpw : (is.map fun i => ss.getD i default).Pairwise strO.kle := by
      refine pairwise_of_steps (R := strO.kle) (fun _ _ _ h k => KeyOrd.kle_trans (O := strO) h k) _ fun i a b h1 h2 => ?_
      rw [List.getElem?_map, Option.map_eq_some_iff] at h1 h2
      obtain ⟨x, e1, rfl⟩ := h1
      obtain ⟨y, e2, rfl⟩ := h2
      obtain ⟨hlt, _⟩ := List.getElem?_eq_some_iff.mp e2
      have := hst i hlt
      have g1 : is.getD i 0 = x := by rw [List.getD_eq_getElem?_getD, e1]; rfl
      have g2 : is.getD (i + 1) 0 = y := by rw [List.getD_eq_getElem?_getD, e2]; rfl
      rw [g1, g2] at this
      exact this
    exact ⟨.ref D, upd H D (.lst ((is.map fun i => ss.getD i default).map V.str)), I.laidN (t' := s.toks) kk hD ⟨by rw [List.length_map, hperm.length_eq]; exact Nat.le_of_lt (small1000 (by omega)), _, n, hv, hg⟩, rfl, q D _ hperm hpw (I.freshN hD)⟩
end

abbrev RowGo (K : PySem.W.Frag) (H : Hp) (z : Row strC intC) : Prop := ∃ t, z.1 = .ref t ∧ SqT K H t [V.str z.2.1, V.int z.2.2]
theorem zip_rows {K : PySem.W.Frag} {H : Hp} : ∀ {ts : List Addr} {gs : List (Str × Int)}, ts.length = gs.length → (∀ (n : Nat) (a : Addr) (p : Str × Int), ts[n]? = some a → gs[n]? = some p → H a = some (.tup [.str p.1, .int p.2])) →
    ∃ zs : List (Row strC intC), zs.map (·.1) = ts.map V.ref ∧ zs.map (·.2) = gs ∧ ∀ z ∈ zs, RowGo K H z
  | [], [], _, _ => ⟨[], rfl, rfl, fun z hz => by cases hz⟩
  | [], _ :: _, h, _ => by simp at h
  | _ :: _, [], h, _ => by simp at h
  | a :: ts, p :: gs, h, k => by
    obtain ⟨zs, h1, h2, h3⟩ := zip_rows (K := K) (H := H) (ts := ts) (gs := gs) (by simpa using h) fun n a p h1 h2 => k (n + 1) a p (by simpa using h1) (by simpa using h2)
    refine ⟨(V.ref a, p) :: zs, by rw [List.map_cons, h1]; rfl, by rw [List.map_cons, h2], fun z hz => ?_⟩
    rcases List.mem_cons.mp hz with e | hz
    · rw [e]; exact ⟨a, rfl, SqT.of (k 0 a p rfl rfl)⟩
    · exact h3 z hz
theorem rows_dts {K : PySem.W.Frag} {H : Hp} : ∀ (zs : List (Row strC intC)), (∀ z ∈ zs, RowGo K H z) → IsDts K H (zs.map (·.1)) ((zs.map (·.2)).map goD)
  | [], _ => .nil
  | z :: zs, h => by
    obtain ⟨t, e, sq⟩ := h z List.mem_cons_self
    refine .cons ?_ (rows_dts zs fun y hy => h y (List.mem_cons_of_mem _ hy))
    show IsDt K H z.1 (goD z.2)
    rw [e]
    exact .tup sq (.cons (.str _) (.cons (.int _) .nil))
/-- a state as a table has it -/
structure SrtOf (s r : Stt) : Prop where
  pg : r.1.Perm s.1
  pe : r.2.Perm s.2
  og : r.1.Pairwise (lexO strO intO).kle
  oe : r.2.Pairwise strO.kle

theorem SqL.updN {K : PySem.W.Frag} {H : Hp} {a D : Addr} {o : HO} {xs : List V} (hn : a ≠ D) (h : SqL K H a xs) : SqL K (upd H D o) a xs := by
  rcases h with (h | ⟨u, h⟩) | h
  · exact .inl (.inl (by rw [upd_ne hn]; exact h))
  · exact .inl (.inr ⟨u, by rw [upd_ne hn]; exact h⟩)
  · exact .inr h
theorem SqT.updL {K : PySem.W.Frag} {H : Hp} {a D : Addr} {o : HO} {xs ys : List V} (hD : H D = some (.lst ys)) (h : SqT K H a xs) : SqT K (upd H D o) a xs := by
  rcases h with (h | ⟨u, h⟩) | h
  · exact .inl (.inl (by rw [upd_ne fun z => by rw [z, hD] at h; cases h]; exact h))
  · exact .inl (.inr ⟨u, by rw [upd_ne fun z => by rw [z, hD] at h; cases h]; exact h⟩)
  · exact .inr h
theorem gos_updL {K : PySem.W.Frag} {H : Hp} {D : Addr} {o : HO} {ys : List V} (hD : H D = some (.lst ys)) : ∀ {vs : List V} {gs : List (Str × Int)}, IsDts K H vs (gs.map goD) → IsDts K (upd H D o) vs (gs.map goD)
  | _, [], .nil => .nil
  | _, p :: gs, .cons h t => by
    obtain ⟨a, e, sq⟩ := go_at h
    subst e
    exact .cons (.tup (sq.updL hD) (.cons (.str _) (.cons (.int _) .nil))) (gos_updL hD t)
theorem Goes.updL {K : PySem.W.Frag} {H : Hp} {a D : Addr} {o : HO} {ys : List V} {gs : List (Str × Int)} (hD : H D = some (.lst ys)) (hn : a ≠ D) (h : Goes K H a gs) : Goes K (upd H D o) a gs := by
  obtain ⟨vs, h1, h2⟩ := h
  exact ⟨vs, h1.updN hn, gos_updL hD h2⟩
/-- a state of a table as it lies in the heap -/
def StH (K : PySem.W.Frag) (H : Hp) (u : Addr) (r : Stt) : Prop := ∃ G E xs, H u = some (.tup [.ref G, .ref E]) ∧ Goes K H G r.1 ∧ H G = some (.lst xs) ∧ H E = some (.lst (r.2.map V.str))
theorem StH.same {K : PySem.W.Frag} {H H' : Hp} {u : Addr} {r : Stt} (e : Same H H') (h : StH K H u r) : StH K H' u r := by
  obtain ⟨G, E, xs, a1, a2, a3, a4⟩ := h
  exact ⟨G, E, xs, e _ _ a1, a2.same e, e _ _ a3, e _ _ a4⟩
/-- rows of states, none of which holds the list D itself, all of whose lists are F -/
structure StRows (K : PySem.W.Frag) (F : Addr → Prop) (H : Hp) (D : Addr) (us : List Addr) (rs : List Stt) : Prop where
  len : us.length = rs.length
  at_ : ∀ (i : Nat) (u : Addr) (r : Stt), us[i]? = some u → rs[i]? = some r → ∃ G E xs, H u = some (.tup [.ref G, .ref E]) ∧ Goes K H G r.1 ∧ H G = some (.lst xs) ∧ H E = some (.lst (r.2.map V.str)) ∧ G ≠ D ∧ E ≠ D ∧ F G ∧ F E
theorem StRows.nil {K : PySem.W.Frag} {F : Addr → Prop} {H : Hp} {D : Addr} : StRows K F H D [] [] := ⟨rfl, fun i u r h => by simp at h⟩
theorem StRows.same {K : PySem.W.Frag} {F : Addr → Prop} {H H' : Hp} {D : Addr} {us : List Addr} {rs : List Stt} (e : Same H H') (h : StRows K F H D us rs) : StRows K F H' D us rs := by
  refine ⟨h.len, fun i u r h1 h2 => ?_⟩
  obtain ⟨G, E, xs, a1, a2, a3, a4, a5, a6, a7⟩ := h.at_ i u r h1 h2
  exact ⟨G, E, xs, e _ _ a1, a2.same e, e _ _ a3, e _ _ a4, a5, a6, a7⟩
theorem StRows.updL {K : PySem.W.Frag} {F : Addr → Prop} {H : Hp} {D : Addr} {o : HO} {ys : List V} {us : List Addr} {rs : List Stt} (hD : H D = some (.lst ys)) (h : StRows K F H D us rs) : StRows K F (upd H D o) D us rs := by
  refine ⟨h.len, fun i u r h1 h2 => ?_⟩
  obtain ⟨G, E, xs, a1, a2, a3, a4, a5, a6, a7⟩ := h.at_ i u r h1 h2
  exact ⟨G, E, xs, by rw [upd_ne fun z => by rw [z, hD] at a1; cases a1]; exact a1, a2.updL hD a5, by rw [upd_ne a5]; exact a3, by rw [upd_ne a6]; exact a4, a5, a6, a7⟩
theorem StRows.snoc {K : PySem.W.Frag} {F : Addr → Prop} {H : Hp} {D u G E : Addr} {xs : List V} {us : List Addr} {rs : List Stt} {r : Stt} (h : StRows K F H D us rs) (a1 : H u = some (.tup [.ref G, .ref E])) (a2 : Goes K H G r.1) (a3 : H G = some (.lst xs)) (a4 : H E = some (.lst (r.2.map V.str))) (a5 : G ≠ D) (a6 : E ≠ D) (a7 : F G) (a8 : F E) : StRows K F H D (us ++ [u]) (rs ++ [r]) := by
  refine ⟨by rw [List.length_append, List.length_append, h.len]; rfl, fun i v q h1 h2 => ?_⟩
  rcases Nat.lt_or_ge i us.length with hlt | hge
  · rw [List.getElem?_append_left hlt] at h1
    rw [List.getElem?_append_left (by rw [← h.len]; exact hlt)] at h2
    exact h.at_ i v q h1 h2
  · have hn1 : i < (us ++ [u]).length := (List.getElem?_eq_some_iff.mp h1).1
    rw [List.length_append, List.length_singleton] at hn1
    have e : i = us.length := by omega
    subst e
    rw [List.getElem?_append_right (Nat.le_refl _), Nat.sub_self] at h1
    rw [List.getElem?_append_right (by rw [h.len]; exact Nat.le_refl _), h.len, Nat.sub_self] at h2
    cases h1; cases h2
    exact ⟨G, E, xs, a1, a2, a3, a4, a5, a6, a7, a8⟩
theorem three_le : ([] : List V).length + 1 + 1 + 1 ≤ sizeLine := by decide

theorem StRows.dts {K : PySem.W.Frag} {F : Addr → Prop} {H : Hp} {D : Addr} : ∀ {us : List Addr} {rs : List Stt}, StRows K F H D us rs → IsDts K H (us.map V.ref) (rs.map stD)
  | [], [], _ => .nil
  | [], _ :: _, h => by have := h.len; simp at this
  | _ :: _, [], h => by have := h.len; simp at this
  | u :: us, r :: rs, h => by
    obtain ⟨G, E, xs, a1, ⟨gv, a2, a2'⟩, a3, a4, _⟩ := h.at_ 0 u r rfl rfl
    refine .cons (.tup (SqT.of a1) (.cons (.lst a2 a2') (.cons (.lst (SqL.of a4) (IsDts.strs _)) .nil))) ?_
    exact StRows.dts (D := D) ⟨by simpa using h.len, fun i v q h1 h2 => h.at_ (i + 1) v q (by simpa using h1) (by simpa using h2)⟩
theorem StRows.stts {K : PySem.W.Frag} {F : Addr → Prop} {H : Hp} {a : Addr} {us : List Addr} {rs : List Stt} (e : H a = some (.lst (us.map V.ref))) (h : StRows K F H a us rs) : Stts K H a rs := ⟨_, SqL.of e, h.dts⟩

theorem goes_rows {K : PySem.W.Frag} {H : Hp} : ∀ {vs : List V} {gs : List (Str × Int)}, IsDts K H vs (gs.map goD) → ∃ zs : List (Row strC intC), zs.map (·.1) = vs ∧ zs.map (·.2) = gs ∧ ∀ z ∈ zs, RowGo K H z
  | _, [], .nil => ⟨[], rfl, rfl, fun z hz => by cases hz⟩
  | v :: _, p :: gs, .cons h t => by
    obtain ⟨zs, h1, h2, h3⟩ := goes_rows t
    obtain ⟨a, e, sq⟩ := go_at h
    refine ⟨(v, p) :: zs, by rw [List.map_cons, h1], by rw [List.map_cons, h2], fun z hz => ?_⟩
    rcases List.mem_cons.mp hz with e' | hz
    · rw [e']; exact ⟨a, e, sq⟩
    · exact h3 z hz
theorem srt_uniq {O : KeyOrd} {l m : List O.α} (h : l.Perm m) (h1 : l.Pairwise O.kle) (h2 : m.Pairwise O.kle) : l = m :=
  h.eq_of_pairwise (fun a b _ _ x y => KeyOrd.kle_antisymm x y) h1 h2
theorem cmp_go (p q : Str × Int) : Cmp 2 (goD p) (goD q) := .tup (.cons (.str _ _) (.cons (.int _ _) (.nil _)))

/-- goes as tuples of this heap -/
structure GT (H : Hp) (ts : List Addr) (gs : List (Str × Int)) : Prop where
  len : ts.length = gs.length
  at_ : ∀ (n : Nat) (t : Addr) (p : Str × Int), ts[n]? = some t → gs[n]? = some p → H t = some (.tup [.str p.1, .int p.2])
theorem GT.nil {H : Hp} : GT H [] [] := ⟨rfl, fun n t p h => by simp at h⟩
theorem GT.same {H H' : Hp} {ts : List Addr} {gs : List (Str × Int)} (e : Same H H') (h : GT H ts gs) : GT H' ts gs := ⟨h.len, fun n t p h1 h2 => e _ _ (h.at_ n t p h1 h2)⟩
theorem GT.updL {H : Hp} {a : Addr} {o : HO} {xs : List V} {ts : List Addr} {gs : List (Str × Int)} (hD : H a = some (.lst xs)) (h : GT H ts gs) : GT (upd H a o) ts gs := ⟨h.len, fun n t p h1 h2 => by
  have := h.at_ n t p h1 h2
  rw [upd_ne fun z => by rw [z, hD] at this; cases this]
  exact this⟩
theorem GT.snoc {H : Hp} {t : Addr} {ts : List Addr} {gs : List (Str × Int)} {p : Str × Int} (h : GT H ts gs) (e : H t = some (.tup [.str p.1, .int p.2])) : GT H (ts ++ [t]) (gs ++ [p]) := by
  refine ⟨by rw [List.length_append, List.length_append, h.len]; rfl, fun n v q h1 h2 => ?_⟩
  rcases Nat.lt_or_ge n ts.length with hlt | hge
  · rw [List.getElem?_append_left hlt] at h1
    rw [List.getElem?_append_left (by rw [← h.len]; exact hlt)] at h2
    exact h.at_ n v q h1 h2
  · have hn1 : n < (ts ++ [t]).length := (List.getElem?_eq_some_iff.mp h1).1
    rw [List.length_append, List.length_singleton] at hn1
    have e' : n = ts.length := by omega
    subst e'
    rw [List.getElem?_append_right (Nat.le_refl _), Nat.sub_self] at h1
    rw [List.getElem?_append_right (by rw [h.len]; exact Nat.le_refl _), h.len, Nat.sub_self] at h2
    cases h1; cases h2
    exact e
theorem GT.dts {K : PySem.W.Frag} {H : Hp} {ts : List Addr} {gs : List (Str × Int)} (h : GT H ts gs) : IsDts K H (ts.map V.ref) (gs.map goD) := by
  obtain ⟨zs, z1, z2, z3⟩ := zip_rows (K := K) h.len h.at_
  rw [← z1, ← z2]
  exact rows_dts zs z3

/-- over a range, no test, by an invariant of the items so far -/
theorem comp_rangeI {k : Nat} {caps : List Nat} {g : TG} {te : TE} {σ : St} {H1 : Hp} {Q : Addr → Hp → Prop} {lo : Int} {n : Nat} (Pv : Addr → Nat → List V → Hp → Prop)
    (h0 : ∀ D, H1 D = none → Pv D 0 [] (upd H1 D (.lst [])))
    (hs : ∀ (D : Addr) (i : Nat) (ys : List V) (H2 : Hp) (R : VK), H1 D = none → i < n → Pv D i ys H2 → (∀ y H6, H6 D = some (.lst ys) → ys.length < sizeLine → Pv D (i + 1) (ys ++ [y]) (upd H6 D (.lst (ys ++ [y]))) → R y H6) → g (.int (lo + i)) (compSt k caps σ) H2 fun σ4 H4 => te σ4 H4 R)
    (hd : ∀ D ys H2, H1 D = none → Pv D n ys H2 → Q D H2) :
    ∀ D, H1 D = none → ∃ W : Nat → Nat → List V → Hp → Prop, (∃ m, W 0 m [] (upd H1 D (.lst []))) ∧ ∀ i m ys H2, W i m ys H2 →
      ((Itr lo n).stop i H2 ∧ Q D H2) ∨ ((Itr lo n).go i H2 ∧ ∀ x H3, (Itr lo n).yld i H2 x H3 → g x (compSt k caps σ) H3 fun σ4 H4 => tYes σ4 H4 fun b H5 =>
        if b = true then te σ4 H5 fun y H6 => H6 D = some (.lst ys) ∧ ys.length < sizeLine ∧ ∃ m', m' < m ∧ W (i + 1) m' (ys ++ [y]) (upd H6 D (.lst (ys ++ [y]))) else ∃ m', m' < m ∧ W (i + 1) m' ys H5) := by
  intro D hD
  refine ⟨fun i m ys H2 => m = n - i ∧ i ≤ n ∧ Pv D i ys H2, ⟨n, rfl, Nat.zero_le _, h0 D hD⟩, ?_⟩
  rintro i m ys H2 ⟨rfl, hi, p⟩
  by_cases hlt : i < n
  · refine .inr ⟨hlt, fun x H3 y => ?_⟩
    obtain ⟨rfl, rfl⟩ := y
    refine hs D i ys H3 _ hD hlt p fun v H6 e6 hz p6 => ?_
    exact ⟨e6, hz, n - (i + 1), by omega, rfl, hlt, p6⟩
  · have e : i = n := by omega
    subst e
    exact .inl ⟨Nat.le_refl _, hd D ys H2 hD p⟩
theorem pair_kle {p q : Str × Str} (h : (lexO strO strO).kle p q) (hn : p ≠ q) : ltS p.1 q.1 ∨ (p.1 = q.1 ∧ ltS p.2 q.2) := by
  have h' : (lexO strO strO).blt q p = false := h
  cases e : (lexO strO strO).blt p q with
  | false => exact absurd ((lexO strO strO).total _ _ e h') hn
  | true =>
    by_cases e1 : p.1 = q.1
    · rw [lexO_eq (c := strC) (d := strC) p q e1] at e
      exact .inr ⟨e1, show p.2.cps.toList < q.2.cps.toList from of_decide_eq_true e⟩
    · rw [lexO_ne (c := strC) (d := strC) p q e1] at e
      exact .inl (show p.1.cps.toList < q.1.cps.toList from of_decide_eq_true e)
end L2

namespace L2
open PySem PySem.Spec PyProof.Rows Ord
/-! ### what stays where only some lists are changed -/
structure Keeps (M : Addr → Prop) (H H' : Hp) : Prop where
  at_ : ∀ x o, H x = some o → ¬ M x → H' x = some o
  ls : ∀ x o, M x → H x = some o → ∃ xs, o = HO.lst xs
section
variable {K : PySem.W.Frag} {M : Addr → Prop} {H H' : Hp}
theorem Keeps.refl (h : ∀ x o, M x → H x = some o → ∃ xs, o = HO.lst xs) : Keeps M H H := ⟨fun _ _ e _ => e, h⟩
theorem Keeps.set {D : Addr} {o : HO} (k : Keeps M H H') (hD : M D) : Keeps M H (upd H' D o) := ⟨fun x u e n => by
  have hn : x ≠ D := fun z => n (by rw [z]; exact hD)
  rw [upd_ne hn]; exact k.at_ x u e n, k.ls⟩
theorem Keeps.one {D : Addr} {xs : List V} {o : HO} (hD : H D = some (.lst xs)) : Keeps (· = D) H (upd H D o) :=
  ⟨fun x u e n => by rw [upd_ne n]; exact e, fun x u m e => by rw [m, hD] at e; exact ⟨xs, (Option.some.inj e).symm⟩⟩
theorem Keeps.same {H2 : Hp} (k : Keeps M H H') (s : Same H' H2) : Keeps M H H2 := ⟨fun x o e n => s _ _ (k.at_ x o e n), k.ls⟩
theorem Keeps.noT (k : Keeps M H H') {a : Addr} {xs : List V} (h : H a = some (.tup xs)) : ¬ M a := fun m => by
  obtain ⟨_, e⟩ := k.ls _ _ m h
  cases e
theorem Keeps.tup (k : Keeps M H H') {a : Addr} {xs : List V} (h : H a = some (.tup xs)) : H' a = some (.tup xs) := k.at_ _ _ h (k.noT h)
theorem Keeps.seq (k : Keeps M H H') {a : Addr} {xs : List V} (hn : ¬ M a) (h : SqL K H a xs) : SqL K H' a xs := by
  rcases h with (h | ⟨u, h⟩) | h
  · exact .inl (.inl (k.at_ _ _ h hn))
  · exact .inl (.inr ⟨u, k.at_ _ _ h hn⟩)
  · exact .inr h
theorem Keeps.seqT (k : Keeps M H H') {a : Addr} {xs : List V} (h : SqT K H a xs) : SqT K H' a xs := by
  rcases h with (h | ⟨u, h⟩) | h
  · exact .inl (.inl (k.tup h))
  · refine .inl (.inr ⟨u, k.at_ _ _ h fun m => ?_⟩)
    obtain ⟨_, e⟩ := k.ls _ _ m h
    cases e
  · exact .inr h
theorem Keeps.gos (k : Keeps M H H') : ∀ {vs : List V} {gs : List (Str × Int)}, IsDts K H vs (gs.map goD) → IsDts K H' vs (gs.map goD)
  | _, [], .nil => .nil
  | _, p :: gs, .cons h t => by
    obtain ⟨a, e, sq⟩ := go_at h
    subst e
    exact .cons (.tup (k.seqT sq) (.cons (.str _) (.cons (.int _) .nil))) (Keeps.gos k t)
theorem Keeps.goes (k : Keeps M H H') {a : Addr} {gs : List (Str × Int)} (hn : ¬ M a) (h : Goes K H a gs) : Goes K H' a gs := by
  obtain ⟨vs, h1, h2⟩ := h
  exact ⟨vs, k.seq hn h1, k.gos h2⟩
theorem Keeps.tups (k : Keeps M H H') {ts : List Addr} {ps : List (Str × Str)} (h : Tups H ts ps) : Tups H' ts ps := ⟨h.len, fun n t p h1 h2 => k.tup (h.at_ n t p h1 h2)⟩
theorem Keeps.rows (k : Keeps M H H') {F : Addr → Prop} {D : Addr} {us : List Addr} {rs : List Stt} (hF : ∀ x, F x → ¬ M x) (h : StRows K F H D us rs) : StRows K F H' D us rs := by
  refine ⟨h.len, fun i u r h1 h2 => ?_⟩
  obtain ⟨G, E, xs, a1, a2, a3, a4, a5, a6, a7, a8⟩ := h.at_ i u r h1 h2
  exact ⟨G, E, xs, k.tup a1, k.goes (hF _ a7) a2, k.at_ _ _ a3 (hF _ a7), k.at_ _ _ a4 (hF _ a8), a5, a6, a7, a8⟩
end
theorem StRows.stE {K : PySem.W.Frag} {F : Addr → Prop} {H : Hp} {a : Addr} {us : List Addr} {rs : List Stt} (e : H a = some (.lst (us.map V.ref))) (h : StRows K F H a us rs) : StE K H a rs := by
  refine ⟨_, SqL.of e, by rw [List.length_map, h.len], fun i v s hv hs => ?_⟩
  rw [List.getElem?_map] at hv
  obtain ⟨u, hu, rfl⟩ := Option.map_eq_some_iff.mp hv
  obtain ⟨G, E, xs, a1, a2, a3, a4, _⟩ := h.at_ i u s hu hs
  exact ⟨u, G, E, rfl, SqT.of a1, a2, a4⟩
theorem StRows.mono {K : PySem.W.Frag} {F F' : Addr → Prop} {H : Hp} {D : Addr} {us : List Addr} {rs : List Stt} (hF : ∀ x, F x → F' x) (h : StRows K F H D us rs) : StRows K F' H D us rs := by
  refine ⟨h.len, fun i u r h1 h2 => ?_⟩
  obtain ⟨G, E, xs, a1, a2, a3, a4, a5, a6, a7, a8⟩ := h.at_ i u r h1 h2
  exact ⟨G, E, xs, a1, a2, a3, a4, a5, a6, hF _ a7, hF _ a8⟩
theorem StRows.alive {K : PySem.W.Frag} {F : Addr → Prop} {H : Hp} {D : Addr} {us : List Addr} {rs : List Stt} (h : StRows K F H D us rs) : StRows K (fun x => F x ∧ ∃ o, H x = some o) H D us rs := by
  refine ⟨h.len, fun i u r h1 h2 => ?_⟩
  obtain ⟨G, E, xs, a1, a2, a3, a4, a5, a6, a7, a8⟩ := h.at_ i u r h1 h2
  exact ⟨G, E, xs, a1, a2, a3, a4, a5, a6, ⟨a7, _, a3⟩, a8, _, a4⟩
theorem atI_lastE {α : Type} {xs : List α} (h : xs ≠ []) : ∃ v, atI xs (-1) = some v := by
  have hl : 0 < xs.length := List.length_pos_iff.mpr h
  refine ⟨xs[xs.length - 1]'(by omega), ?_⟩
  have e : ixN xs.length (-1) = some (xs.length - 1) := by
    unfold ixN
    rw [if_neg (by decide), if_pos (by omega)]
    congr 1
    omega
  unfold atI
  rw [e]
  exact List.getElem?_eq_getElem (by omega)
/-- over a list that stays, with a test, by an invariant of the items so far -/
theorem comp_listT {K : PySem.W.Frag} {a : Addr} {xs : List V} {k : Nat} {caps : List Nat} {g : TG} {tc : TT} {te : TE} {σ : St} {H1 : Hp} {Q : Addr → Hp → Prop} (Pv : Addr → Nat → List V → Hp → Prop)
    (h0 : ∀ D, H1 D = none → Pv D 0 [] (upd H1 D (.lst []))) (hq : ∀ D i ys H2, Pv D i ys H2 → SqL K H2 a xs)
    (hs : ∀ D i x ys H2 (R : VK) (R0 : Hp → Prop), H1 D = none → xs[i]? = some x → Pv D i ys H2 → (∀ y H6, H6 D = some (.lst ys) → ys.length < sizeLine → Pv D (i + 1) (ys ++ [y]) (upd H6 D (.lst (ys ++ [y]))) → R y H6) → (∀ H5, Pv D (i + 1) ys H5 → R0 H5) → g x (compSt k caps σ) H2 fun σ4 H4 => tc σ4 H4 fun b H5 => if b = true then te σ4 H5 R else R0 H5)
    (hd : ∀ D ys H2, H1 D = none → Pv D xs.length ys H2 → Q D H2) :
    ∀ D, H1 D = none → ∃ W : Nat → Nat → List V → Hp → Prop, (∃ m, W 0 m [] (upd H1 D (.lst []))) ∧ ∀ i m ys H2, W i m ys H2 →
      ((Itl K a).stop i H2 ∧ Q D H2) ∨ ((Itl K a).go i H2 ∧ ∀ x H3, (Itl K a).yld i H2 x H3 → g x (compSt k caps σ) H3 fun σ4 H4 => tc σ4 H4 fun b H5 =>
        if b = true then te σ4 H5 fun y H6 => H6 D = some (.lst ys) ∧ ys.length < sizeLine ∧ ∃ m', m' < m ∧ W (i + 1) m' (ys ++ [y]) (upd H6 D (.lst (ys ++ [y]))) else ∃ m', m' < m ∧ W (i + 1) m' ys H5) := by
  intro D hD
  refine ⟨fun i m ys H2 => m = xs.length - i ∧ i ≤ xs.length ∧ Pv D i ys H2, ⟨xs.length, rfl, Nat.zero_le _, h0 D hD⟩, ?_⟩
  rintro i m ys H2 ⟨rfl, hi, p⟩
  have q2 := hq D i ys H2 p
  by_cases hlt : i < xs.length
  · refine .inr ⟨⟨xs, xs[i], q2, by simp [hlt]⟩, fun x H3 y => ?_⟩
    obtain ⟨rfl, y⟩ := y
    have hx := y xs q2
    refine hs D i x ys H3 _ _ hD hx p (fun v H6 e6 hz p6 => ?_) (fun H5 p5 => ?_)
    · exact ⟨e6, hz, xs.length - (i + 1), by omega, rfl, hlt, p6⟩
    · exact ⟨xs.length - (i + 1), by omega, rfl, hlt, p5⟩
  · have e : i = xs.length := by omega
    subst e
    exact .inl ⟨⟨xs, q2, Nat.le_refl _⟩, hd D ys H2 hD p⟩
/-- a table in the heap: its states, its inner and its order -/
structure Tab (K : PySem.W.Frag) (F : Addr → Prop) (H : Hp) (t : Addr) (rs : List Stt) (n : Int) (ord : List (Str × Str)) : Prop where
  ex : ∃ (a o : Addr) (us : List Addr) (ts : List Addr), H t = some (.tup [.ref a, .int n, .ref o]) ∧ F a ∧ F o ∧ a ≠ o ∧ H a = some (.lst (us.map V.ref)) ∧ StRows K F H a us rs ∧ H o = some (.lst (ts.map V.ref)) ∧ Tups H ts ord
theorem Tab.keeps {K : PySem.W.Frag} {M F : Addr → Prop} {H H' : Hp} {t : Addr} {rs : List Stt} {n : Int} {ord : List (Str × Str)} (k : Keeps M H H') (hF : ∀ x, F x → ¬ M x) (h : Tab K F H t rs n ord) : Tab K F H' t rs n ord := by
  obtain ⟨a, o, us, ts, h1, h2, h3, h4, h5, h6, h7, h8⟩ := h.ex
  exact ⟨a, o, us, ts, k.tup h1, h2, h3, h4, k.at_ _ _ h5 (hF _ h2), k.rows hF h6, k.at_ _ _ h7 (hF _ h3), k.tups h8⟩
theorem Tab.same {K : PySem.W.Frag} {F : Addr → Prop} {H H' : Hp} {t : Addr} {rs : List Stt} {n : Int} {ord : List (Str × Str)} (s : Same H H') (h : Tab K F H t rs n ord) : Tab K F H' t rs n ord := by
  obtain ⟨a, o, us, ts, h1, h2, h3, h4, h5, h6, h7, h8⟩ := h.ex
  exact ⟨a, o, us, ts, s _ _ h1, h2, h3, h4, s _ _ h5, h6.same s, s _ _ h7, h8.same s⟩
theorem Tab.mono {K : PySem.W.Frag} {F F' : Addr → Prop} {H : Hp} {t : Addr} {rs : List Stt} {n : Int} {ord : List (Str × Str)} (hF : ∀ x, F x → F' x) (h : Tab K F H t rs n ord) : Tab K F' H t rs n ord := by
  obtain ⟨a, o, us, ts, h1, h2, h3, h4, h5, h6, h7, h8⟩ := h.ex
  exact ⟨a, o, us, ts, h1, hF _ h2, hF _ h3, h4, h5, h6.mono hF, h7, h8⟩
/-! ### the usual table -/
def uStates : List Stt := [([("all", 1), ("allon", 1), ("elder", 1), ("up", 0)], ["let", "open", "own"]), ([("allon", 1), ("elder", 1)], ["open"]), ([("up", 0)], ["let", "open", "own"])]
def uPairs : List (Str × Str) := [("let", "elder"), ("open", "elder"), ("own", "elder"), ("elder", "all"), ("elder", "allon"), ("all", "up"), ("allon", "up")]
def uOrd : List (Str × Str) := [("all", "up"), ("allon", "up"), ("elder", "all"), ("elder", "allon"), ("elder", "up"), ("let", "all"), ("let", "allon"), ("let", "elder"), ("let", "up"), ("open", "all"), ("open", "allon"), ("open", "elder"), ("open", "up"), ("own", "all"), ("own", "allon"), ("own", "elder"), ("own", "up")]
theorem u_one : ∀ q ∈ uPairs, q ∈ uOrd := by decide +kernel
theorem u_step : ∀ p ∈ uOrd, ∀ q ∈ uPairs, p.2 = q.1 → (p.1, q.2) ∈ uOrd := by decide +kernel
theorem u_path : ∀ p ∈ uOrd, p ∈ uPairs ∨ (∃ q ∈ uPairs, ∃ r ∈ uPairs, q.1 = p.1 ∧ q.2 = r.1 ∧ r.2 = p.2) ∨ ∃ q ∈ uPairs, ∃ r ∈ uPairs, ∃ s ∈ uPairs, q.1 = p.1 ∧ q.2 = r.1 ∧ r.2 = s.1 ∧ s.2 = p.2 := by decide +kernel
theorem u_mem (a b : Str) : (a, b) ∈ uOrd ↔ Path uPairs a b := by
  constructor
  · intro h
    rcases u_path _ h with h | ⟨⟨q1, q2⟩, hq, ⟨r1, r2⟩, hr, e1, e2, e3⟩ | ⟨⟨q1, q2⟩, hq, ⟨r1, r2⟩, hr, ⟨t1, t2⟩, ht, e1, e2, e3, e4⟩
    · exact .one h
    · dsimp only at e1 e2 e3
      subst e1 e2 e3
      exact .snoc (.one hq) hr
    · dsimp only at e1 e2 e3 e4
      subst e1 e2 e3 e4
      exact .snoc (.snoc (.one hq) hr) ht
  · intro h
    induction h with
    | one e => exact u_one _ e
    | snoc _ e ih => exact u_step _ ih _ e rfl
theorem u_nd : uOrd.Nodup := by decide +kernel
instance kle_dec {O : KeyOrd} (a b : O.α) : Decidable (O.kle a b) := inferInstanceAs (Decidable (O.blt b a = false))
theorem u_srt : uOrd.Pairwise (lexO strO strO).kle := by decide +kernel
theorem u_ac (x : Str) : ¬ Path uPairs x x := fun h => by
  have h := (u_mem x x).mpr h
  exact absurd rfl ((show ∀ p ∈ uOrd, p.1 ≠ p.2 by decide +kernel) _ h)
theorem u_og : ∀ s ∈ uStates, s.1.Pairwise (lexO strO intO).kle ∧ s.2.Pairwise strO.kle := by decide +kernel
theorem u_rs {rs : List Stt} (hl : rs.length = uStates.length) (h : ∀ (i : Nat) (s r : Stt), uStates[i]? = some s → rs[i]? = some r → SrtOf s r) : rs = uStates := by
  refine List.ext_getElem hl fun i h1 h2 => ?_
  have so := h i _ _ (List.getElem?_eq_getElem h2) (List.getElem?_eq_getElem h1)
  obtain ⟨o1, o2⟩ := u_og _ (List.getElem_mem h2)
  exact Prod.ext (srt_uniq (O := lexO strO intO) so.pg so.og o1) (srt_uniq (O := strO) so.pe so.oe o2)
end L2

namespace L2
open PySem PySem.Spec PyProof.Rows Ord
section
variable {X : Cx}
/-- a text times an int: some text -/
def rRepS : R2 := fun x y H Q => ∃ i n, x = .str i ∧ y = .int n ∧ 1 ≤ n ∧ n ≤ 1000 ∧ i.length ≤ 1000 ∧ ∀ z : Str, Q (.str z) H
theorem len_repS (x : Str) : ∀ (n : Nat) (acc : Array Nat), ((List.replicate n x.cps).foldl (· ++ ·) acc).size = acc.size + n * x.length
  | 0, acc => by simp
  | n + 1, acc => by
    rw [List.replicate_succ, List.foldl_cons, len_repS x n, Array.size_append, Nat.succ_mul]
    have : x.cps.size = x.length := rfl
    omega
theorem op_repS : OpR X (binaryOp .Mult) rRepS := by
  intro pins s σ H x y v u Q I rx ry h
  obtain ⟨i, n, rfl, rfl, h1, h2, hz, q⟩ := h
  obtain ⟨t, rfl⟩ := rx
  obtain ⟨t', rfl⟩ := ry
  have hs : (1000000 : Nat) ≤ sizeLine := by decide
  have hm : n.toNat * i.length ≤ 1000 * 1000 := Nat.mul_le_mul (by omega) hz
  refine PySem.P.mul_str ?_ (fun _ _ => ?_) (fun _ _ => ?_) ?_
  · have a1 : ¬ n < -(2 ^ 63 : Int) := by omega
    have a2 : ¬ n ≥ (2 ^ 63 : Int) := by omega
    rw [decide_eq_false a1, decide_eq_false a2]; rfl
  · have : (1000 : Int) ≤ (2 ^ 63 - 1) / n := by
      rw [Int.le_ediv_iff_mul_le (by omega)]
      omega
    omega
  · show decide (_ > sizeLine) = false
    exact decide_eq_false (by rw [Nat.mul_comm]; omega)
  · rw [if_neg (by omega)]
    split
    · exact ⟨.str i, H, I, ⟨_, rfl⟩, q i⟩
    · refine ⟨?_, .str _, H, I.tok _, ⟨_, rfl⟩, q _⟩
      show Array.size _ ≤ sizeLine
      rw [len_repS]
      show 0 + _ ≤ _
      omega
end
abbrev rLen (K : PySem.W.Frag) : List V → Hp → VK → Prop := fun xs H Q => ∃ x n, xs = [x] ∧ LenV K x H n ∧ Q (.int n) H
theorem atI_in {α : Type} {xs : List α} {i : Int} (h0 : 0 ≤ i) (h1 : i < xs.length) : ∃ c, atI xs i = some c := by
  obtain ⟨n, rfl⟩ := Int.eq_ofNat_of_zero_le h0
  exact ⟨xs[n]'(by omega), atI_nat (List.getElem?_eq_getElem (by omega))⟩
/-! ### answers, questions -/
abbrev ansD : Option (Str × Int) → Dt
  | none => .non
  | some p => goD p
def Ans (K : PySem.W.Frag) (H : Hp) (a : Addr) (as : List (Option (Str × Int))) : Prop := ∃ vs, SqL K H a vs ∧ IsDts K H vs (as.map ansD)
abbrev Qu : Type := Int × Int × List Str
abbrev quD (q : Qu) : Dt := .tup [.int q.1, .int q.2.1, .tup (q.2.2.map Dt.str)]
def Qus (K : PySem.W.Frag) (H : Hp) (a : Addr) (qs : List Qu) : Prop := ∃ vs, SqL K H a vs ∧ IsDts K H vs (qs.map quD)
section
variable {K : PySem.W.Frag} {H H' : Hp} {a : Addr}
theorem Ans.same {as : List (Option (Str × Int))} (e : Same H H') (h : Ans K H a as) : Ans K H' a as := by
  obtain ⟨vs, h1, h2⟩ := h
  exact ⟨vs, e.seq h1, h2.same e⟩
theorem Qus.same {qs : List Qu} (e : Same H H') (h : Qus K H a qs) : Qus K H' a qs := by
  obtain ⟨vs, h1, h2⟩ := h
  exact ⟨vs, e.seq h1, h2.same e⟩
theorem ans_at {v : V} {o : Option (Str × Int)} (h : IsDt K H v (ansD o)) : (o = none ∧ v = .non) ∨ ∃ p t, o = some p ∧ v = .ref t ∧ SqT K H t [.str p.1, .int p.2] := by
  cases o with
  | none => cases h; exact .inl ⟨rfl, rfl⟩
  | some p =>
    obtain ⟨t, e, sq⟩ := go_at h
    exact .inr ⟨p, t, rfl, e, sq⟩
theorem Ans.get {as : List (Option (Str × Int))} (h : Ans K H a as) {k : Nat} (hk : k < as.length) : ∃ vs v, SqL K H a vs ∧ vs[k]? = some v ∧ ((as[k]? = some none ∧ v = .non) ∨ ∃ p t, as[k]? = some (some p) ∧ v = .ref t ∧ SqT K H t [.str p.1, .int p.2]) := by
  obtain ⟨vs, h1, h2⟩ := h
  have hs := List.getElem?_eq_getElem hk
  obtain ⟨v, hv, hd⟩ := h2.get' (i := k) (d := ansD as[k]) (by rw [List.getElem?_map, hs]; rfl)
  refine ⟨vs, v, h1, hv, ?_⟩
  rcases ans_at hd with ⟨e1, e2⟩ | ⟨p, t, e1, e2, e3⟩
  · exact .inl ⟨by rw [hs, e1], e2⟩
  · exact .inr ⟨p, t, by rw [hs, e1], e2, e3⟩
theorem Goes.get {gs : List (Str × Int)} (h : Goes K H a gs) {k : Nat} {p : Str × Int} (hk : gs[k]? = some p) : ∃ vs t, SqL K H a vs ∧ vs[k]? = some (.ref t) ∧ SqT K H t [.str p.1, .int p.2] := by
  obtain ⟨vs, h1, h2⟩ := h
  obtain ⟨v, hv, hd⟩ := h2.get' (i := k) (d := goD p) (by rw [List.getElem?_map, hk]; rfl)
  obtain ⟨t, rfl, sq⟩ := go_at hd
  exact ⟨vs, t, h1, hv, sq⟩
theorem qu_at {v : V} {q : Qu} (h : IsDt K H v (quD q)) : ∃ t u, v = .ref t ∧ SqT K H t [.int q.1, .int q.2.1, .ref u] ∧ SqT K H u (q.2.2.map V.str) := by
  cases h with
  | tup h t =>
    cases t with
    | cons h1 t =>
      cases t with
      | cons h2 t =>
        cases t with
        | cons h3 t =>
          cases t
          cases h1; cases h2
          cases h3 with
          | tup h3 t3 =>
            rw [strs_dts t3] at h3
            exact ⟨_, _, rfl, h, h3⟩
theorem Keeps.anss {M : Addr → Prop} (k : Keeps M H H') : ∀ {vs : List V} {as : List (Option (Str × Int))}, IsDts K H vs (as.map ansD) → IsDts K H' vs (as.map ansD)
  | _, [], .nil => .nil
  | _, none :: as, .cons h t => by
    cases h
    exact .cons .non (Keeps.anss k t)
  | _, some p :: as, .cons h t => by
    obtain ⟨a, e, sq⟩ := go_at h
    subst e
    exact .cons (.tup (k.seqT sq) (.cons (.str _) (.cons (.int _) .nil))) (Keeps.anss k t)
theorem Keeps.qus {M : Addr → Prop} (k : Keeps M H H') : ∀ {vs : List V} {qs : List Qu}, IsDts K H vs (qs.map quD) → IsDts K H' vs (qs.map quD)
  | _, [], .nil => .nil
  | _, q :: qs, .cons h t => by
    obtain ⟨a, u, e, sq, sq2⟩ := qu_at h
    subst e
    exact .cons (.tup (k.seqT sq) (.cons (.int _) (.cons (.int _) (.cons (.tup (k.seqT sq2) (IsDts.strs _)) .nil)))) (Keeps.qus k t)
end
/-- questions as tuples of this heap -/
structure QT (H : Hp) (ts : List Addr) (qs : List Qu) : Prop where
  len : ts.length = qs.length
  at_ : ∀ (n : Nat) (t : Addr) (q : Qu), ts[n]? = some t → qs[n]? = some q → ∃ u, H t = some (.tup [.int q.1, .int q.2.1, .ref u]) ∧ H u = some (.tup (q.2.2.map V.str))
theorem QT.nil {H : Hp} : QT H [] [] := ⟨rfl, fun n t p h => by simp at h⟩
theorem QT.same {H H' : Hp} {ts : List Addr} {qs : List Qu} (e : Same H H') (h : QT H ts qs) : QT H' ts qs := ⟨h.len, fun n t p h1 h2 => by
  obtain ⟨u, e1, e2⟩ := h.at_ n t p h1 h2
  exact ⟨u, e _ _ e1, e _ _ e2⟩⟩
theorem QT.keeps {M : Addr → Prop} {H H' : Hp} {ts : List Addr} {qs : List Qu} (k : Keeps M H H') (h : QT H ts qs) : QT H' ts qs := ⟨h.len, fun n t p h1 h2 => by
  obtain ⟨u, e1, e2⟩ := h.at_ n t p h1 h2
  exact ⟨u, k.tup e1, k.tup e2⟩⟩
theorem GT.keeps {M : Addr → Prop} {H H' : Hp} {ts : List Addr} {gs : List (Str × Int)} (k : Keeps M H H') (h : GT H ts gs) : GT H' ts gs := ⟨h.len, fun n t p h1 h2 => k.tup (h.at_ n t p h1 h2)⟩
theorem QT.snoc {H : Hp} {t u : Addr} {ts : List Addr} {qs : List Qu} {q : Qu} (h : QT H ts qs) (e : H t = some (.tup [.int q.1, .int q.2.1, .ref u])) (e2 : H u = some (.tup (q.2.2.map V.str))) : QT H (ts ++ [t]) (qs ++ [q]) := by
  refine ⟨by rw [List.length_append, List.length_append, h.len]; rfl, fun n v q' h1 h2 => ?_⟩
  rcases Nat.lt_or_ge n ts.length with hlt | hge
  · rw [List.getElem?_append_left hlt] at h1
    rw [List.getElem?_append_left (by rw [← h.len]; exact hlt)] at h2
    exact h.at_ n v q' h1 h2
  · have hn1 : n < (ts ++ [t]).length := (List.getElem?_eq_some_iff.mp h1).1
    rw [List.length_append, List.length_singleton] at hn1
    have e' : n = ts.length := by omega
    subst e'
    rw [List.getElem?_append_right (Nat.le_refl _), Nat.sub_self] at h1
    rw [List.getElem?_append_right (by rw [h.len]; exact Nat.le_refl _), h.len, Nat.sub_self] at h2
    cases h1; cases h2
    exact ⟨u, e, e2⟩
theorem QT.dts {K : PySem.W.Frag} {H : Hp} {ts : List Addr} {qs : List Qu} (h : QT H ts qs) : IsDts K H (ts.map V.ref) (qs.map quD) := by
  refine IsDts.of_get (by simpa using h.len) fun n v d e1 e2 => ?_
  rw [List.getElem?_map] at e1 e2
  obtain ⟨t, h1, rfl⟩ := Option.map_eq_some_iff.mp e1
  obtain ⟨q, h2, rfl⟩ := Option.map_eq_some_iff.mp e2
  obtain ⟨u, a1, a2⟩ := h.at_ n t q h1 h2
  exact .tup (SqT.of a1) (.cons (.int _) (.cons (.int _) (.cons (.tup (SqT.of a2) (IsDts.strs _)) .nil)))
/-! ### what is in a thing -/
def sortV (ths : List (Str × Int)) (as : List (Option (Str × Int))) (q : Int) : Str × Int := match as[q.toNat]? with
  | some (some p) => if p.1 = ("thing" : Str) then (match ths[p.2.toNat]? with
    | some k => if k.1 = ("part" : Str) then ("to", k.2) else ("no", 0)
    | none => ("no", 0)) else ("no", 0)
  | some none => ("open", q)
  | none => ("no", 0)
def insideV (ths : List (Str × Int)) (as : List (Option (Str × Int))) (p : Str × Int) : Str × Int :=
  if p.1 = ("part" : Str) then ("to", p.2) else if p.1 = ("sort" : Str) then sortV ths as p.2 else ("no", 0)
/-- numbers of things and questions are such as there are -/
structure NetOk (ths : List (Str × Int)) (as : List (Option (Str × Int))) : Prop where
  q : ∀ p ∈ ths, p.1 = ("sort" : Str) → 0 ≤ p.2 ∧ p.2 < as.length
  t : ∀ p, some p ∈ as → p.1 = ("thing" : Str) → 0 ≤ p.2 ∧ p.2 < ths.length
theorem sortV_open {ths : List (Str × Int)} {as : List (Option (Str × Int))} {n : Nat} (h : as[n]? = some none) : sortV ths as (n : Int) = (("open" : Str), (n : Int)) := by
  unfold sortV; rw [Int.toNat_natCast, h]
theorem sortV_no {ths : List (Str × Int)} {as : List (Option (Str × Int))} {n : Nat} {p : Str × Int} (h : as[n]? = some (some p)) (hp : p.1 ≠ ("thing" : Str)) : sortV ths as (n : Int) = (("no" : Str), 0) := by
  unfold sortV; rw [Int.toNat_natCast, h]; exact if_neg hp
theorem sortV_part {ths : List (Str × Int)} {as : List (Option (Str × Int))} {n m : Nat} {p k : Str × Int} (h : as[n]? = some (some p)) (hp : p.1 = ("thing" : Str)) (hm : p.2 = (m : Int)) (hk : ths[m]? = some k) (hk1 : k.1 = ("part" : Str)) : sortV ths as (n : Int) = (("to" : Str), k.2) := by
  unfold sortV; rw [Int.toNat_natCast, h]
  show (if p.1 = ("thing" : Str) then _ else _) = _
  rw [if_pos hp, hm, Int.toNat_natCast, hk]
  exact if_pos hk1
theorem sortV_none {ths : List (Str × Int)} {as : List (Option (Str × Int))} {n m : Nat} {p k : Str × Int} (h : as[n]? = some (some p)) (hp : p.1 = ("thing" : Str)) (hm : p.2 = (m : Int)) (hk : ths[m]? = some k) (hk1 : k.1 ≠ ("part" : Str)) : sortV ths as (n : Int) = (("no" : Str), 0) := by
  unfold sortV; rw [Int.toNat_natCast, h]
  show (if p.1 = ("thing" : Str) then _ else _) = _
  rw [if_pos hp, hm, Int.toNat_natCast, hk]
  exact if_neg hk1
end L2

namespace L2
open PySem PySem.Spec PyProof.Rows Ord
theorem ps_augR {X : Cx} {pos : Pos} {i : Nat} {x : Str} {e : Expr} {te : TE} {op : Operator} {ti : R2} {pos' : Pos} (hN : X.N.Nodup) (hi : X.N[i]? = some x) (hx : Loc X.env.scope x) (he : PE X e te) (ho : OpR X (inplaceOp op) ti) (hf : X.fn x = true ∨ X.env.scope.names.lookup x = some .local := by first | exact .inl rfl | exact .inr rfl | assumption) :
    PS X (.AugAssign (.Name x pos') op e pos) (tAug i te ti) := ps_aug hN hi hx he ho hf
/-! ### rows of tuples of texts and ints -/
def vD : V → Dt
  | .str x => .str x
  | .int i => .int i
  | .bl b => .bl b
  | _ => .non
def Pl : V → Prop
  | .str _ => True
  | .int _ => True
  | .bl _ => True
  | .non => True
  | _ => False
theorem Pl.dt {K : PySem.W.Frag} {H : Hp} : ∀ {v : V}, Pl v → IsDt K H v (vD v)
  | .str x, _ => .str x
  | .int i, _ => .int i
  | .bl b, _ => .bl b
  | .non, _ => .non
theorem pls_dts {K : PySem.W.Frag} {H : Hp} : ∀ {vs : List V}, (∀ v ∈ vs, Pl v) → IsDts K H vs (vs.map vD)
  | [], _ => .nil
  | v :: vs, h => .cons (h v List.mem_cons_self).dt (pls_dts fun x hx => h x (List.mem_cons_of_mem _ hx))
abbrev Stp : Type := Str × Str × Int
abbrev stpV (p : Stp) : List V := [.str p.1, .str p.2.1, .int p.2.2]
abbrev Tlg : Type := Str × Str × Str × Int
abbrev tlgV (p : Tlg) : List V := [.str p.1, .str p.2.1, .str p.2.2.1, .int p.2.2.2]
abbrev stpD (p : Stp) : Dt := .tup [.str p.1, .str p.2.1, .int p.2.2]
abbrev tlgD (p : Tlg) : Dt := .tup [.str p.1, .str p.2.1, .str p.2.2.1, .int p.2.2.2]
section
variable {α : Type} {f : α → List V} {H H' : Hp} {ts : List Addr} {rs : List α}
/-- tuples of this heap, of what f tells -/
structure RT (f : α → List V) (H : Hp) (ts : List Addr) (rs : List α) : Prop where
  len : ts.length = rs.length
  at_ : ∀ (n : Nat) (t : Addr) (r : α), ts[n]? = some t → rs[n]? = some r → H t = some (.tup (f r))
theorem RT.nil : RT f H [] [] := ⟨rfl, fun n t p h => by simp at h⟩
theorem RT.same (e : Same H H') (h : RT f H ts rs) : RT f H' ts rs := ⟨h.len, fun n t p h1 h2 => e _ _ (h.at_ n t p h1 h2)⟩
theorem RT.keeps {M : Addr → Prop} (k : Keeps M H H') (h : RT f H ts rs) : RT f H' ts rs := ⟨h.len, fun n t p h1 h2 => k.tup (h.at_ n t p h1 h2)⟩
theorem RT.snoc {t : Addr} {r : α} (h : RT f H ts rs) (e : H t = some (.tup (f r))) : RT f H (ts ++ [t]) (rs ++ [r]) := by
  refine ⟨by rw [List.length_append, List.length_append, h.len]; rfl, fun n v q h1 h2 => ?_⟩
  rcases Nat.lt_or_ge n ts.length with hlt | hge
  · rw [List.getElem?_append_left hlt] at h1
    rw [List.getElem?_append_left (by rw [← h.len]; exact hlt)] at h2
    exact h.at_ n v q h1 h2
  · have hn1 : n < (ts ++ [t]).length := (List.getElem?_eq_some_iff.mp h1).1
    rw [List.length_append, List.length_singleton] at hn1
    have e' : n = ts.length := by omega
    subst e'
    rw [List.getElem?_append_right (Nat.le_refl _), Nat.sub_self] at h1
    rw [List.getElem?_append_right (by rw [h.len]; exact Nat.le_refl _), h.len, Nat.sub_self] at h2
    cases h1; cases h2
    exact e
theorem RT.dts {K : PySem.W.Frag} {g : α → Dt} (hg : ∀ (r : α) (t : Addr), H t = some (.tup (f r)) → IsDt K H (.ref t) (g r)) (h : RT f H ts rs) : IsDts K H (ts.map V.ref) (rs.map g) := by
  refine IsDts.of_get (by simpa using h.len) fun n v d e1 e2 => ?_
  rw [List.getElem?_map] at e1 e2
  obtain ⟨t, h1, rfl⟩ := Option.map_eq_some_iff.mp e1
  obtain ⟨q, h2, rfl⟩ := Option.map_eq_some_iff.mp e2
  exact hg q t (h.at_ n t q h1 h2)
end
theorem stp_dt {K : PySem.W.Frag} {H : Hp} (r : Stp) (t : Addr) (h : H t = some (.tup (stpV r))) : IsDt K H (.ref t) (stpD r) := .tup (SqT.of h) (.cons (.str _) (.cons (.str _) (.cons (.int _) .nil)))
theorem tlg_dt {K : PySem.W.Frag} {H : Hp} (r : Tlg) (t : Addr) (h : H t = some (.tup (tlgV r))) : IsDt K H (.ref t) (tlgD r) := .tup (SqT.of h) (.cons (.str _) (.cons (.str _) (.cons (.str _) (.cons (.int _) .nil))))
/-! ### scopes -/
abbrev Sco : Type := List Stp × List Tlg
abbrev scoD (s : Sco) : Dt := .tup [.lst (s.1.map stpD), .lst (s.2.map tlgD)]
structure ScH (H : Hp) (u G E : Addr) (s : Sco) : Prop where
  u : H u = some (.tup [.ref G, .ref E])
  g : ∃ ts : List Addr, H G = some (.lst (ts.map V.ref)) ∧ RT stpV H ts s.1
  e : ∃ ts : List Addr, H E = some (.lst (ts.map V.ref)) ∧ RT tlgV H ts s.2
theorem ScH.same {H H' : Hp} {u G E : Addr} {s : Sco} (e : Same H H') (h : ScH H u G E s) : ScH H' u G E s := by
  obtain ⟨a, ⟨ts, b1, b2⟩, ⟨us, c1, c2⟩⟩ := h
  exact ⟨e _ _ a, ⟨ts, e _ _ b1, b2.same e⟩, ⟨us, e _ _ c1, c2.same e⟩⟩
theorem ScH.keeps {M : Addr → Prop} {H H' : Hp} {u G E : Addr} {s : Sco} (k : Keeps M H H') (hG : ¬ M G) (hE : ¬ M E) (h : ScH H u G E s) : ScH H' u G E s := by
  obtain ⟨a, ⟨ts, b1, b2⟩, ⟨us, c1, c2⟩⟩ := h
  exact ⟨k.tup a, ⟨ts, k.at_ _ _ b1 hG, b2.keeps k⟩, ⟨us, k.at_ _ _ c1 hE, c2.keeps k⟩⟩
theorem ScH.dt {K : PySem.W.Frag} {H : Hp} {u G E : Addr} {s : Sco} (h : ScH H u G E s) : IsDt K H (.ref u) (scoD s) := by
  obtain ⟨a, ⟨ts, b1, b2⟩, ⟨us, c1, c2⟩⟩ := h
  exact .tup (SqT.of a) (.cons (.lst (SqL.of b1) (b2.dts stp_dt)) (.cons (.lst (SqL.of c1) (c2.dts tlg_dt)) .nil))
/-- the scopes of a list: their tuples, the lists of steps, the lists of tellings -/
structure Scs (H : Hp) (D : Addr) (us Gs Es : List Addr) (ss : List Sco) : Prop where
  top : H D = some (.lst (us.map V.ref))
  lu : us.length = ss.length
  lg : Gs.length = ss.length
  le : Es.length = ss.length
  at_ : ∀ (i : Nat) (u G E : Addr) (s : Sco), us[i]? = some u → Gs[i]? = some G → Es[i]? = some E → ss[i]? = some s → ScH H u G E s
theorem Scs.same {H H' : Hp} {D : Addr} {us Gs Es : List Addr} {ss : List Sco} (e : Same H H') (h : Scs H D us Gs Es ss) : Scs H' D us Gs Es ss :=
  ⟨e _ _ h.top, h.lu, h.lg, h.le, fun i u G E s h1 h2 h3 h4 => (h.at_ i u G E s h1 h2 h3 h4).same e⟩
theorem Scs.get {H : Hp} {D : Addr} {us Gs Es : List Addr} {ss : List Sco} (h : Scs H D us Gs Es ss) {i : Nat} (hi : i < ss.length) :
    ∃ u G E, us[i]? = some u ∧ Gs[i]? = some G ∧ Es[i]? = some E ∧ ss[i]? = some ss[i] ∧ ScH H u G E ss[i] := by
  have h1 : us[i]? = some (us[i]'(by rw [h.lu]; exact hi)) := List.getElem?_eq_getElem _
  have h2 : Gs[i]? = some (Gs[i]'(by rw [h.lg]; exact hi)) := List.getElem?_eq_getElem _
  have h3 : Es[i]? = some (Es[i]'(by rw [h.le]; exact hi)) := List.getElem?_eq_getElem _
  exact ⟨_, _, _, h1, h2, h3, List.getElem?_eq_getElem hi, h.at_ i _ _ _ _ h1 h2 h3 (List.getElem?_eq_getElem hi)⟩
theorem Scs.keeps {M : Addr → Prop} {H H' : Hp} {D : Addr} {us Gs Es : List Addr} {ss : List Sco} (k : Keeps M H H') (hD : ¬ M D) (hM : ∀ x ∈ Gs ++ Es, ¬ M x) (h : Scs H D us Gs Es ss) : Scs H' D us Gs Es ss :=
  ⟨k.at_ _ _ h.top hD, h.lu, h.lg, h.le, fun i u G E s h1 h2 h3 h4 => (h.at_ i u G E s h1 h2 h3 h4).keeps k (hM _ (List.mem_append_left _ (List.mem_of_getElem? h2))) (hM _ (List.mem_append_right _ (List.mem_of_getElem? h3)))⟩
theorem Scs.dts {K : PySem.W.Frag} {H : Hp} {D : Addr} {us Gs Es : List Addr} {ss : List Sco} (h : Scs H D us Gs Es ss) : IsDts K H (us.map V.ref) (ss.map scoD) := by
  refine IsDts.of_get (by simpa using h.lu) fun n v d e1 e2 => ?_
  rw [List.getElem?_map] at e1 e2
  obtain ⟨u, h1, rfl⟩ := Option.map_eq_some_iff.mp e1
  obtain ⟨s, h2, rfl⟩ := Option.map_eq_some_iff.mp e2
  have hn : n < ss.length := (List.getElem?_eq_some_iff.mp h2).1
  obtain ⟨u', G, E, g1, g2, g3, g4, g5⟩ := h.get hn
  rw [h1] at g1; cases g1
  rw [h2] at g4
  rw [Option.some.inj g4]
  exact g5.dt
/-- a step more of the scope i -/
theorem Scs.step {H : Hp} {D : Addr} {us Gs Es : List Addr} {ss : List Sco} (h : Scs H D us Gs Es ss) (nd : (D :: (Gs ++ Es)).Nodup) {i : Nat} {G t : Addr} {ts : List Addr} {p : Stp} (hi : i < ss.length) (hG : Gs[i]? = some G) (eG : H G = some (.lst (ts.map V.ref))) (T : RT stpV H ts ss[i].1) (et : H t = some (.tup (stpV p))) :
    Scs (upd H G (.lst (ts.map V.ref ++ [.ref t]))) D us Gs Es (ss.set i (ss[i].1 ++ [p], ss[i].2)) := by
  have k : Keeps (· = G) H (upd H G (.lst (ts.map V.ref ++ [.ref t]))) := Keeps.one eG
  obtain ⟨nD, nd2⟩ := List.nodup_cons.mp nd
  obtain ⟨ng, ne, nge⟩ := List.nodup_append.mp nd2
  have mG : G ∈ Gs := List.mem_of_getElem? hG
  refine ⟨k.at_ _ _ h.top fun z => nD (z ▸ List.mem_append_left _ mG), by rw [List.length_set]; exact h.lu, by rw [List.length_set]; exact h.lg, by rw [List.length_set]; exact h.le, fun j u G' E s h1 h2 h3 h4 => ?_⟩
  have hE : E ≠ G := fun z => nge G mG E (List.mem_of_getElem? h3) z.symm
  by_cases e : i = j
  · subst e
    rw [hG] at h2; cases h2
    rw [List.getElem?_set_self hi] at h4; cases h4
    obtain ⟨a, _, ⟨es, c1, c2⟩⟩ := h.at_ i u G E _ h1 hG h3 (List.getElem?_eq_getElem hi)
    exact ⟨k.tup a, ⟨ts ++ [t], by rw [upd_same, List.map_append]; rfl, (T.keeps k).snoc (k.tup et)⟩, ⟨es, k.at_ _ _ c1 hE, c2.keeps k⟩⟩
  · rw [List.getElem?_set_ne e] at h4
    have hG' : G' ≠ G := fun z => by
      subst z
      obtain ⟨q1, e1⟩ := List.getElem?_eq_some_iff.mp h2
      obtain ⟨q2, e2⟩ := List.getElem?_eq_some_iff.mp hG
      exact e ((List.getElem_inj ng).mp (e2.trans e1.symm))
    exact (h.at_ j u G' E s h1 h2 h3 h4).keeps k hG' hE
theorem Scs.alive {H : Hp} {D : Addr} {us Gs Es : List Addr} {ss : List Sco} (h : Scs H D us Gs Es ss) : ∀ x ∈ Gs ++ Es, ∃ xs, H x = some (.lst xs) := fun x hx => by
  rcases List.mem_append.mp hx with hx | hx
  · obtain ⟨j, hj⟩ := List.getElem?_of_mem hx
    have hjl : j < ss.length := by rw [← h.lg]; exact (List.getElem?_eq_some_iff.mp hj).1
    obtain ⟨u', G', E', g1, g2, g3, g4, ⟨_, ⟨ts', b1, _⟩, _⟩⟩ := h.get hjl
    rw [hj] at g2; cases g2
    exact ⟨_, b1⟩
  · obtain ⟨j, hj⟩ := List.getElem?_of_mem hx
    have hjl : j < ss.length := by rw [← h.le]; exact (List.getElem?_eq_some_iff.mp hj).1
    obtain ⟨u', G', E', g1, g2, g3, g4, ⟨_, _, ⟨ts', b1, _⟩⟩⟩ := h.get hjl
    rw [hj] at g3; cases g3
    exact ⟨_, b1⟩
theorem Scs.nil {H : Hp} {D : Addr} (h : H D = some (.lst [])) : Scs H D [] [] [] [] := ⟨h, rfl, rfl, rfl, fun i u G E s h1 => by simp at h1⟩
theorem Scs.snoc {H : Hp} {D u G E : Addr} {us Gs Es : List Addr} {ss : List Sco} {s : Sco} (h : Scs H D us Gs Es ss) (hs : ScH H u G E s) (hG : G ≠ D) (hE : E ≠ D) (hD : ∀ x ∈ Gs ++ Es, x ≠ D) :
    Scs (upd H D (.lst (us.map V.ref ++ [.ref u]))) D (us ++ [u]) (Gs ++ [G]) (Es ++ [E]) (ss ++ [s]) := by
  have k : Keeps (· = D) H (upd H D (.lst (us.map V.ref ++ [.ref u]))) := Keeps.one h.top
  refine ⟨by rw [upd_same, List.map_append]; rfl, by simp [h.lu], by simp [h.lg], by simp [h.le], fun i u' G' E' s' h1 h2 h3 h4 => ?_⟩
  rcases Nat.lt_or_ge i ss.length with hlt | hge
  · rw [List.getElem?_append_left (by rw [h.lu]; exact hlt)] at h1
    rw [List.getElem?_append_left (by rw [h.lg]; exact hlt)] at h2
    rw [List.getElem?_append_left (by rw [h.le]; exact hlt)] at h3
    rw [List.getElem?_append_left hlt] at h4
    exact (h.at_ i u' G' E' s' h1 h2 h3 h4).keeps k (hD _ (List.mem_append_left _ (List.mem_of_getElem? h2))) (hD _ (List.mem_append_right _ (List.mem_of_getElem? h3)))
  · have hn1 : i < (ss ++ [s]).length := (List.getElem?_eq_some_iff.mp h4).1
    rw [List.length_append, List.length_singleton] at hn1
    have e' : i = ss.length := by omega
    subst e'
    rw [List.getElem?_append_right (by rw [h.lu]; exact Nat.le_refl _), h.lu, Nat.sub_self] at h1
    rw [List.getElem?_append_right (by rw [h.lg]; exact Nat.le_refl _), h.lg, Nat.sub_self] at h2
    rw [List.getElem?_append_right (by rw [h.le]; exact Nat.le_refl _), h.le, Nat.sub_self] at h3
    rw [List.getElem?_append_right (Nat.le_refl _), Nat.sub_self] at h4
    cases h1; cases h2; cases h3; cases h4
    exact hs.keeps k hG hE
theorem nd_snoc2 {D G E : Addr} {Gs Es : List Addr} (nd : (D :: (Gs ++ Es)).Nodup) (h1 : G ∉ D :: (Gs ++ Es)) (h2 : E ∉ D :: (Gs ++ Es)) (h3 : G ≠ E) : (D :: ((Gs ++ [G]) ++ (Es ++ [E]))).Nodup := by
  have p : (D :: ((Gs ++ [G]) ++ (Es ++ [E]))).Perm (G :: E :: (D :: (Gs ++ Es))) := by
    have p1 : (D :: ((Gs ++ [G]) ++ (Es ++ [E]))).Perm (E :: (D :: ((Gs ++ [G]) ++ Es))) := by
      have : (D :: ((Gs ++ [G]) ++ (Es ++ [E]))) = (D :: ((Gs ++ [G]) ++ Es)) ++ [E] := by simp
      rw [this]
      exact List.perm_append_singleton _ _
    have p2 : (D :: ((Gs ++ [G]) ++ Es)).Perm (G :: (D :: (Gs ++ Es))) := by
      have : (D :: ((Gs ++ [G]) ++ Es)) = (D :: Gs) ++ G :: Es := by simp
      rw [this]
      exact List.perm_middle
    exact (p1.trans (p2.cons E)).trans (List.Perm.swap _ _ _)
  rw [p.nodup_iff, List.nodup_cons, List.nodup_cons]
  refine ⟨fun z => ?_, h2, nd⟩
  rcases List.mem_cons.mp z with z | z
  · exact h3 z
  · exact h1 z
/-! ### where a step goes -/
def goalV (ths : List (Str × Int)) (as : List (Option (Str × Int))) (p : Stp) : Str × Int :=
  if p.2.1 = ("to" : Str) then ("to", p.2.2) else match as[p.2.2.toNat]? with
  | some (some w) => if w.1 = ("thing" : Str) then (match ths[w.2.toNat]? with
    | some k => insideV ths as k
    | none => ("no", 0)) else ("no", 0)
  | some none => ("open", p.2.2)
  | none => ("no", 0)
theorem goalV_to {ths : List (Str × Int)} {as : List (Option (Str × Int))} {p : Stp} (h : p.2.1 = ("to" : Str)) : goalV ths as p = (("to" : Str), p.2.2) := if_pos h
theorem goalV_open {ths : List (Str × Int)} {as : List (Option (Str × Int))} {p : Stp} {n : Nat} (h : p.2.1 ≠ ("to" : Str)) (hn : p.2.2 = (n : Int)) (ha : as[n]? = some none) : goalV ths as p = (("open" : Str), p.2.2) := by
  unfold goalV; rw [if_neg h, hn, Int.toNat_natCast, ha]
theorem goalV_no {ths : List (Str × Int)} {as : List (Option (Str × Int))} {p : Stp} {n : Nat} {w : Str × Int} (h : p.2.1 ≠ ("to" : Str)) (hn : p.2.2 = (n : Int)) (ha : as[n]? = some (some w)) (hw : w.1 ≠ ("thing" : Str)) : goalV ths as p = (("no" : Str), 0) := by
  unfold goalV; rw [if_neg h, hn, Int.toNat_natCast, ha]; exact if_neg hw
theorem goalV_in {ths : List (Str × Int)} {as : List (Option (Str × Int))} {p : Stp} {n m : Nat} {w k : Str × Int} (h : p.2.1 ≠ ("to" : Str)) (hn : p.2.2 = (n : Int)) (ha : as[n]? = some (some w)) (hw : w.1 = ("thing" : Str)) (hm : w.2 = (m : Int)) (hk : ths[m]? = some k) : goalV ths as p = insideV ths as k := by
  unfold goalV; rw [if_neg h, hn, Int.toNat_natCast, ha]
  show (if w.1 = ("thing" : Str) then _ else _) = _
  rw [if_pos hw, hm, Int.toNat_natCast, hk]
end L2

namespace K11
open PySem PySem.Spec PyProof.Rows L2 Ord
def top (i : Nat) : Stmt := PySem.Challenge.pw_namepaths_k11_where_a_step_goes.main.body.getD i (.Pass ⟨0, 0, 0, 0⟩)
abbrev s__law_words : Stmt := top 7
theorem sc__law_words : FnScope ["_law_cell", "_law_many", "_law_letters", "_law_size", "_law_at", "_law_words_here", "_law_k", "_law_word", "_law_j", "_law_number"] ["_law_cell", "_law_many"] (defScope s__law_words) := ⟨rfl, rfl, rfl, by decide +kernel, rfl, by decide +kernel, by decide +kernel⟩
abbrev s__law_cell_at : Stmt := top 5
theorem sc__law_cell_at : FnScope ["_law_script", "_law_k"] ["_law_script", "_law_k"] (defScope s__law_cell_at) := ⟨rfl, rfl, rfl, by decide +kernel, rfl, by decide +kernel, by decide +kernel⟩
abbrev s__law_questions : Stmt := top 9
theorem sc__law_questions : FnScope ["_law_words_here", "_law_many", "_law_scopes", "_law_questions_here", "_law_k", "_law_names"] ["_law_words_here", "_law_many", "_law_scopes"] (defScope s__law_questions) := ⟨rfl, rfl, rfl, by decide +kernel, rfl, by decide +kernel, by decide +kernel⟩
theorem _law_questions_cs1 : CompScope (defScope s__law_questions) ["_law_words_here", "_law_many", "_law_scopes", "_law_questions_here", "_law_k", "_law_names"] { kind := PySem.ScopeKind.function, names := [ (PySem.Str.ofString ".0", PySem.NameKind.local), (PySem.Str.ofString "_law_j", PySem.NameKind.local), (PySem.Str.ofString "len", PySem.NameKind.globalImplicit), (PySem.Str.ofString "_law_k", PySem.NameKind.free), (PySem.Str.ofString "_law_words_here", PySem.NameKind.free)], isGenerator := false, isCoroutine := false, more := [] : PySem.Scope } ["_law_j", "_law_words_here", "_law_k"] 1 [0, 4] := ⟨rfl, by decide +kernel, by decide +kernel, by decide +kernel, rfl, by decide +kernel, by decide +kernel⟩
abbrev s__law_things : Stmt := top 8
theorem sc__law_things : FnScope ["_law_cell", "_law_many", "_law_scopes", "_law_questions_here", "_law_things_here", "_law_number", "_law_k"] ["_law_cell", "_law_many", "_law_scopes", "_law_questions_here"] (defScope s__law_things) := ⟨rfl, rfl, rfl, by decide +kernel, rfl, by decide +kernel, by decide +kernel⟩
abbrev s__law_lay_step : Stmt := top 14
theorem sc__law_lay_step : FnScope ["_law_scopes", "_law_words_here", "_law_cell", "_law_questions_here", "_law_number", "_law_steps", "_law_label"] ["_law_scopes", "_law_words_here", "_law_cell", "_law_questions_here"] (defScope s__law_lay_step) := ⟨rfl, rfl, rfl, by decide +kernel, rfl, by decide +kernel, by decide +kernel⟩
abbrev s__law_answers : Stmt := top 10
theorem sc__law_answers : FnScope ["_law_cell", "_law_questions_here", "_law_things_here", "_law_answers_here", "_law_number", "_law_k"] ["_law_cell", "_law_questions_here", "_law_things_here"] (defScope s__law_answers) := ⟨rfl, rfl, rfl, by decide +kernel, rfl, by decide +kernel, by decide +kernel⟩
abbrev s__law_whole : Stmt := top 6
theorem sc__law_whole : FnScope ["_law_found"] ["_law_found"] (defScope s__law_whole) := ⟨rfl, rfl, rfl, by decide +kernel, rfl, by decide +kernel, by decide +kernel⟩
abbrev s__law_told : Stmt := top 13
theorem sc__law_told : FnScope ["_law_found", "_law_due"] ["_law_found", "_law_due"] (defScope s__law_told) := ⟨rfl, rfl, rfl, by decide +kernel, rfl, by decide +kernel, by decide +kernel⟩
abbrev s_inside_of_sort : Stmt := top 3
theorem sc_inside_of_sort : FnScope ["net", "answers", "question", "answer", "kind", "number"] ["net", "answers", "question"] (defScope s_inside_of_sort) := ⟨rfl, rfl, rfl, by decide +kernel, rfl, by decide +kernel, by decide +kernel⟩
abbrev s_inside : Stmt := top 1
theorem sc_inside : FnScope ["net", "answers", "thing", "kind", "number"] ["net", "answers", "thing"] (defScope s_inside) := ⟨rfl, rfl, rfl, by decide +kernel, rfl, by decide +kernel, by decide +kernel⟩
abbrev s_goal : Stmt := top 2
theorem sc_goal : FnScope ["net", "answers", "step", "label", "kind", "number", "answer"] ["net", "answers", "step"] (defScope s_goal) := ⟨rfl, rfl, rfl, by decide +kernel, rfl, by decide +kernel, by decide +kernel⟩
abbrev s__law_inside : Stmt := top 11
theorem sc__law_inside : FnScope ["_law_net", "_law_answers_here", "_law_number", "_law_thing", "_law_answer"] ["_law_net", "_law_answers_here", "_law_number"] (defScope s__law_inside) := ⟨rfl, rfl, rfl, by decide +kernel, rfl, by decide +kernel, by decide +kernel⟩
abbrev s__law_goal : Stmt := top 12
theorem sc__law_goal : FnScope ["_law_net", "_law_answers_here", "_law_step", "_law_answer"] ["_law_net", "_law_answers_here", "_law_step"] (defScope s__law_goal) := ⟨rfl, rfl, rfl, by decide +kernel, rfl, by decide +kernel, by decide +kernel⟩
abbrev s__law_all_told : Stmt := top 15
theorem sc__law_all_told : FnScope ["_law_net", "_law_answers_here", "_law_held", "_law_steps", "_law_tellings", "_law_step"] ["_law_net", "_law_answers_here", "_law_held"] (defScope s__law_all_told) := ⟨rfl, rfl, rfl, by decide +kernel, rfl, by decide +kernel, by decide +kernel⟩
abbrev s_law : Stmt := top 16
theorem sc_law : FnScope ["_law_script", "_law_words_here", "_law_scopes", "_law_questions_here", "_law_things_here", "_law_cell", "_law_net", "_law_kept", "_law_one", "_law_other", "_law_held", "_law_k"] ["_law_script"] (defScope s_law) := ⟨rfl, rfl, rfl, by decide +kernel, rfl, by decide +kernel, by decide +kernel⟩
theorem law_cs1 : CompScope (defScope s_law) ["_law_script", "_law_words_here", "_law_scopes", "_law_questions_here", "_law_things_here", "_law_cell", "_law_net", "_law_kept", "_law_one", "_law_other", "_law_held", "_law_k"] { kind := PySem.ScopeKind.function, names := [(PySem.Str.ofString ".0", PySem.NameKind.local), (PySem.Str.ofString "_law_k", PySem.NameKind.local)], isGenerator := false, isCoroutine := false, more := [] : PySem.Scope } ["_law_k"] 1 [] := ⟨rfl, by decide +kernel, by decide +kernel, by decide +kernel, rfl, by decide +kernel, by decide +kernel⟩
theorem law_cs2 : CompScope (defScope s_law) ["_law_script", "_law_words_here", "_law_scopes", "_law_questions_here", "_law_things_here", "_law_cell", "_law_net", "_law_kept", "_law_one", "_law_other", "_law_held", "_law_k"] { kind := PySem.ScopeKind.function, names := [ (PySem.Str.ofString ".0", PySem.NameKind.local), (PySem.Str.ofString "_law_steps", PySem.NameKind.local), (PySem.Str.ofString "_law_tellings", PySem.NameKind.local), (PySem.Str.ofString "list", PySem.NameKind.globalImplicit)], isGenerator := false, isCoroutine := false, more := [] : PySem.Scope } ["_law_steps", "_law_tellings"] 2 [] := ⟨rfl, by decide +kernel, by decide +kernel, by decide +kernel, rfl, by decide +kernel, by decide +kernel⟩
theorem law_cs3 : CompScope (defScope s_law) ["_law_script", "_law_words_here", "_law_scopes", "_law_questions_here", "_law_things_here", "_law_cell", "_law_net", "_law_kept", "_law_one", "_law_other", "_law_held", "_law_k"] { kind := PySem.ScopeKind.function, names := [(PySem.Str.ofString ".0", PySem.NameKind.local), (PySem.Str.ofString "_law_k", PySem.NameKind.local)], isGenerator := false, isCoroutine := false, more := [] : PySem.Scope } ["_law_k"] 1 [] := ⟨rfl, by decide +kernel, by decide +kernel, by decide +kernel, rfl, by decide +kernel, by decide +kernel⟩
structure Blt (mg : Str → Option Value) : Prop where
  b_bool : mg "bool" = none
  b_int : mg "int" = none
  b_isinstance : mg "isinstance" = none
  b_len : mg "len" = none
  b_list : mg "list" = none
  b_range : mg "range" = none
  b_str : mg "str" = none
  b_tuple : mg "tuple" = none
theorem len_1 {us : List Value} (h : us.length = 1) : ∃ x0, us = [x0] := by
  cases us with
  | nil => cases h
  | cons x0 t => exact ⟨x0, by rw [List.length_eq_zero_iff.mp (Nat.succ.inj h)]⟩
theorem len_2 {us : List Value} (h : us.length = 2) : ∃ x0 x1, us = [x0, x1] := by
  cases us with
  | nil => cases h
  | cons x0 t =>
    obtain ⟨x1, rfl⟩ := len_1 (Nat.succ.inj h)
    exact ⟨x0, x1, rfl⟩
theorem len_3 {us : List Value} (h : us.length = 3) : ∃ x0 x1 x2, us = [x0, x1, x2] := by
  cases us with
  | nil => cases h
  | cons x0 t =>
    obtain ⟨x1, x2, rfl⟩ := len_2 (Nat.succ.inj h)
    exact ⟨x0, x1, x2, rfl⟩
theorem len_4 {us : List Value} (h : us.length = 4) : ∃ x0 x1 x2 x3, us = [x0, x1, x2, x3] := by
  cases us with
  | nil => cases h
  | cons x0 t =>
    obtain ⟨x1, x2, x3, rfl⟩ := len_3 (Nat.succ.inj h)
    exact ⟨x0, x1, x2, x3, rfl⟩
theorem len_5 {us : List Value} (h : us.length = 5) : ∃ x0 x1 x2 x3 x4, us = [x0, x1, x2, x3, x4] := by
  cases us with
  | nil => cases h
  | cons x0 t =>
    obtain ⟨x1, x2, x3, x4, rfl⟩ := len_4 (Nat.succ.inj h)
    exact ⟨x0, x1, x2, x3, x4, rfl⟩
theorem len_6 {us : List Value} (h : us.length = 6) : ∃ x0 x1 x2 x3 x4 x5, us = [x0, x1, x2, x3, x4, x5] := by
  cases us with
  | nil => cases h
  | cons x0 t =>
    obtain ⟨x1, x2, x3, x4, x5, rfl⟩ := len_5 (Nat.succ.inj h)
    exact ⟨x0, x1, x2, x3, x4, x5, rfl⟩
theorem len_7 {us : List Value} (h : us.length = 7) : ∃ x0 x1 x2 x3 x4 x5 x6, us = [x0, x1, x2, x3, x4, x5, x6] := by
  cases us with
  | nil => cases h
  | cons x0 t =>
    obtain ⟨x1, x2, x3, x4, x5, x6, rfl⟩ := len_6 (Nat.succ.inj h)
    exact ⟨x0, x1, x2, x3, x4, x5, x6, rfl⟩
theorem len_8 {us : List Value} (h : us.length = 8) : ∃ x0 x1 x2 x3 x4 x5 x6 x7, us = [x0, x1, x2, x3, x4, x5, x6, x7] := by
  cases us with
  | nil => cases h
  | cons x0 t =>
    obtain ⟨x1, x2, x3, x4, x5, x6, x7, rfl⟩ := len_7 (Nat.succ.inj h)
    exact ⟨x0, x1, x2, x3, x4, x5, x6, x7, rfl⟩
section
variable {P : Program} {w : World} {K : PySem.W.Frag} {mg : Str → Option Value} {base : Heap}
theorem let26 : (("abcdefghijklmnopqrstuvwxyz" : Str)).cps.toList.length = 26 := by decide +kernel
theorem str_snoc (w : Str) (c : Nat) : (w ++ (⟨#[c]⟩ : Str)).length = w.length + 1 := by
  show (w.cps ++ #[c]).size = w.cps.size + 1
  simp

def sp__law_words (_ : PySem.W.Frag) : Sp := fun vs H Q _ => ∃ (c m : Int), vs = [.int c, .int m] ∧ 0 ≤ m ∧ m ≤ 9 ∧ ∀ (L : Addr) (ls : List Str) (H' : Hp), ls.length = m.toNat → H L = none → Same H H' → H' L = some (.lst (ls.map V.str)) → Q (.ref L) H'
set_option maxHeartbeats 4000000 in
seal L2.PE L2.PA L2.PS L2.PSs L2.PT L2.PW L2.PC L2.PG L2.PGs L2.PI L2.PF L2.PSet L2.OpR L2.UnR L2.CallR L2.MtR L2.IxR L2.SlR L2.PO in
theorem ok__law_words {f : Addr} {fd : FuncData} (B : Blt mg)  (F : Fun K "_law_words" "_law_words" s__law_words f fd) : FnOk P w K mg base CX0 1 f fd ["_law_cell", "_law_many"] (sp__law_words K) := by
  refine F.ok sc__law_words (fun vs H Q E h => ?_) (fun cdv A outer s H vs Q E hr h => ?_)
  · obtain ⟨c, m, rfl, _⟩ := h
    rfl
  · obtain ⟨c, m, rfl, m0, m9, q⟩ := h
    refine ⟨_, (pss_cons (ps_set (i := 2) sc__law_words.nd rfl (Or.inl rfl) pe_str)
      (pss_cons (ps_set (i := 3) sc__law_words.nd rfl (Or.inl rfl) (pe_op op_add pe_int (pe_op op_mod (pv 0) pe_int)))
      (pss_cons (ps_set (i := 4) sc__law_words.nd rfl (Or.inl rfl) (pe_op op_mod (pe_op op_fdiv (pv 0) pe_int) (pv 3)))
      (pss_cons (ps_set (i := 5) sc__law_words.nd rfl (Or.inl rfl) (pe_lst pa_nil))
      (pss_cons (ps_for PassesOwn.never rfl (pi_range1 rfl B.b_range (pa_cons (pv 1) pa_nil)) (pg_name (i := 6) sc__law_words.nd rfl (Or.inl rfl)) (pss_cons (ps_set (i := 7) sc__law_words.nd rfl (Or.inl rfl) pe_str)
        (pss_cons (ps_for PassesOwn.never rfl (pi_range1 rfl B.b_range (pa_cons (pv 3) pa_nil)) (pg_name (i := 8) sc__law_words.nd rfl (Or.inl rfl)) (pss_cons (ps_set (i := 9) sc__law_words.nd rfl (Or.inl rfl) (pe_op op_add (pe_op op_fdiv (pe_op op_fdiv (pv 0) pe_int) (pe_op op_add (pv 8) pe_int)) (pe_op op_mul (pv 8) (pv 8))))
          (pss_cons (ps_if (pt_cmpR op_eq (pv 8) (pv 4) (nomark _)) (pss_one (ps_augR (i := 9) sc__law_words.nd rfl (Or.inl rfl) (pv 6) iop_add)) pss_nil)
          (pss_one (ps_set (i := 7) sc__law_words.nd rfl (Or.inl rfl) (pe_op op_add_str (pv 7) (pe_ix ix_seq (pv 2) (pe_op op_mod (pv 9) pe_int) (fun _ _ => rfl))))))))
        (pss_one (ps_expr (pe_bm PySem.F.plainAttrs_list PySem.F.slot_list_append PySem.F.type_list_append mr_append (pv 5) (pa_cons (pv 7) pa_nil)))))))
      (pss_one (ps_ret (pv 5)))))))), ?_⟩
    refine seq_setC ?_
    try dsimp only
    refine ⟨_, rfl, _, _, rfl, rfl, (by show (0 : Int) < 8; decide), _, _, rfl, rfl, ?_⟩
    try dsimp only
    obtain ⟨z, ez⟩ : ∃ z, z = 1 + c % 8 := ⟨_, rfl⟩
    rw [← ez]
    have z0 : 1 ≤ z ∧ z ≤ 8 := by omega
    refine g_in ?_
    try dsimp only
    refine ⟨_, rfl, _, _, rfl, rfl, ⟨by decide, by decide⟩, _, rfl, _, _, rfl, rfl, (by show 0 < z; omega), ?_⟩
    try dsimp only
    generalize c / 8 % z = at0'
    refine g_in ?_
    try dsimp only
    refine ⟨by decide, fun L hL => ?_⟩
    have s1 := same_new (o := .lst []) hL
    have eL1 : (upd H L (.lst [])) L = some (.lst []) := upd_same
    generalize upd H L (.lst []) = H1 at s1 eL1 ⊢
    refine g_in ?_
    try dsimp only
    refine ⟨_, rfl, _, rfl, by omega, by omega, for_range (lo := 0) (n := m.toNat) (fun i σ H' => ∃ u6 u7 u8 u9 ls, σ = [some (.int c), some (.int m), some (.str "abcdefghijklmnopqrstuvwxyz"), some (.int z), some (.int at0'), some (.ref L), u6, u7, u8, u9] ∧ Same H H' ∧ H' L = some (.lst (ls.map V.str)) ∧ ls.length = i) ⟨none, none, none, none, [], rfl, s1, eL1, rfl⟩ ?_ ?_⟩
    rotate_left
    · rintro σ H2 ⟨u6, u7, u8, u9, ls, rfl, s2, eL2, hl⟩
      exact ⟨_, rfl, q L ls H2 hl hL s2 eL2⟩
    rintro i σ H2 hi ⟨u6, u7, u8, u9, ls, rfl, s2, eL2, hl⟩
    refine g_in ?_
    try dsimp only
    refine seq_setC ?_
    try dsimp only
    refine ⟨_, rfl, _, rfl, by omega, by omega, for_range (lo := 0) (n := z.toNat) (fun j σ H' => ∃ (w : Str) (u8 u9 : Option V), σ = [some (.int c), some (.int m), some (.str "abcdefghijklmnopqrstuvwxyz"), some (.int z), some (.int at0'), some (.ref L), some (.int (0 + (i : Int))), some (.str w), u8, u9] ∧ H' = H2 ∧ w.length ≤ j) ⟨"", _, _, rfl, rfl, by decide +kernel⟩ ?_ ?_⟩
    rotate_left
    · rintro σ H3 ⟨w, u8, u9, rfl, rfl, hw⟩
      refine ⟨_, rfl, Or.inl ⟨rfl, _, SqL.of eL2⟩, _, rfl, L, _, _, rfl, rfl, eL2, by rw [List.length_map, hl]; exact small1000 (by omega), ?_⟩
      refine ⟨_, _, _, _, ls ++ [w], rfl, fun b o e => ?_, by rw [upd_same, List.map_append]; rfl, by rw [List.length_append, hl]; rfl⟩
      rw [upd_ne (ne_of_none e hL)]; exact s2 _ _ e
    rintro j σ H3 hj ⟨w, u8, u9, rfl, rfl, hw⟩
    refine g_in ?_
    try dsimp only
    refine ⟨_, rfl, _, _, rfl, rfl, ⟨by decide, by decide⟩, _, rfl, _, _, rfl, rfl, _, _, rfl, rfl, ⟨by omega, by omega⟩, _, rfl, _, rfl, _, _, rfl, rfl, Or.inl ⟨by omega, by omega⟩, _, _, rfl, rfl, ?_⟩
    try dsimp only
    generalize c / 64 / (0 + (j : Int) + 1) + (0 + (j : Int)) * (0 + (j : Int)) = num
    refine g_in ?_
    try dsimp only
    refine seq_cut (fun σ' H' => ∃ num : Int, σ' = [some (.int c), some (.int m), some (.str "abcdefghijklmnopqrstuvwxyz"), some (.int z), some (.int at0'), some (.ref L), some (.int (0 + (i : Int))), some (.str w), some (.int (0 + (j : Int))), some (.int num)] ∧ H' = H3) ?_ (fun N hN => ?_)
    case refine_2 =>
      refine ⟨_, rfl, _, rfl, rfl, _, rfl, ite2 (fun _ => ?_) (fun _ => ?_)⟩
      · exact ⟨_, rfl, _, rfl, _, _, rfl, rfl, hN _ _ ⟨_, rfl, rfl⟩⟩
      · exact hN _ _ ⟨_, rfl, rfl⟩
    rintro σ' H4 ⟨num, rfl, rfl⟩
    have y0 := Int.emod_nonneg num (by decide : (26 : Int) ≠ 0)
    have y1 := Int.emod_lt_of_pos num (by decide : (0 : Int) < 26)
    obtain ⟨cc, hcc⟩ := atI_in (xs := (("abcdefghijklmnopqrstuvwxyz" : Str)).cps.toList) y0 (by rw [let26]; exact y1)
    refine ⟨_, rfl, _, rfl, _, rfl, _, _, rfl, rfl, (by show (0 : Int) < 26; decide), Or.inr (Or.inr ⟨_, _, cc, rfl, rfl, by decide +kernel, hcc, w, _, rfl, rfl, ?_, ?_⟩)⟩
    · show w.length + 1 ≤ sizeLine
      exact Nat.le_of_lt (small1000 (by omega))
    · exact ⟨_, _, _, rfl, rfl, by rw [str_snoc]; omega⟩
theorem call__law_words {f : Addr} {fd : FuncData} (B : Blt mg)  (F : Fun K "_law_words" "_law_words" s__law_words f fd) (hm : mg "_law_words" = some (.ref f)) : Callee P w K mg base "_law_words" 1 ["_law_cell", "_law_many"] (sp__law_words K) :=
  ⟨f, fd, ok__law_words B  F, hm, F.kp, F.binds fun _ _ _ _ _ _ us hl => (by obtain ⟨x0, x1, rfl⟩ := len_2 hl; rfl)⟩
theorem cell_some {ns : List Int} {k : Int} (hk : 0 ≤ k) (hlt : k < ns.length) : atI (ns.map V.int) k = some (V.int (cellAt ns k)) := by
  obtain ⟨n, rfl⟩ := Int.eq_ofNat_of_zero_le hk
  have hn : n < ns.length := by omega
  refine atI_nat ?_
  rw [List.getElem?_map, List.getElem?_eq_getElem hn]
  show some (V.int ns[n]) = some (V.int ((ns[((n : Int)).toNat]?).getD 0))
  rw [Int.toNat_natCast, List.getElem?_eq_getElem hn]
  rfl
theorem cell_none {ns : List Int} {k : Int} (hk : 0 ≤ k) (hlt : ¬ k < ns.length) : cellAt ns k = 0 := by
  unfold cellAt
  rw [List.getElem?_eq_none (by omega)]
  rfl

def sp__law_cell_at (K : PySem.W.Frag) : Sp := fun vs H Q _ => ∃ a ns k, vs = [.ref a, .int k] ∧ 0 ≤ k ∧ SqL K H a (ns.map V.int) ∧ Q (.int (cellAt ns k)) H
set_option maxHeartbeats 4000000 in
seal L2.PE L2.PA L2.PS L2.PSs L2.PT L2.PW L2.PC L2.PG L2.PGs L2.PI L2.PF L2.PSet L2.OpR L2.UnR L2.CallR L2.MtR L2.IxR L2.SlR L2.PO in
theorem ok__law_cell_at {f : Addr} {fd : FuncData} (B : Blt mg)  (F : Fun K "_law_cell_at" "_law_cell_at" s__law_cell_at f fd) : FnOk P w K mg base CX0 1 f fd ["_law_script", "_law_k"] (sp__law_cell_at K) := by
  refine F.ok sc__law_cell_at (fun vs H Q E h => ?_) (fun cdv A outer s H vs Q E hr h => ?_)
  · obtain ⟨a, ns, k, rfl, _⟩ := h
    rfl
  · obtain ⟨a, ns, k, rfl, hk, hS, q⟩ := h
    refine ⟨_, (pss_cons (ps_if (pt_cmpR op_lt (pv 1) (pe_callB call_len (by rfl) B.b_len (by decide +kernel) (pa_cons (pv 0) pa_nil)) (nomark _)) (pss_one (ps_ret (pe_ix ix_seq (pv 0) (pv 1) (fun _ _ => rfl)))) pss_nil)
      (pss_one (ps_ret pe_int))), ?_⟩
    refine ⟨_, rfl, _, rfl, _, _, rfl, Or.inl ⟨_, hS, rfl⟩, _, _, rfl, rfl, _, rfl, ?_⟩
    rw [List.length_map]
    refine ite2 (fun hlt => ?_) (fun hge => ?_)
    · have hlt := of_decide_eq_true hlt
      exact ⟨_, rfl, _, rfl, Or.inl ⟨_, _, _, _, rfl, rfl, hS, cell_some hk hlt, q⟩⟩
    · have hge : ¬ k < (ns.length : Int) := fun z => hge (decide_eq_true z)
      show Q (.int 0) H
      rw [cell_none hk hge] at q
      exact q
theorem call__law_cell_at {f : Addr} {fd : FuncData} (B : Blt mg)  (F : Fun K "_law_cell_at" "_law_cell_at" s__law_cell_at f fd) (hm : mg "_law_cell_at" = some (.ref f)) : Callee P w K mg base "_law_cell_at" 1 ["_law_script", "_law_k"] (sp__law_cell_at K) :=
  ⟨f, fd, ok__law_cell_at B  F, hm, F.kp, F.binds fun _ _ _ _ _ _ us hl => (by obtain ⟨x0, x1, rfl⟩ := len_2 hl; rfl)⟩

def sp__law_questions (K : PySem.W.Frag) : Sp := fun vs H Q _ => ∃ (W : Addr) (ws : List Str) (m s : Int), vs = [.ref W, .int m, .int s] ∧ SqL K H W (ws.map V.str) ∧ 1 ≤ ws.length ∧ 0 ≤ m ∧ m ≤ 60 ∧ 0 < s ∧ ∀ (D : Addr) (ts : List Addr) (qs : List Qu) (H' : Hp), qs.length = m.toNat → (∀ q ∈ qs, 1 ≤ q.2.2.length ∧ q.2.2.length ≤ 6) → H D = none → Same H H' → H' D = some (.lst (ts.map V.ref)) → QT H' ts qs → Q (.ref D) H'
set_option maxHeartbeats 4000000 in
seal L2.PE L2.PA L2.PS L2.PSs L2.PT L2.PW L2.PC L2.PG L2.PGs L2.PI L2.PF L2.PSet L2.OpR L2.UnR L2.CallR L2.MtR L2.IxR L2.SlR L2.PO in
theorem ok__law_questions {f : Addr} {fd : FuncData} (B : Blt mg)  (F : Fun K "_law_questions" "_law_questions" s__law_questions f fd) : FnOk P w K mg base CX0 1 f fd ["_law_words_here", "_law_many", "_law_scopes"] (sp__law_questions K) := by
  refine F.ok sc__law_questions (fun vs H Q E h => ?_) (fun cdv A outer s H vs Q E hr h => ?_)
  · obtain ⟨W, ws, m, s, rfl, _⟩ := h
    rfl
  · obtain ⟨W, ws, m, s, rfl, hW, hw1, m0, m1, hs, q⟩ := h
    refine ⟨_, (pss_cons (ps_set (i := 3) sc__law_questions.nd rfl (Or.inl rfl) (pe_lst pa_nil))
      (pss_cons (ps_for PassesOwn.never rfl (pi_range1 rfl B.b_range (pa_cons (pv 1) pa_nil)) (pg_name (i := 4) sc__law_questions.nd rfl (Or.inr rfl)) (pss_cons (ps_setC (i := 5) sc__law_questions.nd rfl (Or.inl rfl) (te := tOp (rIx K) (tVar 1) (tOp xMod (tOp xAdd (tVar 2) (tOp xMul (tVar 0) (tVar 0))) (tCB (rLen K) (tCons (tVar 1) tNil)))) rfl _law_questions_cs1 (pi_range1 rfl B.b_range (pa_cons (pe_op op_add pe_int (pe_op op_mod (pe_op op_mul (pv 4) (pv 4)) pe_int)) pa_nil)) (fun _ _ _ _ _ => (pg_name (i := 0) _law_questions_cs1.nd rfl (Or.inl rfl))) (fun _ _ _ _ _ => pf_nil) (fun _ _ _ _ _ => (pe_ix ix_seq (pv 1) (pe_op op_mod (pe_op op_add (pv 2) (pe_op op_mul (pv 0) (pv 0))) (pe_callB call_len (by rfl) B.b_len (by decide +kernel) (pa_cons (pv 1) pa_nil))) (fun _ _ => rfl))))
        (pss_one (ps_expr (pe_bm PySem.F.plainAttrs_list PySem.F.slot_list_append PySem.F.type_list_append mr_append (pv 3) (pa_cons (pe_tup (pa_cons (pe_op op_mod (pe_op op_mul (pv 4) (pv 4)) (pv 2)) (pa_cons (pe_op op_mod (pv 4) pe_int) (pa_cons (pe_callTy call_tuple_of (by rfl) B.b_tuple (by decide +kernel) (pa_cons (pv 5) pa_nil)) pa_nil)))) pa_nil))))))
      (pss_one (ps_ret (pv 3))))), ?_⟩
    refine ⟨by decide, fun D hD => ?_⟩
    have s1 := same_new (o := .lst []) hD
    have eD1 : (upd H D (.lst [])) D = some (.lst []) := upd_same
    generalize upd H D (.lst []) = H1 at s1 eD1 ⊢
    refine ⟨_, rfl, _, rfl, by omega, by omega, for_range (lo := 0) (n := m.toNat)
      (fun i σ H' => ∃ u4 u5 ts qs, σ = [some (.ref W), some (.int m), some (.int s), some (.ref D), u4, u5] ∧ Same H H' ∧ H' D = some (.lst (ts.map V.ref)) ∧ QT H' ts qs ∧ qs.length = i ∧ ∀ q ∈ qs, 1 ≤ q.2.2.length ∧ q.2.2.length ≤ 6)
      ⟨none, none, [], [], rfl, s1, eD1, QT.nil, rfl, fun q hq => by simp at hq⟩ ?_ ?_⟩
    · rintro i σ H2 hi ⟨u4, u5, ts, qs, rfl, s2, eD2, T2, hql, hq6⟩
      have z0 := Int.emod_nonneg ((0 + (i : Int)) * (0 + (i : Int))) (by decide : (6 : Int) ≠ 0)
      have z1 := Int.emod_lt_of_pos ((0 + (i : Int)) * (0 + (i : Int))) (by decide : (0 : Int) < 6)
      refine ⟨_, rfl, _, rfl, _, _, rfl, rfl, Or.inl ⟨by omega, by omega⟩, _, _, rfl, rfl, (by show (0 : Int) < 6; decide), _, _, rfl, rfl, _, rfl, ?_⟩
      try dsimp only
      generalize (0 + (i : Int)) * (0 + (i : Int)) % 6 = k6 at z0 z1 ⊢
      refine ⟨by omega, by omega, comp_rangeI (fun D' j ys H' => ∃ xs : List Str, ys = xs.map V.str ∧ xs.length = j ∧ Same H2 H' ∧ H' D' = some (.lst ys))
        (fun D' hD' => ⟨[], rfl, rfl, same_new hD', upd_same⟩) (fun D' j ys H3 R hD' hj hv k => ?_) (fun N ys H3 hN hv => ?_)⟩
      · obtain ⟨xs, rfl, hxl, s3, eD'⟩ := hv
        have W3 := (s2.trans s3).seq hW
        have l0 : (0 : Int) < ((ws.map V.str).length : Nat) := by rw [List.length_map]; omega
        have y0 := Int.emod_nonneg ((0 + (i : Int)) + (0 + (j : Int)) * (0 + (j : Int))) (show (((ws.map V.str).length : Nat) : Int) ≠ 0 by omega)
        have y1 := Int.emod_lt_of_pos ((0 + (i : Int)) + (0 + (j : Int)) * (0 + (j : Int))) l0
        obtain ⟨v, hv⟩ := atI_in (xs := ws.map V.str) y0 y1
        obtain ⟨zz, rfl⟩ : ∃ zz, v = V.str zz := by
          unfold atI at hv
          obtain ⟨n, _, hn⟩ := Option.bind_eq_some_iff.mp hv
          rw [List.getElem?_map] at hn
          obtain ⟨y, _, e⟩ := Option.map_eq_some_iff.mp hn
          exact ⟨y, e.symm⟩
        refine ⟨_, rfl, _, rfl, _, rfl, _, rfl, _, _, rfl, rfl, Or.inl ⟨by omega, by omega⟩, _, _, rfl, rfl, _, rfl, _, _, rfl, Or.inl ⟨_, W3, rfl⟩, _, _, rfl, rfl, l0, Or.inl ⟨W, _, _, .str zz, rfl, rfl, W3, hv, ?_⟩⟩
        refine k _ _ eD' (by rw [List.length_map, hxl]; exact small1000 (by omega)) ⟨xs ++ [zz], by rw [List.map_append]; rfl, by rw [List.length_append, hxl]; rfl, fun b o e => ?_, upd_same⟩
        rw [upd_ne (ne_of_none e hD')]; exact s3 _ _ e
      obtain ⟨xs, rfl, hxl, s3, eN⟩ := hv
      have eD3 := s3 _ _ eD2
      refine ⟨_, rfl, Or.inl ⟨rfl, _, SqL.of eD3⟩, _, rfl, _, rfl, _, _, rfl, rfl, Or.inl ⟨by omega, by omega⟩, _, rfl, _, _, rfl, rfl, hs, _, rfl, _, _, rfl, rfl, (by show (0 : Int) < 8; decide), _, rfl, N, _, rfl, Or.inl ⟨SqL.of eN, fun u hu => ?_⟩⟩
      have s4 := same_new (o := .tup (xs.map V.str)) hu
      have eu : (upd H3 u (.tup (xs.map V.str))) u = some (.tup (xs.map V.str)) := upd_same
      generalize upd H3 u (.tup (xs.map V.str)) = H4 at s4 eu ⊢
      try dsimp only
      generalize (0 + (i : Int)) * (0 + (i : Int)) % s = w1
      generalize (0 + (i : Int)) % 8 = w2
      refine ⟨three_le, fun t ht => ?_⟩
      have s5 := same_new (o := .tup [.int w1, .int w2, .ref u]) ht
      have et : (upd H4 t (.tup [.int w1, .int w2, .ref u])) t = some (.tup [.int w1, .int w2, .ref u]) := upd_same
      generalize upd H4 t (.tup [.int w1, .int w2, .ref u]) = H5 at s5 et ⊢
      have s35 := (s3.trans s4).trans s5
      have eD5 := s35 _ _ eD2
      have T5 := (T2.same s35).snoc (q := (w1, w2, xs)) et (s5 _ _ eu)
      have k5 : Keeps (· = D) H5 (upd H5 D (.lst (ts.map V.ref ++ [.ref t]))) := Keeps.one eD5
      refine ⟨D, _, _, rfl, rfl, eD5, by rw [List.length_map, T2.len, hql]; exact small1000 (by omega), ?_⟩
      refine ⟨_, _, ts ++ [t], qs ++ [(w1, w2, xs)], rfl, fun b o e => ?_, by rw [upd_same, List.map_append]; rfl, T5.keeps k5, by rw [List.length_append, hql]; rfl, fun z hz => ?_⟩
      · rw [upd_ne (ne_of_none e hD)]; exact s35 _ _ (s2 _ _ e)
      · rcases List.mem_append.mp hz with hz | hz
        · exact hq6 z hz
        · rw [List.mem_singleton.mp hz]
          show 1 ≤ xs.length ∧ xs.length ≤ 6
          omega
    · rintro σ H2 ⟨u4, u5, ts, qs, rfl, s2, eD2, T2, hql, hq6⟩
      exact ⟨_, rfl, q D ts qs H2 hql hq6 hD s2 eD2 T2⟩
theorem call__law_questions {f : Addr} {fd : FuncData} (B : Blt mg)  (F : Fun K "_law_questions" "_law_questions" s__law_questions f fd) (hm : mg "_law_questions" = some (.ref f)) : Callee P w K mg base "_law_questions" 1 ["_law_words_here", "_law_many", "_law_scopes"] (sp__law_questions K) :=
  ⟨f, fd, ok__law_questions B  F, hm, F.kp, F.binds fun _ _ _ _ _ _ us hl => (by obtain ⟨x0, x1, x2, rfl⟩ := len_3 hl; rfl)⟩

def sp__law_things (_ : PySem.W.Frag) : Sp := fun vs H Q _ => ∃ (c m s qn : Int), vs = [.int c, .int m, .int s, .int qn] ∧ 0 ≤ m ∧ m ≤ 80 ∧ 0 < s ∧ 0 < qn ∧ ∀ (D : Addr) (ts : List Addr) (gs : List (Str × Int)) (H' : Hp), gs.length = m.toNat → (∀ p ∈ gs, p.1 = ("sort" : Str) → 0 ≤ p.2 ∧ p.2 < qn) → H D = none → Same H H' → H' D = some (.lst (ts.map V.ref)) → GT H' ts gs → Q (.ref D) H'
set_option maxHeartbeats 4000000 in
seal L2.PE L2.PA L2.PS L2.PSs L2.PT L2.PW L2.PC L2.PG L2.PGs L2.PI L2.PF L2.PSet L2.OpR L2.UnR L2.CallR L2.MtR L2.IxR L2.SlR L2.PO in
theorem ok__law_things {f : Addr} {fd : FuncData} (B : Blt mg)  (F : Fun K "_law_things" "_law_things" s__law_things f fd) : FnOk P w K mg base CX0 1 f fd ["_law_cell", "_law_many", "_law_scopes", "_law_questions_here"] (sp__law_things K) := by
  refine F.ok sc__law_things (fun vs H Q E h => ?_) (fun cdv A outer s H vs Q E hr h => ?_)
  · obtain ⟨c, m, s, qn, rfl, _⟩ := h
    rfl
  · obtain ⟨c, m, s, qn, rfl, m0, m8, hs, hq, q⟩ := h
    refine ⟨_, (pss_cons (ps_set (i := 4) sc__law_things.nd rfl (Or.inl rfl) (pe_lst pa_nil))
      (pss_cons (ps_set (i := 5) sc__law_things.nd rfl (Or.inl rfl) (pe_op op_add (pe_op op_mod (pv 0) pe_int) pe_int))
      (pss_cons (ps_for PassesOwn.never rfl (pi_range1 rfl B.b_range (pa_cons (pv 1) pa_nil)) (pg_name (i := 6) sc__law_things.nd rfl (Or.inl rfl)) (pss_cons (ps_set (i := 5) sc__law_things.nd rfl (Or.inl rfl) (pe_op op_mod (pe_op op_add (pe_op op_add (pe_op op_mul (pv 5) (pv 5)) (pe_op op_mul pe_int (pv 5))) (pv 6)) pe_int))
        (pss_one (ps_if (pt_cmpR op_eq (pe_op op_mod (pv 5) pe_int) pe_int (nomark _)) (pss_one (ps_expr (pe_bm PySem.F.plainAttrs_list PySem.F.slot_list_append PySem.F.type_list_append mr_append (pv 4) (pa_cons (pe_tup (pa_cons pe_str (pa_cons pe_int pa_nil))) pa_nil)))) (pss_one (ps_if (pt_cmpR op_eq (pe_op op_mod (pv 5) pe_int) pe_int (nomark _)) (pss_one (ps_expr (pe_bm PySem.F.plainAttrs_list PySem.F.slot_list_append PySem.F.type_list_append mr_append (pv 4) (pa_cons (pe_tup (pa_cons pe_str (pa_cons (pe_op op_mod (pe_op op_fdiv (pv 5) pe_int) (pv 3)) pa_nil))) pa_nil)))) (pss_one (ps_expr (pe_bm PySem.F.plainAttrs_list PySem.F.slot_list_append PySem.F.type_list_append mr_append (pv 4) (pa_cons (pe_tup (pa_cons pe_str (pa_cons (pe_op op_mod (pe_op op_fdiv (pv 5) pe_int) (pv 2)) pa_nil))) pa_nil))))))))))
      (pss_one (ps_ret (pv 4)))))), ?_⟩
    refine ⟨by decide, fun D hD => ?_⟩
    have s1 := same_new (o := .lst []) hD
    have eD1 : (upd H D (.lst [])) D = some (.lst []) := upd_same
    generalize upd H D (.lst []) = H1 at s1 eD1 ⊢
    have n0 := Int.emod_nonneg c (by decide : (2147483629 : Int) ≠ 0)
    have n1 := Int.emod_lt_of_pos c (by decide : (0 : Int) < 2147483629)
    refine ⟨_, rfl, _, _, rfl, rfl, (by show (0 : Int) < 2147483629; decide), _, _, rfl, rfl, ?_⟩
    try dsimp only
    obtain ⟨num, enum⟩ : ∃ num, num = c % 2147483629 + 1 := ⟨_, rfl⟩
    rw [← enum]
    refine g_in ?_
    try dsimp only
    refine ⟨_, rfl, _, rfl, by omega, by omega, for_range (lo := 0) (n := m.toNat)
      (fun i σ H' => ∃ num u6 ts gs, σ = [some (.int c), some (.int m), some (.int s), some (.int qn), some (.ref D), some (.int num), u6] ∧ 0 ≤ num ∧ num < 2147483647 ∧ Same H H' ∧ H' D = some (.lst (ts.map V.ref)) ∧ GT H' ts gs ∧ gs.length = i ∧ ∀ p ∈ gs, p.1 = ("sort" : Str) → 0 ≤ p.2 ∧ p.2 < qn)
      ⟨num, none, [], [], rfl, by omega, by omega, s1, eD1, GT.nil, rfl, fun p hp => by simp at hp⟩ ?_ ?_⟩
    rotate_left
    · rintro σ H2 ⟨num, u6, ts, gs, rfl, p0, p1, s2, eD2, T2, hgl, hok⟩
      exact ⟨_, rfl, q D ts gs H2 hgl hok hD s2 eD2 T2⟩
    rintro i σ H2 hi ⟨num, u6, ts, gs, rfl, p0, p1, s2, eD2, T2, hgl, hok⟩
    refine ⟨_, rfl, _, rfl, _, _, rfl, rfl, Or.inl ⟨by omega, by omega⟩, _, rfl, _, _, rfl, rfl, Or.inl ⟨by decide, by decide⟩, _, _, rfl, rfl, _, rfl, _, _, rfl, rfl, _, _, rfl, rfl, (by show (0 : Int) < 2147483647; decide), ?_⟩
    try dsimp only
    generalize num * num + 48271 * num + (0 + (i : Int)) = big
    have b0 := Int.emod_nonneg big (by decide : (2147483647 : Int) ≠ 0)
    have b1 := Int.emod_lt_of_pos big (by decide : (0 : Int) < 2147483647)
    generalize big % 2147483647 = nn at b0 b1 ⊢
    refine g_in ?_
    try dsimp only
    have one : ∀ (t : Addr) (p : Str × Int) (H3 : Hp), Same H2 H3 → H3 t = some (.tup [.str p.1, .int p.2]) → (p.1 = ("sort" : Str) → 0 ≤ p.2 ∧ p.2 < qn) →
        (upd H3 D (.lst (ts.map V.ref ++ [.ref t]))) D = some (.lst ((ts ++ [t]).map V.ref)) ∧ GT (upd H3 D (.lst (ts.map V.ref ++ [.ref t]))) (ts ++ [t]) (gs ++ [p]) ∧ Same H (upd H3 D (.lst (ts.map V.ref ++ [.ref t]))) ∧ (gs ++ [p]).length = i + 1 ∧ ∀ p' ∈ gs ++ [p], p'.1 = ("sort" : Str) → 0 ≤ p'.2 ∧ p'.2 < qn := fun t p H3 s3 et ht => by
      refine ⟨by rw [upd_same, List.map_append]; rfl, ((T2.same s3).snoc et).updL (s3 _ _ eD2), fun b o e => ?_, by rw [List.length_append, hgl]; rfl, fun p' hp => ?_⟩
      · rw [upd_ne (ne_of_none e hD)]; exact s3 _ _ (s2 _ _ e)
      · rcases List.mem_append.mp hp with hp | hp
        · exact hok p' hp
        · rw [List.mem_singleton.mp hp]; exact ht
    have lts : (ts.map V.ref).length < sizeLine := by rw [List.length_map, T2.len, hgl]; exact small1000 (by omega)
    refine ⟨_, rfl, _, _, rfl, rfl, (by show (0 : Int) < 4; decide), rfl, _, rfl, ite2 (fun _ => ?_) (fun _ => ?_)⟩
    · refine ⟨_, rfl, Or.inl ⟨rfl, _, SqL.of eD2⟩, two_le, fun t ht => ?_⟩
      have s4 := same_new (o := .tup [.str "plain", .int 0]) ht
      obtain ⟨o1, o2, o3, o4, o5⟩ := one t ("plain", 0) _ s4 upd_same (fun e => absurd e (show ("plain" : Str) ≠ ("sort" : Str) by decide +kernel))
      refine ⟨D, _, _, rfl, rfl, s4 _ _ eD2, lts, ?_⟩
      exact ⟨nn, _, _, _, rfl, b0, b1, o3, o1, o2, o4, o5⟩
    refine ⟨_, rfl, _, _, rfl, rfl, (by show (0 : Int) < 4; decide), rfl, _, rfl, ite2 (fun _ => ?_) (fun _ => ?_)⟩
    · refine ⟨_, rfl, Or.inl ⟨rfl, _, SqL.of eD2⟩, _, rfl, _, _, rfl, rfl, ⟨by decide, by decide⟩, _, rfl, _, _, rfl, rfl, hq, two_le, fun t ht => ?_⟩
      have s4 := same_new (o := .tup [.str "sort", .int (nn / 4 % qn)]) ht
      obtain ⟨o1, o2, o3, o4, o5⟩ := one t ("sort", nn / 4 % qn) _ s4 upd_same (fun _ => ⟨Int.emod_nonneg _ (by omega), Int.emod_lt_of_pos _ hq⟩)
      refine ⟨D, _, _, rfl, rfl, s4 _ _ eD2, lts, ?_⟩
      exact ⟨nn, _, _, _, rfl, b0, b1, o3, o1, o2, o4, o5⟩
    · refine ⟨_, rfl, Or.inl ⟨rfl, _, SqL.of eD2⟩, _, rfl, _, _, rfl, rfl, ⟨by decide, by decide⟩, _, rfl, _, _, rfl, rfl, hs, two_le, fun t ht => ?_⟩
      have s4 := same_new (o := .tup [.str "part", .int (nn / 4 % s)]) ht
      obtain ⟨o1, o2, o3, o4, o5⟩ := one t ("part", nn / 4 % s) _ s4 upd_same (fun e => absurd e (show ("part" : Str) ≠ ("sort" : Str) by decide +kernel))
      refine ⟨D, _, _, rfl, rfl, s4 _ _ eD2, lts, ?_⟩
      exact ⟨nn, _, _, _, rfl, b0, b1, o3, o1, o2, o4, o5⟩
theorem call__law_things {f : Addr} {fd : FuncData} (B : Blt mg)  (F : Fun K "_law_things" "_law_things" s__law_things f fd) (hm : mg "_law_things" = some (.ref f)) : Callee P w K mg base "_law_things" 1 ["_law_cell", "_law_many", "_law_scopes", "_law_questions_here"] (sp__law_things K) :=
  ⟨f, fd, ok__law_things B  F, hm, F.kp, F.binds fun _ _ _ _ _ _ us hl => (by obtain ⟨x0, x1, x2, x3, rfl⟩ := len_4 hl; rfl)⟩

def sp__law_lay_step (K : PySem.W.Frag) : Sp := fun vs H Q _ => ∃ (S W : Addr) (c qn : Int) (us Gs Es : List Addr) (ss : List Sco) (ws : List Str), vs = [.ref S, .ref W, .int c, .int qn] ∧ Scs H S us Gs Es ss ∧ (S :: (Gs ++ Es)).Nodup ∧ 1 ≤ ss.length ∧ ss.length ≤ 1000 ∧ SqL K H W (ws.map V.str) ∧ 1 ≤ ws.length ∧ ws.length ≤ 1000 ∧ 0 < qn ∧
  (∀ s ∈ ss, s.1.length ≤ 8) ∧ (∀ s ∈ ss, ∀ p ∈ s.1, p.2.1 ≠ ("to" : Str) → 0 ≤ p.2.2 ∧ p.2.2 < qn) ∧
  ∀ (ss' : List Sco) (H' : Hp), Keeps (fun x => x ∈ Gs) H H' → Scs H' S us Gs Es ss' → ss'.length = ss.length → (∀ s ∈ ss', s.1.length ≤ 8) → (∀ s ∈ ss', ∀ p ∈ s.1, p.2.1 ≠ ("to" : Str) → 0 ≤ p.2.2 ∧ p.2.2 < qn) → Q .non H'
set_option maxHeartbeats 4000000 in
seal L2.PE L2.PA L2.PS L2.PSs L2.PT L2.PW L2.PC L2.PG L2.PGs L2.PI L2.PF L2.PSet L2.OpR L2.UnR L2.CallR L2.MtR L2.IxR L2.SlR L2.PO in
theorem ok__law_lay_step {f : Addr} {fd : FuncData} (B : Blt mg)  (F : Fun K "_law_lay_step" "_law_lay_step" s__law_lay_step f fd) : FnOk P w K mg base CX0 1 f fd ["_law_scopes", "_law_words_here", "_law_cell", "_law_questions_here"] (sp__law_lay_step K) := by
  refine F.ok sc__law_lay_step (fun vs H Q E h => ?_) (fun cdv A outer s H vs Q E hr h => ?_)
  · obtain ⟨S, W, c, qn, us, Gs, Es, ss, ws, rfl, _⟩ := h
    rfl
  · obtain ⟨S, W, c, qn, us, Gs, Es, ss, ws, rfl, hS, nd, hs1, hs2, hW, hw1, hw2, hq, h8, hok, q⟩ := h
    have lus : (us.map V.ref).length = ss.length := by rw [List.length_map, hS.lu]
    have lws : (ws.map V.str).length = ws.length := List.length_map ..
    refine ⟨_, (pss_cons (ps_set (i := 4) sc__law_lay_step.nd rfl (Or.inl rfl) (pe_op op_mod (pe_op op_mul (pe_op op_fdiv (pv 2) pe_int) pe_int) pe_int))
      (pss_cons (ps_set (i := 5) sc__law_lay_step.nd rfl (Or.inl rfl) (pe_ix ix_seq (pe_ix ix_seq (pv 0) (pe_op op_mod (pv 4) (pe_callB call_len (by rfl) B.b_len (by decide +kernel) (pa_cons (pv 0) pa_nil))) (fun _ _ => rfl)) pe_int (fun _ _ => rfl)))
      (pss_cons (ps_augR (i := 4) sc__law_lay_step.nd rfl (Or.inl rfl) (pe_callB call_len (by rfl) B.b_len (by decide +kernel) (pa_cons (pv 0) pa_nil)) iop_fdiv)
      (pss_cons (ps_set (i := 6) sc__law_lay_step.nd rfl (Or.inl rfl) (pe_ix ix_seq (pv 1) (pe_op op_mod (pv 4) (pe_callB call_len (by rfl) B.b_len (by decide +kernel) (pa_cons (pv 1) pa_nil))) (fun _ _ => rfl)))
      (pss_cons (ps_augR (i := 4) sc__law_lay_step.nd rfl (Or.inl rfl) (pe_callB call_len (by rfl) B.b_len (by decide +kernel) (pa_cons (pv 1) pa_nil)) iop_fdiv)
      (pss_one (ps_if (pt_cmpR op_lt (pe_callB call_len (by rfl) B.b_len (by decide +kernel) (pa_cons (pv 5) pa_nil)) pe_int (nomark _)) (pss_one (ps_if (pt_cmpR op_eq (pe_op op_mod (pv 2) pe_int) pe_int (nomark _)) (pss_one (ps_expr (pe_bm PySem.F.plainAttrs_list PySem.F.slot_list_append PySem.F.type_list_append mr_append (pv 5) (pa_cons (pe_tup (pa_cons (pv 6) (pa_cons pe_str (pa_cons (pe_op op_mod (pv 4) (pv 3)) pa_nil)))) pa_nil)))) (pss_one (ps_expr (pe_bm PySem.F.plainAttrs_list PySem.F.slot_list_append PySem.F.type_list_append mr_append (pv 5) (pa_cons (pe_tup (pa_cons (pv 6) (pa_cons pe_str (pa_cons (pe_op op_mod (pv 4) (pe_callB call_len (by rfl) B.b_len (by decide +kernel) (pa_cons (pv 0) pa_nil))) pa_nil)))) pa_nil)))))) pss_nil))))))), ?_⟩
    refine ⟨_, rfl, _, _, rfl, rfl, ⟨by decide, by decide⟩, _, _, rfl, rfl, Or.inr ⟨by decide, by decide⟩, _, _, rfl, rfl, (by show (0 : Int) < 2147483647; decide), ?_⟩
    try dsimp only
    generalize c / 2 * 48271 % 2147483647 = n
    refine g_in ?_
    try dsimp only
    have l0 : (0 : Int) < ((us.map V.ref).length : Nat) := by rw [lus]; omega
    have a0 := Int.emod_nonneg n (show (((us.map V.ref).length : Nat) : Int) ≠ 0 by omega)
    have a1 := Int.emod_lt_of_pos n l0
    obtain ⟨i, ei⟩ := Int.eq_ofNat_of_zero_le a0
    have hil : i < ss.length := by omega
    obtain ⟨u, G, E1, g1, g2, g3, g4, g5⟩ := hS.get hil
    obtain ⟨b0, ⟨ts, b1, b2⟩, ⟨es, c1, c2⟩⟩ := id g5
    have hat : atI (us.map V.ref) (n % ((us.map V.ref).length : Nat)) = some (.ref u) := by rw [ei]; exact atI_nat (by rw [List.getElem?_map, g1]; rfl)
    refine ⟨_, rfl, _, rfl, _, rfl, _, _, rfl, Or.inl ⟨_, SqL.of hS.top, rfl⟩, _, _, rfl, rfl, l0, Or.inl ⟨S, _, _, .ref u, rfl, rfl, SqL.of hS.top, hat, Or.inr (Or.inl ⟨u, _, _, .ref G, rfl, rfl, SqT.of b0, rfl, ?_⟩)⟩⟩
    refine g_in ?_
    try dsimp only
    refine ⟨_, rfl, _, rfl, _, _, rfl, Or.inl ⟨_, SqL.of hS.top, rfl⟩, _, _, rfl, rfl, ⟨l0, by omega⟩, ?_⟩
    try dsimp only
    generalize n / ((us.map V.ref).length : Nat) = n2
    have w0 : (0 : Int) < ((ws.map V.str).length : Nat) := by omega
    have y0 := Int.emod_nonneg n2 (show (((ws.map V.str).length : Nat) : Int) ≠ 0 by omega)
    have y1 := Int.emod_lt_of_pos n2 w0
    obtain ⟨v, hv⟩ := atI_in (xs := ws.map V.str) y0 y1
    obtain ⟨lb, rfl⟩ : ∃ zz, v = V.str zz := by
      unfold atI at hv
      obtain ⟨k, _, hk⟩ := Option.bind_eq_some_iff.mp hv
      rw [List.getElem?_map] at hk
      obtain ⟨y, _, e⟩ := Option.map_eq_some_iff.mp hk
      exact ⟨y, e.symm⟩
    refine ⟨_, rfl, _, rfl, _, rfl, _, _, rfl, Or.inl ⟨_, hW, rfl⟩, _, _, rfl, rfl, w0, Or.inl ⟨W, _, _, .str lb, rfl, rfl, hW, hv, ?_⟩⟩
    refine g_in ?_
    try dsimp only
    refine ⟨_, rfl, _, rfl, _, _, rfl, Or.inl ⟨_, hW, rfl⟩, _, _, rfl, rfl, ⟨w0, by omega⟩, ?_⟩
    try dsimp only
    generalize n2 / ((ws.map V.str).length : Nat) = n3
    have mG : G ∈ Gs := List.mem_of_getElem? g2
    have kr : Keeps (fun x => x ∈ Gs) H H := Keeps.refl fun x o m e => by
      obtain ⟨j, hj⟩ := List.getElem?_of_mem m
      have hjl : j < ss.length := by rw [← hS.lg]; exact (List.getElem?_eq_some_iff.mp hj).1
      obtain ⟨u', G', E', g1', g2', g3', g4', ⟨_, ⟨ts', b1', _⟩, _⟩⟩ := hS.get hjl
      rw [hj] at g2'; cases g2'
      rw [b1'] at e
      exact ⟨_, (Option.some.inj e).symm⟩
    refine ⟨_, rfl, _, _, rfl, Or.inl ⟨_, SqL.of b1, rfl⟩, _, _, rfl, rfl, _, rfl, ite2 (fun h => ?_) (fun h => ?_)⟩
    rotate_left
    · exact q ss H kr hS rfl h8 hok
    have h7 : ts.length < 8 := by
      have := of_decide_eq_true h
      rw [List.length_map] at this
      omega
    have more : ∀ (t : Addr) (p : Stp) (H2 : Hp), Same H H2 → H2 t = some (.tup (stpV p)) → (p.2.1 ≠ ("to" : Str) → 0 ≤ p.2.2 ∧ p.2.2 < qn) → Q .non (upd H2 G (.lst (ts.map V.ref ++ [.ref t]))) := fun t p H2 s2 et hp => by
      have S2 := (hS.same s2).step nd hil g2 (s2 _ _ b1) (b2.same s2) et
      refine q _ _ ⟨fun x o e n => ?_, kr.ls⟩ S2 (List.length_set ..) (fun s hs => ?_) (fun s hs => ?_)
      · have hn : x ≠ G := fun z => n (by rw [z]; exact mG)
        rw [upd_ne hn]; exact s2 _ _ e
      · rcases List.mem_or_eq_of_mem_set hs with hs | rfl
        · exact h8 s hs
        · show (ss[i].1 ++ [p]).length ≤ 8
          rw [List.length_append, List.length_singleton, ← b2.len]; omega
      · rcases List.mem_or_eq_of_mem_set hs with hs | rfl
        · exact hok s hs
        · intro p' hp'
          rcases List.mem_append.mp hp' with hp' | hp'
          · exact hok _ (List.getElem_mem hil) p' hp'
          · rw [List.mem_singleton.mp hp']; exact hp
    have lts : (ts.map V.ref).length < sizeLine := by rw [List.length_map]; exact small1000 (by omega)
    refine ⟨_, rfl, _, _, rfl, rfl, (by show (0 : Int) < 2; decide), rfl, _, rfl, ite2 (fun _ => ?_) (fun _ => ?_)⟩
    · refine ⟨_, rfl, Or.inl ⟨rfl, _, SqL.of b1⟩, _, rfl, _, rfl, _, rfl, _, _, rfl, rfl, hq, three_le, fun t ht => ?_⟩
      have s2 := same_new (o := .tup [.str lb, .str "by", .int (n3 % qn)]) ht
      refine ⟨G, _, _, rfl, rfl, s2 _ _ b1, lts, ?_⟩
      exact more t (lb, "by", n3 % qn) _ s2 upd_same (fun _ => ⟨Int.emod_nonneg _ (by omega), Int.emod_lt_of_pos _ hq⟩)
    · refine ⟨_, rfl, Or.inl ⟨rfl, _, SqL.of b1⟩, _, rfl, _, rfl, _, rfl, _, _, rfl, Or.inl ⟨_, SqL.of hS.top, rfl⟩, _, _, rfl, rfl, l0, three_le, fun t ht => ?_⟩
      have s2 := same_new (o := .tup [.str lb, .str "to", .int (n3 % ((us.map V.ref).length : Nat))]) ht
      refine ⟨G, _, _, rfl, rfl, s2 _ _ b1, lts, ?_⟩
      exact more t (lb, "to", n3 % ((us.map V.ref).length : Nat)) _ s2 upd_same (fun e => absurd rfl e)
theorem call__law_lay_step {f : Addr} {fd : FuncData} (B : Blt mg)  (F : Fun K "_law_lay_step" "_law_lay_step" s__law_lay_step f fd) (hm : mg "_law_lay_step" = some (.ref f)) : Callee P w K mg base "_law_lay_step" 1 ["_law_scopes", "_law_words_here", "_law_cell", "_law_questions_here"] (sp__law_lay_step K) :=
  ⟨f, fd, ok__law_lay_step B  F, hm, F.kp, F.binds fun _ _ _ _ _ _ us hl => (by obtain ⟨x0, x1, x2, x3, rfl⟩ := len_4 hl; rfl)⟩
theorem none_torn {r : Int} (h0 : 0 ≤ r) (h1 : r < 2) : ∃ w : Str, atI [V.str "none", V.str "torn"] r = some (V.str w) ∧ w ≠ ("thing" : Str) := by
  rcases (show r = 0 ∨ r = 1 by omega) with rfl | rfl
  · exact ⟨"none", rfl, by decide +kernel⟩
  · exact ⟨"torn", rfl, by decide +kernel⟩

def sp__law_answers (K : PySem.W.Frag) : Sp := fun vs H Q _ => ∃ (c th : Int) (R : Addr) (qs : List Qu), vs = [.int c, .ref R, .int th] ∧ Qus K H R qs ∧ qs.length ≤ 60 ∧ (∀ q ∈ qs, 1 ≤ q.2.2.length ∧ q.2.2.length ≤ 6) ∧ 0 < th ∧
  ∀ (D : Addr) (us : List V) (as : List (Option (Str × Int))) (H' : Hp), H D = none → Same H H' → H' D = some (.lst us) → IsDts K H' us (as.map ansD) → as.length = qs.length → (∀ p, some p ∈ as → p.1 = ("thing" : Str) → 0 ≤ p.2 ∧ p.2 < th) → Q (.ref D) H'
set_option maxHeartbeats 4000000 in
seal L2.PE L2.PA L2.PS L2.PSs L2.PT L2.PW L2.PC L2.PG L2.PGs L2.PI L2.PF L2.PSet L2.OpR L2.UnR L2.CallR L2.MtR L2.IxR L2.SlR L2.PO in
theorem ok__law_answers {f : Addr} {fd : FuncData} (B : Blt mg)  (F : Fun K "_law_answers" "_law_answers" s__law_answers f fd) : FnOk P w K mg base CX0 1 f fd ["_law_cell", "_law_questions_here", "_law_things_here"] (sp__law_answers K) := by
  refine F.ok sc__law_answers (fun vs H Q E h => ?_) (fun cdv A outer s H vs Q E hr h => ?_)
  · obtain ⟨c, th, R, qs, rfl, _⟩ := h
    rfl
  · obtain ⟨c, th, R, qs, rfl, ⟨qv, hR, hRD⟩, q60, hq6, hth, q⟩ := h
    have lqv := hRD.len_map
    refine ⟨_, (pss_cons (ps_set (i := 3) sc__law_answers.nd rfl (Or.inl rfl) (pe_lst pa_nil))
      (pss_cons (ps_set (i := 4) sc__law_answers.nd rfl (Or.inl rfl) (pe_op op_add (pe_op op_mod (pv 0) pe_int) pe_int))
      (pss_cons (ps_for PassesOwn.never rfl (pi_range1 rfl B.b_range (pa_cons (pe_callB call_len (by rfl) B.b_len (by decide +kernel) (pa_cons (pv 1) pa_nil)) pa_nil)) (pg_name (i := 5) sc__law_answers.nd rfl (Or.inl rfl)) (pss_cons (ps_set (i := 4) sc__law_answers.nd rfl (Or.inl rfl) (pe_op op_mod (pe_op op_add (pe_op op_add (pe_op op_mul (pv 4) (pv 4)) (pe_op op_mul pe_int (pv 4))) (pv 5)) pe_int))
        (pss_one (ps_if (pt_cmpR op_eq (pe_op op_mod (pv 4) pe_int) pe_int (nomark _)) (pss_one (ps_expr (pe_bm PySem.F.plainAttrs_list PySem.F.slot_list_append PySem.F.type_list_append mr_append (pv 3) (pa_cons pe_non pa_nil)))) (pss_one (ps_if (pt_cmpR op_eq (pe_op op_mod (pv 4) pe_int) pe_int (nomark _)) (pss_one (ps_expr (pe_bm PySem.F.plainAttrs_list PySem.F.slot_list_append PySem.F.type_list_append mr_append (pv 3) (pa_cons (pe_tup (pa_cons (pe_ix ix_seq (pe_lst (pa_cons pe_str (pa_cons pe_str pa_nil))) (pe_op op_mod (pe_op op_fdiv (pv 4) pe_int) pe_int) (fun _ _ => rfl)) (pa_cons (pe_op op_mod (pe_op op_fdiv (pv 4) pe_int) (pe_callB call_len (by rfl) B.b_len (by decide +kernel) (pa_cons (pe_ix ix_seq (pe_ix ix_seq (pv 1) (pv 5) (fun _ _ => rfl)) pe_int (fun _ _ => rfl)) pa_nil))) pa_nil))) pa_nil)))) (pss_one (ps_expr (pe_bm PySem.F.plainAttrs_list PySem.F.slot_list_append PySem.F.type_list_append mr_append (pv 3) (pa_cons (pe_tup (pa_cons pe_str (pa_cons (pe_op op_mod (pe_op op_fdiv (pv 4) pe_int) (pv 2)) pa_nil))) pa_nil))))))))))
      (pss_one (ps_ret (pv 3)))))), ?_⟩
    refine ⟨by decide, fun D hD => ?_⟩
    have s1 := same_new (o := .lst []) hD
    have eD1 : (upd H D (.lst [])) D = some (.lst []) := upd_same
    generalize upd H D (.lst []) = H1 at s1 eD1 ⊢
    have n0 := Int.emod_nonneg c (by decide : (2147483629 : Int) ≠ 0)
    have n1 := Int.emod_lt_of_pos c (by decide : (0 : Int) < 2147483629)
    refine ⟨_, rfl, _, _, rfl, rfl, (by show (0 : Int) < 2147483629; decide), _, _, rfl, rfl, ?_⟩
    try dsimp only
    obtain ⟨num, enum⟩ : ∃ num, num = c % 2147483629 + 1 := ⟨_, rfl⟩
    rw [← enum]
    refine g_in ?_
    try dsimp only
    refine ⟨_, rfl, _, _, rfl, Or.inl ⟨_, s1.seq hR, rfl⟩, _, rfl, by omega, by omega, for_range (lo := 0) (n := ((qv.length : Nat) : Int).toNat)
      (fun i σ H' => ∃ num u6 us as, σ = [some (.int c), some (.ref R), some (.int th), some (.ref D), some (.int num), u6] ∧ 0 ≤ num ∧ num < 2147483647 ∧ Same H H' ∧ H' D = some (.lst us) ∧ IsDts K H' us (as.map ansD) ∧ as.length = i ∧ ∀ p, some p ∈ as → p.1 = ("thing" : Str) → 0 ≤ p.2 ∧ p.2 < th)
      ⟨num, none, [], [], rfl, by omega, by omega, s1, eD1, .nil, rfl, fun p hp => by simp at hp⟩ ?_ ?_⟩
    · rintro i σ H2 hi ⟨num, u6, us, as, rfl, p0, p1, s2, eD2, A2, hal, hok⟩
      have hil : i < qs.length := by omega
      have hus : us.length = i := by rw [A2.len_map, hal]
      obtain ⟨v, hqv, hvd⟩ := hRD.get' (i := i) (d := quD qs[i]) (by rw [List.getElem?_map, List.getElem?_eq_getElem hil]; rfl)
      obtain ⟨qt, qu, rfl, hqt, hqu⟩ := qu_at hvd
      have hq1 := (hq6 _ (List.getElem_mem hil)).1
      refine ⟨_, rfl, _, rfl, _, _, rfl, rfl, Or.inl ⟨by omega, by omega⟩, _, rfl, _, _, rfl, rfl, Or.inl ⟨by decide, by decide⟩, _, _, rfl, rfl, _, rfl, _, _, rfl, rfl, _, _, rfl, rfl, (by show (0 : Int) < 2147483647; decide), ?_⟩
      try dsimp only
      generalize num * num + 69621 * num + (0 + (i : Int)) = big
      have b0 := Int.emod_nonneg big (by decide : (2147483647 : Int) ≠ 0)
      have b1 := Int.emod_lt_of_pos big (by decide : (0 : Int) < 2147483647)
      generalize big % 2147483647 = nn at b0 b1 ⊢
      refine g_in ?_
      try dsimp only
      have r0 := Int.emod_nonneg nn (by decide : (5 : Int) ≠ 0)
      refine ⟨_, rfl, _, _, rfl, rfl, (by show (0 : Int) < 5; decide), rfl, _, rfl, ite2 (fun h => ?_) (fun h => ?_)⟩
      · have k2 : Keeps (· = D) H2 (upd H2 D (.lst (us ++ [.non]))) := Keeps.one eD2
        refine ⟨_, rfl, Or.inl ⟨rfl, _, SqL.of eD2⟩, D, _, _, rfl, rfl, eD2, by rw [hus]; exact small1000 (by omega), ?_⟩
        refine ⟨nn, _, us ++ [.non], as ++ [none], rfl, b0, b1, fun b o e => ?_, upd_same, ?_, by rw [List.length_append, hal]; rfl, fun p hp => ?_⟩
        · rw [upd_ne (ne_of_none e hD)]; exact s2 _ _ e
        · rw [List.map_append]; exact (k2.anss A2).append (.cons .non .nil)
        · rcases List.mem_append.mp hp with hp | hp
          · exact hok p hp
          · simp at hp
      have hne : nn % 5 ≠ 0 := fun z => h (decide_eq_true (by show V.int (nn % 5) = V.int 0; rw [z]))
      have one : ∀ (t : Addr) (p : Str × Int) (H3 : Hp), Same H2 H3 → H3 t = some (.tup [.str p.1, .int p.2]) → (p.1 = ("thing" : Str) → 0 ≤ p.2 ∧ p.2 < th) →
          IsDts K (upd H3 D (.lst (us ++ [.ref t]))) (us ++ [.ref t]) ((as ++ [some p]).map ansD) ∧ Same H (upd H3 D (.lst (us ++ [.ref t]))) ∧ (as ++ [some p]).length = i + 1 ∧ ∀ p', some p' ∈ as ++ [some p] → p'.1 = ("thing" : Str) → 0 ≤ p'.2 ∧ p'.2 < th := fun t p H3 s3 et ht => by
        have k3 : Keeps (· = D) H3 (upd H3 D (.lst (us ++ [.ref t]))) := Keeps.one (s3 _ _ eD2)
        refine ⟨?_, fun b o e => ?_, by rw [List.length_append, hal]; rfl, fun p' hp => ?_⟩
        · rw [List.map_append]
          exact (k3.anss (A2.same s3)).append (.cons (.tup (k3.seqT (SqT.of et)) (.cons (.str _) (.cons (.int _) .nil))) .nil)
        · rw [upd_ne (ne_of_none e hD)]; exact s3 _ _ (s2 _ _ e)
        · rcases List.mem_append.mp hp with hp | hp
          · exact hok p' hp
          · rw [Option.some.inj (List.mem_singleton.mp hp)]; exact ht
      refine ⟨_, rfl, _, _, rfl, rfl, (by show (0 : Int) < 5; decide), rfl, _, rfl, ite2 (fun h => ?_) (fun h => ?_)⟩
      · obtain ⟨wd, hwd, hwn⟩ := none_torn (Int.emod_nonneg (nn / 5) (by decide : (2 : Int) ≠ 0)) (Int.emod_lt_of_pos (nn / 5) (by decide : (0 : Int) < 2))
        refine ⟨_, rfl, Or.inl ⟨rfl, _, SqL.of eD2⟩, two_le, fun l hl => ?_⟩
        have s3 := same_new (o := .lst [.str "none", .str "torn"]) hl
        have el : (upd H2 l (.lst [.str "none", .str "torn"])) l = some (.lst [.str "none", .str "torn"]) := upd_same
        have s3' : Same H2 (upd H2 l (.lst [.str "none", .str "torn"])) := s3
        refine ⟨_, rfl, _, _, rfl, rfl, ⟨by decide, by decide⟩, _, _, rfl, rfl, (by show (0 : Int) < 2; decide), Or.inl ⟨l, _, _, .str wd, rfl, rfl, SqL.of el, hwd, ?_⟩⟩
        refine ⟨_, rfl, _, _, rfl, rfl, ⟨by decide, by decide⟩, _, rfl, _, rfl, Or.inl ⟨R, qv, _, .ref qt, rfl, rfl, (s2.trans s3).seq hR, at0 hqv, Or.inr (Or.inl ⟨qt, _, _, .ref qu, rfl, rfl, (s2.trans s3).seqT hqt, rfl, _, _, rfl, Or.inr ⟨_, (s2.trans s3).seqT hqu, rfl⟩, _, _, rfl, rfl, ?_, two_le, fun t ht => ?_⟩)⟩⟩
        · show (0 : Int) < _
          rw [List.length_map]; omega
        have s4 := s3.trans (same_new (o := .tup [.str wd, .int (nn / 10 % ((qs[i].2.2.map V.str).length : Nat))]) ht)
        obtain ⟨o1, o2, o3, o4⟩ := one t (wd, nn / 10 % ((qs[i].2.2.map V.str).length : Nat)) _ s4 upd_same (fun e => absurd e hwn)
        refine ⟨D, _, _, rfl, rfl, s4 _ _ eD2, by rw [hus]; exact small1000 (by omega), ?_⟩
        exact ⟨nn, _, _, _, rfl, b0, b1, o2, upd_same, o1, o3, o4⟩
      · refine ⟨_, rfl, Or.inl ⟨rfl, _, SqL.of eD2⟩, _, rfl, _, _, rfl, rfl, ⟨by decide, by decide⟩, _, rfl, _, _, rfl, rfl, hth, two_le, fun t ht => ?_⟩
        have s4 := same_new (o := .tup [.str "thing", .int (nn / 5 % th)]) ht
        obtain ⟨o1, o2, o3, o4⟩ := one t ("thing", nn / 5 % th) _ s4 upd_same (fun _ => ⟨Int.emod_nonneg _ (by omega), Int.emod_lt_of_pos _ hth⟩)
        refine ⟨D, _, _, rfl, rfl, s4 _ _ eD2, by rw [hus]; exact small1000 (by omega), ?_⟩
        exact ⟨nn, _, _, _, rfl, b0, b1, o2, upd_same, o1, o3, o4⟩
    · rintro σ H2 ⟨num, u6, us, as, rfl, p0, p1, s2, eD2, A2, hal, hok⟩
      exact ⟨_, rfl, q D us as H2 hD s2 eD2 A2 (by rw [hal]; omega) hok⟩
theorem call__law_answers {f : Addr} {fd : FuncData} (B : Blt mg)  (F : Fun K "_law_answers" "_law_answers" s__law_answers f fd) (hm : mg "_law_answers" = some (.ref f)) : Callee P w K mg base "_law_answers" 1 ["_law_cell", "_law_questions_here", "_law_things_here"] (sp__law_answers K) :=
  ⟨f, fd, ok__law_answers B  F, hm, F.kp, F.binds fun _ _ _ _ _ _ us hl => (by obtain ⟨x0, x1, x2, rfl⟩ := len_3 hl; rfl)⟩

def sp__law_whole (_ : PySem.W.Frag) : Sp := fun vs H Q _ => ∃ (i : Int), vs = [.int i] ∧ Q (.bl true) H
set_option maxHeartbeats 4000000 in
seal L2.PE L2.PA L2.PS L2.PSs L2.PT L2.PW L2.PC L2.PG L2.PGs L2.PI L2.PF L2.PSet L2.OpR L2.UnR L2.CallR L2.MtR L2.IxR L2.SlR L2.PO in
theorem ok__law_whole {f : Addr} {fd : FuncData} (B : Blt mg)  (F : Fun K "_law_whole" "_law_whole" s__law_whole f fd) : FnOk P w K mg base CX0 1 f fd ["_law_found"] (sp__law_whole K) := by
  refine F.ok sc__law_whole (fun vs H Q E h => ?_) (fun cdv A outer s H vs Q E hr h => ?_)
  · obtain ⟨i, rfl, _⟩ := h
    rfl
  · obtain ⟨i, rfl, q⟩ := h
    refine ⟨_, (pss_one (ps_ret (pe_and (pe_callB call_isi (by rfl) B.b_isinstance (by decide +kernel) (pa_cons (pv 0) (pa_cons (pe_ty "int" rfl B.b_int (by decide +kernel)) pa_nil))) (pe_one (pe_not (pe_callB call_isi (by rfl) B.b_isinstance (by decide +kernel) (pa_cons (pv 0) (pa_cons (pe_ty "bool" rfl B.b_bool (by decide +kernel)) pa_nil)))))))), ?_⟩
    exact ⟨_, rfl, _, .int, .int, rfl, .int i, _, rfl, iteT ⟨_, rfl, _, .bool, .int, rfl, .int i, _, rfl, q⟩⟩
theorem call__law_whole {f : Addr} {fd : FuncData} (B : Blt mg)  (F : Fun K "_law_whole" "_law_whole" s__law_whole f fd) (hm : mg "_law_whole" = some (.ref f)) : Callee P w K mg base "_law_whole" 1 ["_law_found"] (sp__law_whole K) :=
  ⟨f, fd, ok__law_whole B  F, hm, F.kp, F.binds fun _ _ _ _ _ _ us hl => (by obtain ⟨x0, rfl⟩ := len_1 hl; rfl)⟩

def sp__law_told (K : PySem.W.Frag) : Sp := fun vs H Q _ => ∃ (u d : Addr) (p : Str × Int), vs = [.ref u, .ref d] ∧ SqT K H u [.str p.1, .int p.2] ∧ SqT K H d [.str p.1, .int p.2] ∧ Q (.bl true) H
set_option maxHeartbeats 4000000 in
seal L2.PE L2.PA L2.PS L2.PSs L2.PT L2.PW L2.PC L2.PG L2.PGs L2.PI L2.PF L2.PSet L2.OpR L2.UnR L2.CallR L2.MtR L2.IxR L2.SlR L2.PO in
theorem ok__law_told {f : Addr} {fd : FuncData} (B : Blt mg) (c__law_whole : Callee P w K mg base "_law_whole" 1 ["_law_found"] (sp__law_whole K)) (F : Fun K "_law_told" "_law_told" s__law_told f fd) : FnOk P w K mg base CX0 2 f fd ["_law_found", "_law_due"] (sp__law_told K) := by
  refine F.ok sc__law_told (fun vs H Q E h => ?_) (fun cdv A outer s H vs Q E hr h => ?_)
  · obtain ⟨u, d, p, rfl, _⟩ := h
    rfl
  · obtain ⟨u, d, p, rfl, hu, hd, q⟩ := h
    refine ⟨_, (pss_cons (ps_if (PW.pt (pw_or (pt_not (pt_val (pe_callB call_isi (by rfl) B.b_isinstance (by decide +kernel) (pa_cons (pv 0) (pa_cons (pe_ty "tuple" rfl B.b_tuple (by decide +kernel)) pa_nil))))) (pw_or1 (pt_cmpR op_ne (pe_callB call_len (by rfl) B.b_len (by decide +kernel) (pa_cons (pv 0) pa_nil)) pe_int (nomark _))))) (pss_one (ps_ret pe_bl)) pss_nil)
      (pss_one (ps_ret (pe_and (pe_callB call_isi (by rfl) B.b_isinstance (by decide +kernel) (pa_cons (pe_ix ix_seq (pv 0) pe_int (fun _ _ => rfl)) (pa_cons (pe_ty "str" rfl B.b_str (by decide +kernel)) pa_nil))) (pe_and (pe_fn c__law_whole (hr.mono (by decide)) rfl (pa_cons (pe_ix ix_seq (pv 0) pe_int (fun _ _ => rfl)) pa_nil)) (pe_one (pe_cmpR (op_eqD hr.units) (pv 0) (pv 1) (nomark _)))))))), ?_⟩
    refine ⟨_, rfl, _, .tup, .tup, rfl, .tup hu, _, rfl, iteF ?_⟩
    refine ⟨_, rfl, _, _, rfl, Or.inr ⟨_, hu, rfl⟩, rfl, _, rfl, iteNS rfl ?_⟩
    refine ⟨_, rfl, Or.inr (Or.inl ⟨u, _, _, .str p.1, rfl, rfl, hu, rfl, _, .str, .str, rfl, .str _, _, rfl, iteT ?_⟩)⟩
    refine ⟨_, rfl, Or.inr (Or.inl ⟨u, _, _, .int p.2, rfl, rfl, hu, rfl, p.2, rfl, _, rfl, iteT ?_⟩)⟩
    refine ⟨_, rfl, _, rfl, 2, goD p, goD p, cmp_go p p, by decide, .tup hu (.cons (.str _) (.cons (.int _) .nil)), .tup hd (.cons (.str _) (.cons (.int _) .nil)), ?_⟩
    rw [dec_true rfl]
    exact q
theorem call__law_told {f : Addr} {fd : FuncData} (B : Blt mg) (c__law_whole : Callee P w K mg base "_law_whole" 1 ["_law_found"] (sp__law_whole K)) (F : Fun K "_law_told" "_law_told" s__law_told f fd) (hm : mg "_law_told" = some (.ref f)) : Callee P w K mg base "_law_told" 2 ["_law_found", "_law_due"] (sp__law_told K) :=
  ⟨f, fd, ok__law_told B c__law_whole F, hm, F.kp, F.binds fun _ _ _ _ _ _ us hl => (by obtain ⟨x0, x1, rfl⟩ := len_2 hl; rfl)⟩

def sp_inside_of_sort (K : PySem.W.Frag) : Sp := fun vs H Q _ => ∃ (t S T R A : Addr) (ths : List (Str × Int)) (as : List (Option (Str × Int))) (n : Int) (k : Nat), vs = [.ref t, .ref A, .int n] ∧ n = k ∧ k < as.length ∧ SqT K H t [.ref S, .ref T, .ref R] ∧ Goes K H T ths ∧ Ans K H A as ∧ NetOk ths as ∧
  ∀ (r : Addr) (H' : Hp), H r = none → Same H H' → H' r = some (.tup [.str (sortV ths as n).1, .int (sortV ths as n).2]) → Q (.ref r) H'
set_option maxHeartbeats 4000000 in
seal L2.PE L2.PA L2.PS L2.PSs L2.PT L2.PW L2.PC L2.PG L2.PGs L2.PI L2.PF L2.PSet L2.OpR L2.UnR L2.CallR L2.MtR L2.IxR L2.SlR L2.PO in
theorem ok_inside_of_sort {f : Addr} {fd : FuncData} (B : Blt mg)  (F : Fun K "inside_of_sort" "inside_of_sort" s_inside_of_sort f fd) : FnOk P w K mg base CX0 1 f fd ["net", "answers", "question"] (sp_inside_of_sort K) := by
  refine F.ok sc_inside_of_sort (fun vs H Q E h => ?_) (fun cdv A outer s H vs Q E hr h => ?_)
  · obtain ⟨t, S, T, R, A, ths, as, n, k, rfl, _⟩ := h
    rfl
  · obtain ⟨t, S, T, R, A, ths, as, n, k, rfl, rfl, hk, hT, hG, hA, ok, q⟩ := h
    obtain ⟨vs, v, hA1, hv, hc⟩ := hA.get hk
    refine ⟨_, (pss_cons (ps_set (i := 3) sc_inside_of_sort.nd rfl (Or.inl rfl) (pe_ix ix_seq (pv 1) (pv 2) (fun _ _ => rfl)))
      (pss_cons (ps_if (pt_cmp (pc_isN (pv 3))) (pss_one (ps_ret (pe_tup (pa_cons pe_str (pa_cons (pv 2) pa_nil))))) pss_nil)
      (pss_cons (ps_if (pt_cmpR op_eq (pe_ix ix_seq (pv 3) pe_int (fun _ _ => rfl)) pe_str (nomark _)) (pss_cons (ps_asg (pe_ix ix_seq (pe_ix ix_seq (pv 0) pe_int (fun _ _ => rfl)) (pe_ix ix_seq (pv 3) pe_int (fun _ _ => rfl)) (fun _ _ => rfl)) (pg_tup rfl (pgs_cons (pg_name (i := 4) sc_inside_of_sort.nd rfl (Or.inl rfl)) (pgs_cons (pg_name (i := 5) sc_inside_of_sort.nd rfl (Or.inl rfl)) pgs_nil))))
        (pss_one (ps_if (pt_cmpR op_eq (pv 4) pe_str (nomark _)) (pss_one (ps_ret (pe_tup (pa_cons pe_str (pa_cons (pv 5) pa_nil))))) pss_nil))) pss_nil)
      (pss_one (ps_ret (pe_tup (pa_cons pe_str (pa_cons pe_int pa_nil)))))))), ?_⟩
    refine ⟨_, rfl, _, rfl, Or.inl ⟨A, vs, _, v, rfl, rfl, hA1, atI_nat hv, ?_⟩⟩
    refine g_in ?_
    try dsimp only
    rcases hc with ⟨e1, rfl⟩ | ⟨p, ta, e1, rfl, hta⟩
    · refine ⟨_, rfl, _, rfl, ite2 (fun _ => ?_) (fun h => absurd (decide_eq_true rfl) h)⟩
      refine ⟨_, rfl, two_le, fun r hr => ?_⟩
      rw [sortV_open e1] at q
      exact q r _ hr (same_new hr) upd_same
    refine ⟨_, rfl, _, rfl, ite2 (fun h => absurd (of_decide_eq_true h) (by simp)) (fun _ => ?_)⟩
    refine ⟨_, rfl, Or.inr (Or.inl ⟨ta, _, _, .str p.1, rfl, rfl, hta, rfl, rfl, _, rfl, ite2 (fun h => ?_) (fun h => ?_)⟩)⟩
    · have hp : p.1 = ("thing" : Str) := V.str.inj (of_decide_eq_true h)
      obtain ⟨p0, p1⟩ := ok.t p (List.mem_of_getElem? e1) hp
      obtain ⟨m, hm⟩ := Int.eq_ofNat_of_zero_le p0
      have hml : m < ths.length := by omega
      have hkk := List.getElem?_eq_getElem hml
      obtain ⟨tv, th, hT1, hth, sth⟩ := hG.get hkk
      have hat : atI tv p.2 = some (.ref th) := by rw [hm]; exact atI_nat hth
      refine ⟨_, rfl, Or.inr (Or.inl ⟨t, _, _, .ref T, rfl, rfl, hT, rfl, _, rfl, Or.inr (Or.inl ⟨ta, _, _, .int p.2, rfl, rfl, hta, rfl, Or.inl ⟨T, tv, _, .ref th, rfl, rfl, hT1, hat, ?_⟩⟩)⟩)⟩
      refine ⟨th, _, rfl, sth, rfl, _, _, rfl, _, _, rfl, rfl, ?_⟩
      refine ⟨_, rfl, rfl, _, rfl, ite2 (fun h => ?_) (fun h => ?_)⟩
      · have hk1 : ths[m].1 = ("part" : Str) := V.str.inj (of_decide_eq_true h)
        refine ⟨_, rfl, two_le, fun r hr => ?_⟩
        rw [sortV_part e1 hp hm hkk hk1] at q
        exact q r _ hr (same_new hr) upd_same
      · have hk1 : ths[m].1 ≠ ("part" : Str) := fun z => h (decide_eq_true (by rw [z]))
        refine ⟨two_le, fun r hr => ?_⟩
        rw [sortV_none e1 hp hm hkk hk1] at q
        exact q r _ hr (same_new hr) upd_same
    · have hp : p.1 ≠ ("thing" : Str) := fun z => h (decide_eq_true (by rw [z]))
      refine ⟨two_le, fun r hr => ?_⟩
      rw [sortV_no e1 hp] at q
      exact q r _ hr (same_new hr) upd_same
theorem call_inside_of_sort {f : Addr} {fd : FuncData} (B : Blt mg)  (F : Fun K "inside_of_sort" "inside_of_sort" s_inside_of_sort f fd) (hm : mg "inside_of_sort" = some (.ref f)) : Callee P w K mg base "inside_of_sort" 1 ["net", "answers", "question"] (sp_inside_of_sort K) :=
  ⟨f, fd, ok_inside_of_sort B  F, hm, F.kp, F.binds fun _ _ _ _ _ _ us hl => (by obtain ⟨x0, x1, x2, rfl⟩ := len_3 hl; rfl)⟩

def sp_inside (K : PySem.W.Frag) : Sp := fun vs H Q _ => ∃ (t S T R A : Addr) (ths : List (Str × Int)) (as : List (Option (Str × Int))) (n : Int) (k : Nat) (p : Str × Int), vs = [.ref t, .ref A, .int n] ∧ n = k ∧ ths[k]? = some p ∧ SqT K H t [.ref S, .ref T, .ref R] ∧ Goes K H T ths ∧ Ans K H A as ∧ NetOk ths as ∧
  ∀ (r : Addr) (H' : Hp), H r = none → Same H H' → H' r = some (.tup [.str (insideV ths as p).1, .int (insideV ths as p).2]) → Q (.ref r) H'
set_option maxHeartbeats 4000000 in
seal L2.PE L2.PA L2.PS L2.PSs L2.PT L2.PW L2.PC L2.PG L2.PGs L2.PI L2.PF L2.PSet L2.OpR L2.UnR L2.CallR L2.MtR L2.IxR L2.SlR L2.PO in
theorem ok_inside {f : Addr} {fd : FuncData} (B : Blt mg) (c_inside_of_sort : Callee P w K mg base "inside_of_sort" 1 ["net", "answers", "question"] (sp_inside_of_sort K)) (F : Fun K "inside" "inside" s_inside f fd) : FnOk P w K mg base CX0 2 f fd ["net", "answers", "thing"] (sp_inside K) := by
  refine F.ok sc_inside (fun vs H Q E h => ?_) (fun cdv A outer s H vs Q E hr h => ?_)
  · obtain ⟨t, S, T, R, A, ths, as, n, k, p, rfl, _⟩ := h
    rfl
  · obtain ⟨t, S, T, R, A, ths, as, n, k, p, rfl, rfl, hp, hT, hG, hA, ok, q⟩ := h
    obtain ⟨tv, th, hT1, hth, sth⟩ := hG.get hp
    refine ⟨_, (pss_cons (ps_asg (pe_ix ix_seq (pe_ix ix_seq (pv 0) pe_int (fun _ _ => rfl)) (pv 2) (fun _ _ => rfl)) (pg_tup rfl (pgs_cons (pg_name (i := 3) sc_inside.nd rfl (Or.inl rfl)) (pgs_cons (pg_name (i := 4) sc_inside.nd rfl (Or.inl rfl)) pgs_nil))))
      (pss_cons (ps_if (pt_cmpR op_eq (pv 3) pe_str (nomark _)) (pss_one (ps_ret (pe_tup (pa_cons pe_str (pa_cons (pv 4) pa_nil))))) pss_nil)
      (pss_cons (ps_if (pt_cmpR op_eq (pv 3) pe_str (nomark _)) (pss_one (ps_ret (pe_fn c_inside_of_sort (hr.mono (by decide)) rfl (pa_cons (pv 0) (pa_cons (pv 1) (pa_cons (pv 4) pa_nil)))))) pss_nil)
      (pss_one (ps_ret (pe_tup (pa_cons pe_str (pa_cons pe_int pa_nil)))))))), ?_⟩
    refine ⟨_, rfl, Or.inr (Or.inl ⟨t, _, _, .ref T, rfl, rfl, hT, rfl, _, rfl, Or.inl ⟨T, tv, _, .ref th, rfl, rfl, hT1, atI_nat hth, ?_⟩⟩)⟩
    refine ⟨th, _, rfl, sth, rfl, _, _, rfl, _, _, rfl, rfl, ?_⟩
    refine ⟨_, rfl, rfl, _, rfl, ite2 (fun h => ?_) (fun h => ?_)⟩
    · have h1 : p.1 = ("part" : Str) := V.str.inj (of_decide_eq_true h)
      refine ⟨_, rfl, two_le, fun r hr => ?_⟩
      rw [show insideV ths as p = (("to" : Str), p.2) from if_pos h1] at q
      exact q r _ hr (same_new hr) upd_same
    have h1 : p.1 ≠ ("part" : Str) := fun z => h (decide_eq_true (by rw [z]))
    refine ⟨_, rfl, rfl, _, rfl, ite2 (fun h => ?_) (fun h => ?_)⟩
    · have h2 : p.1 = ("sort" : Str) := V.str.inj (of_decide_eq_true h)
      obtain ⟨p0, p1⟩ := ok.q p (List.mem_of_getElem? hp) h2
      obtain ⟨m, hm⟩ := Int.eq_ofNat_of_zero_le p0
      rw [show insideV ths as p = sortV ths as p.2 from (if_neg h1).trans (if_pos h2)] at q
      exact ⟨_, rfl, _, rfl, _, rfl, t, S, T, R, A, ths, as, p.2, m, rfl, hm, by omega, hT, hG, hA, ok, q⟩
    · have h2 : p.1 ≠ ("sort" : Str) := fun z => h (decide_eq_true (by rw [z]))
      refine ⟨two_le, fun r hr => ?_⟩
      rw [show insideV ths as p = (("no" : Str), 0) from (if_neg h1).trans (if_neg h2)] at q
      exact q r _ hr (same_new hr) upd_same
theorem call_inside {f : Addr} {fd : FuncData} (B : Blt mg) (c_inside_of_sort : Callee P w K mg base "inside_of_sort" 1 ["net", "answers", "question"] (sp_inside_of_sort K)) (F : Fun K "inside" "inside" s_inside f fd) (hm : mg "inside" = some (.ref f)) : Callee P w K mg base "inside" 2 ["net", "answers", "thing"] (sp_inside K) :=
  ⟨f, fd, ok_inside B c_inside_of_sort F, hm, F.kp, F.binds fun _ _ _ _ _ _ us hl => (by obtain ⟨x0, x1, x2, rfl⟩ := len_3 hl; rfl)⟩

def sp_goal (K : PySem.W.Frag) : Sp := fun vs H Q _ => ∃ (t S T R A st : Addr) (ths : List (Str × Int)) (as : List (Option (Str × Int))) (p : Stp), vs = [.ref t, .ref A, .ref st] ∧ SqT K H t [.ref S, .ref T, .ref R] ∧ Goes K H T ths ∧ Ans K H A as ∧ NetOk ths as ∧ SqT K H st (stpV p) ∧ (p.2.1 ≠ ("to" : Str) → 0 ≤ p.2.2 ∧ p.2.2 < as.length) ∧
  ∀ (r : Addr) (H' : Hp), H r = none → Same H H' → H' r = some (.tup [.str (goalV ths as p).1, .int (goalV ths as p).2]) → Q (.ref r) H'
set_option maxHeartbeats 4000000 in
seal L2.PE L2.PA L2.PS L2.PSs L2.PT L2.PW L2.PC L2.PG L2.PGs L2.PI L2.PF L2.PSet L2.OpR L2.UnR L2.CallR L2.MtR L2.IxR L2.SlR L2.PO in
theorem ok_goal {f : Addr} {fd : FuncData} (B : Blt mg) (c_inside : Callee P w K mg base "inside" 2 ["net", "answers", "thing"] (sp_inside K)) (F : Fun K "goal" "goal" s_goal f fd) : FnOk P w K mg base CX0 3 f fd ["net", "answers", "step"] (sp_goal K) := by
  refine F.ok sc_goal (fun vs H Q E h => ?_) (fun cdv A outer s H vs Q E hr h => ?_)
  · obtain ⟨t, S, T, R, A, st, ths, as, p, rfl, _⟩ := h
    rfl
  · obtain ⟨t, S, T, R, A, st, ths, as, p, rfl, hT, hG, hA, ok, hst, hp, q⟩ := h
    refine ⟨_, (pss_cons (ps_asg (pv 2) (pg_tup rfl (pgs_cons (pg_name (i := 3) sc_goal.nd rfl (Or.inl rfl)) (pgs_cons (pg_name (i := 4) sc_goal.nd rfl (Or.inl rfl)) (pgs_cons (pg_name (i := 5) sc_goal.nd rfl (Or.inl rfl)) pgs_nil)))))
      (pss_cons (ps_if (pt_cmpR op_eq (pv 4) pe_str (nomark _)) (pss_one (ps_ret (pe_tup (pa_cons pe_str (pa_cons (pv 5) pa_nil))))) pss_nil)
      (pss_cons (ps_set (i := 6) sc_goal.nd rfl (Or.inl rfl) (pe_ix ix_seq (pv 1) (pv 5) (fun _ _ => rfl)))
      (pss_cons (ps_if (pt_cmp (pc_isN (pv 6))) (pss_one (ps_ret (pe_tup (pa_cons pe_str (pa_cons (pv 5) pa_nil))))) pss_nil)
      (pss_cons (ps_if (pt_cmpR op_eq (pe_ix ix_seq (pv 6) pe_int (fun _ _ => rfl)) pe_str (nomark _)) (pss_one (ps_ret (pe_fn c_inside (hr.mono (by decide)) rfl (pa_cons (pv 0) (pa_cons (pv 1) (pa_cons (pe_ix ix_seq (pv 6) pe_int (fun _ _ => rfl)) pa_nil)))))) pss_nil)
      (pss_one (ps_ret (pe_tup (pa_cons pe_str (pa_cons pe_int pa_nil)))))))))), ?_⟩
    refine ⟨_, rfl, st, _, rfl, hst, rfl, _, _, rfl, _, _, rfl, _, _, rfl, rfl, ?_⟩
    refine ⟨_, rfl, rfl, _, rfl, ite2 (fun h => ?_) (fun h => ?_)⟩
    · have h1 : p.2.1 = ("to" : Str) := V.str.inj (of_decide_eq_true h)
      refine ⟨_, rfl, two_le, fun r hr => ?_⟩
      rw [goalV_to h1] at q
      exact q r _ hr (same_new hr) upd_same
    have h1 : p.2.1 ≠ ("to" : Str) := fun z => h (decide_eq_true (by rw [z]))
    obtain ⟨p0, p1⟩ := hp h1
    obtain ⟨n, hn⟩ := Int.eq_ofNat_of_zero_le p0
    obtain ⟨vs, v, hA1, hv, hc⟩ := hA.get (k := n) (by omega)
    have hatn : atI vs p.2.2 = some v := by rw [hn]; exact atI_nat hv
    refine ⟨_, rfl, _, rfl, Or.inl ⟨A, vs, _, v, rfl, rfl, hA1, hatn, ?_⟩⟩
    refine g_in ?_
    try dsimp only
    rcases hc with ⟨e1, rfl⟩ | ⟨pa, ta, e1, rfl, hta⟩
    · refine ⟨_, rfl, _, rfl, ite2 (fun _ => ?_) (fun h => absurd (decide_eq_true rfl) h)⟩
      refine ⟨_, rfl, two_le, fun r hr => ?_⟩
      rw [goalV_open h1 hn e1] at q
      exact q r _ hr (same_new hr) upd_same
    refine ⟨_, rfl, _, rfl, ite2 (fun h => absurd (of_decide_eq_true h) (by simp)) (fun _ => ?_)⟩
    refine ⟨_, rfl, Or.inr (Or.inl ⟨ta, _, _, .str pa.1, rfl, rfl, hta, rfl, rfl, _, rfl, ite2 (fun h => ?_) (fun h => ?_)⟩)⟩
    · have hpa : pa.1 = ("thing" : Str) := V.str.inj (of_decide_eq_true h)
      obtain ⟨q0, q1⟩ := ok.t pa (List.mem_of_getElem? e1) hpa
      obtain ⟨m, hm⟩ := Int.eq_ofNat_of_zero_le q0
      have hkk := List.getElem?_eq_getElem (show m < ths.length by omega)
      rw [goalV_in h1 hn e1 hpa hm hkk] at q
      exact ⟨_, rfl, _, rfl, _, rfl, Or.inr (Or.inl ⟨ta, _, _, .int pa.2, rfl, rfl, hta, rfl, t, S, T, R, A, ths, as, pa.2, m, _, rfl, hm, hkk, hT, hG, hA, ok, q⟩)⟩
    · have hpa : pa.1 ≠ ("thing" : Str) := fun z => h (decide_eq_true (by rw [z]))
      refine ⟨two_le, fun r hr => ?_⟩
      rw [goalV_no h1 hn e1 hpa] at q
      exact q r _ hr (same_new hr) upd_same
theorem call_goal {f : Addr} {fd : FuncData} (B : Blt mg) (c_inside : Callee P w K mg base "inside" 2 ["net", "answers", "thing"] (sp_inside K)) (F : Fun K "goal" "goal" s_goal f fd) (hm : mg "goal" = some (.ref f)) : Callee P w K mg base "goal" 3 ["net", "answers", "step"] (sp_goal K) :=
  ⟨f, fd, ok_goal B c_inside F, hm, F.kp, F.binds fun _ _ _ _ _ _ us hl => (by obtain ⟨x0, x1, x2, rfl⟩ := len_3 hl; rfl)⟩

def sp__law_inside (K : PySem.W.Frag) : Sp := fun vs H Q _ => ∃ (t S T R A : Addr) (ths : List (Str × Int)) (as : List (Option (Str × Int))) (n : Int) (k : Nat) (p : Str × Int), vs = [.ref t, .ref A, .int n] ∧ n = k ∧ ths[k]? = some p ∧ SqT K H t [.ref S, .ref T, .ref R] ∧ Goes K H T ths ∧ Ans K H A as ∧ NetOk ths as ∧
  ∀ (r : Addr) (H' : Hp), H r = none → Same H H' → H' r = some (.tup [.str (insideV ths as p).1, .int (insideV ths as p).2]) → Q (.ref r) H'
set_option maxHeartbeats 4000000 in
seal L2.PE L2.PA L2.PS L2.PSs L2.PT L2.PW L2.PC L2.PG L2.PGs L2.PI L2.PF L2.PSet L2.OpR L2.UnR L2.CallR L2.MtR L2.IxR L2.SlR L2.PO in
theorem ok__law_inside {f : Addr} {fd : FuncData} (B : Blt mg)  (F : Fun K "_law_inside" "_law_inside" s__law_inside f fd) : FnOk P w K mg base CX0 1 f fd ["_law_net", "_law_answers_here", "_law_number"] (sp__law_inside K) := by
  refine F.ok sc__law_inside (fun vs H Q E h => ?_) (fun cdv A outer s H vs Q E hr h => ?_)
  · obtain ⟨t, S, T, R, A, ths, as, n, k, p, rfl, _⟩ := h
    rfl
  · obtain ⟨t, S, T, R, A, ths, as, n, k, p, rfl, rfl, hp, hT, hG, hA, ok, q⟩ := h
    obtain ⟨tv, th, hT1, hth, sth⟩ := hG.get hp
    refine ⟨_, (pss_cons (ps_set (i := 3) sc__law_inside.nd rfl (Or.inl rfl) (pe_ix ix_seq (pe_ix ix_seq (pv 0) pe_int (fun _ _ => rfl)) (pv 2) (fun _ _ => rfl)))
      (pss_cons (ps_if (pt_cmpR op_eq (pe_ix ix_seq (pv 3) pe_int (fun _ _ => rfl)) pe_str (nomark _)) (pss_one (ps_ret (pe_tup (pa_cons pe_str (pa_cons (pe_ix ix_seq (pv 3) pe_int (fun _ _ => rfl)) pa_nil))))) pss_nil)
      (pss_cons (ps_if (pt_cmpR op_eq (pe_ix ix_seq (pv 3) pe_int (fun _ _ => rfl)) pe_str (nomark _)) (pss_cons (ps_set (i := 4) sc__law_inside.nd rfl (Or.inl rfl) (pe_ix ix_seq (pv 1) (pe_ix ix_seq (pv 3) pe_int (fun _ _ => rfl)) (fun _ _ => rfl)))
        (pss_cons (ps_if (pt_cmp (pc_isN (pv 4))) (pss_one (ps_ret (pe_tup (pa_cons pe_str (pa_cons (pe_ix ix_seq (pv 3) pe_int (fun _ _ => rfl)) pa_nil))))) pss_nil)
        (pss_one (ps_if (PW.pt (pw_and (pt_cmpR op_eq (pe_ix ix_seq (pv 4) pe_int (fun _ _ => rfl)) pe_str (nomark _)) (pw_and1 (pt_cmpR op_eq (pe_ix ix_seq (pe_ix ix_seq (pe_ix ix_seq (pv 0) pe_int (fun _ _ => rfl)) (pe_ix ix_seq (pv 4) pe_int (fun _ _ => rfl)) (fun _ _ => rfl)) pe_int (fun _ _ => rfl)) pe_str (nomark _))))) (pss_one (ps_ret (pe_tup (pa_cons pe_str (pa_cons (pe_ix ix_seq (pe_ix ix_seq (pe_ix ix_seq (pv 0) pe_int (fun _ _ => rfl)) (pe_ix ix_seq (pv 4) pe_int (fun _ _ => rfl)) (fun _ _ => rfl)) pe_int (fun _ _ => rfl)) pa_nil))))) pss_nil)))) pss_nil)
      (pss_one (ps_ret (pe_tup (pa_cons pe_str (pa_cons pe_int pa_nil)))))))), ?_⟩
    refine ⟨_, rfl, Or.inr (Or.inl ⟨t, _, _, .ref T, rfl, rfl, hT, rfl, _, rfl, Or.inl ⟨T, tv, _, .ref th, rfl, rfl, hT1, atI_nat hth, ?_⟩⟩)⟩
    refine g_in ?_
    try dsimp only
    refine ⟨_, rfl, Or.inr (Or.inl ⟨th, _, _, .str p.1, rfl, rfl, sth, rfl, rfl, _, rfl, ite2 (fun h => ?_) (fun h => ?_)⟩)⟩
    · have h1 : p.1 = ("part" : Str) := V.str.inj (of_decide_eq_true h)
      refine ⟨_, rfl, Or.inr (Or.inl ⟨th, _, _, .int p.2, rfl, rfl, sth, rfl, two_le, fun r hr => ?_⟩)⟩
      rw [show insideV ths as p = (("to" : Str), p.2) from if_pos h1] at q
      exact q r _ hr (same_new hr) upd_same
    have h1 : p.1 ≠ ("part" : Str) := fun z => h (decide_eq_true (by rw [z]))
    refine ⟨_, rfl, Or.inr (Or.inl ⟨th, _, _, .str p.1, rfl, rfl, sth, rfl, rfl, _, rfl, ite2 (fun h => ?_) (fun h => ?_)⟩)⟩
    rotate_left
    · have h2 : p.1 ≠ ("sort" : Str) := fun z => h (decide_eq_true (by rw [z]))
      refine ⟨two_le, fun r hr => ?_⟩
      rw [show insideV ths as p = (("no" : Str), 0) from (if_neg h1).trans (if_neg h2)] at q
      exact q r _ hr (same_new hr) upd_same
    have h2 : p.1 = ("sort" : Str) := V.str.inj (of_decide_eq_true h)
    obtain ⟨p0, p1⟩ := ok.q p (List.mem_of_getElem? hp) h2
    obtain ⟨n, hn⟩ := Int.eq_ofNat_of_zero_le p0
    rw [show insideV ths as p = sortV ths as p.2 from (if_neg h1).trans (if_pos h2)] at q
    obtain ⟨vs, v, hA1, hv, hc⟩ := hA.get (k := n) (by omega)
    have hatn : atI vs p.2 = some v := by rw [hn]; exact atI_nat hv
    refine ⟨_, rfl, _, rfl, Or.inr (Or.inl ⟨th, _, _, .int p.2, rfl, rfl, sth, rfl, Or.inl ⟨A, vs, _, v, rfl, rfl, hA1, hatn, ?_⟩⟩)⟩
    refine g_in ?_
    try dsimp only
    rw [hn] at q
    rcases hc with ⟨e1, rfl⟩ | ⟨pa, ta, e1, rfl, hta⟩
    · refine ⟨_, rfl, _, rfl, ite2 (fun _ => ?_) (fun h => absurd (decide_eq_true rfl) h)⟩
      refine ⟨_, rfl, Or.inr (Or.inl ⟨th, _, _, .int p.2, rfl, rfl, sth, rfl, two_le, fun r hr => ?_⟩)⟩
      rw [sortV_open e1] at q
      rw [hn]
      exact q r _ hr (same_new hr) upd_same
    refine ⟨_, rfl, _, rfl, ite2 (fun h => absurd (of_decide_eq_true h) (by simp)) (fun _ => ?_)⟩
    refine ⟨_, rfl, Or.inr (Or.inl ⟨ta, _, _, .str pa.1, rfl, rfl, hta, rfl, rfl, _, rfl, ite2 (fun h => ?_) (fun h => iteF ?_)⟩)⟩
    · have hpa : pa.1 = ("thing" : Str) := V.str.inj (of_decide_eq_true h)
      obtain ⟨q0, q1⟩ := ok.t pa (List.mem_of_getElem? e1) hpa
      obtain ⟨m, hm⟩ := Int.eq_ofNat_of_zero_le q0
      have hml : m < ths.length := by omega
      have hkk := List.getElem?_eq_getElem hml
      obtain ⟨tv2, th2, hT2, hth2, sth2⟩ := hG.get hkk
      have hat2 : atI tv2 pa.2 = some (.ref th2) := by rw [hm]; exact atI_nat hth2
      refine ⟨_, rfl, Or.inr (Or.inl ⟨t, _, _, .ref T, rfl, rfl, hT, rfl, _, rfl, Or.inr (Or.inl ⟨ta, _, _, .int pa.2, rfl, rfl, hta, rfl, Or.inl ⟨T, tv2, _, .ref th2, rfl, rfl, hT2, hat2, Or.inr (Or.inl ⟨th2, _, _, .str ths[m].1, rfl, rfl, sth2, rfl, rfl, _, rfl, ite2 (fun h => ?_) (fun h => ?_)⟩)⟩⟩)⟩)⟩
      · have hk1 : ths[m].1 = ("part" : Str) := V.str.inj (of_decide_eq_true h)
        refine ⟨_, rfl, Or.inr (Or.inl ⟨t, _, _, .ref T, rfl, rfl, hT, rfl, _, rfl, Or.inr (Or.inl ⟨ta, _, _, .int pa.2, rfl, rfl, hta, rfl, Or.inl ⟨T, tv2, _, .ref th2, rfl, rfl, hT2, hat2, Or.inr (Or.inl ⟨th2, _, _, .int ths[m].2, rfl, rfl, sth2, rfl, two_le, fun r hr => ?_⟩)⟩⟩)⟩)⟩
        rw [sortV_part e1 hpa hm hkk hk1] at q
        exact q r _ hr (same_new hr) upd_same
      · have hk1 : ths[m].1 ≠ ("part" : Str) := fun z => h (decide_eq_true (by rw [z]))
        refine ⟨two_le, fun r hr => ?_⟩
        rw [sortV_none e1 hpa hm hkk hk1] at q
        exact q r _ hr (same_new hr) upd_same
    · have hpa : pa.1 ≠ ("thing" : Str) := fun z => h (decide_eq_true (by rw [z]))
      refine ⟨two_le, fun r hr => ?_⟩
      rw [sortV_no e1 hpa] at q
      exact q r _ hr (same_new hr) upd_same
theorem call__law_inside {f : Addr} {fd : FuncData} (B : Blt mg)  (F : Fun K "_law_inside" "_law_inside" s__law_inside f fd) (hm : mg "_law_inside" = some (.ref f)) : Callee P w K mg base "_law_inside" 1 ["_law_net", "_law_answers_here", "_law_number"] (sp__law_inside K) :=
  ⟨f, fd, ok__law_inside B  F, hm, F.kp, F.binds fun _ _ _ _ _ _ us hl => (by obtain ⟨x0, x1, x2, rfl⟩ := len_3 hl; rfl)⟩

def sp__law_goal (K : PySem.W.Frag) : Sp := fun vs H Q _ => ∃ (t S T R A st : Addr) (ths : List (Str × Int)) (as : List (Option (Str × Int))) (p : Stp), vs = [.ref t, .ref A, .ref st] ∧ SqT K H t [.ref S, .ref T, .ref R] ∧ Goes K H T ths ∧ Ans K H A as ∧ NetOk ths as ∧ SqT K H st (stpV p) ∧ (p.2.1 ≠ ("to" : Str) → 0 ≤ p.2.2 ∧ p.2.2 < as.length) ∧
  ∀ (r : Addr) (H' : Hp), H r = none → Same H H' → H' r = some (.tup [.str (goalV ths as p).1, .int (goalV ths as p).2]) → Q (.ref r) H'
set_option maxHeartbeats 4000000 in
seal L2.PE L2.PA L2.PS L2.PSs L2.PT L2.PW L2.PC L2.PG L2.PGs L2.PI L2.PF L2.PSet L2.OpR L2.UnR L2.CallR L2.MtR L2.IxR L2.SlR L2.PO in
theorem ok__law_goal {f : Addr} {fd : FuncData} (B : Blt mg) (c__law_inside : Callee P w K mg base "_law_inside" 1 ["_law_net", "_law_answers_here", "_law_number"] (sp__law_inside K)) (F : Fun K "_law_goal" "_law_goal" s__law_goal f fd) : FnOk P w K mg base CX0 2 f fd ["_law_net", "_law_answers_here", "_law_step"] (sp__law_goal K) := by
  refine F.ok sc__law_goal (fun vs H Q E h => ?_) (fun cdv A outer s H vs Q E hr h => ?_)
  · obtain ⟨t, S, T, R, A, st, ths, as, p, rfl, _⟩ := h
    rfl
  · obtain ⟨t, S, T, R, A, st, ths, as, p, rfl, hT, hG, hA, ok, hst, hp, q⟩ := h
    refine ⟨_, (pss_cons (ps_if (pt_cmpR op_eq (pe_ix ix_seq (pv 2) pe_int (fun _ _ => rfl)) pe_str (nomark _)) (pss_one (ps_ret (pe_tup (pa_cons pe_str (pa_cons (pe_ix ix_seq (pv 2) pe_int (fun _ _ => rfl)) pa_nil))))) pss_nil)
      (pss_cons (ps_set (i := 3) sc__law_goal.nd rfl (Or.inl rfl) (pe_ix ix_seq (pv 1) (pe_ix ix_seq (pv 2) pe_int (fun _ _ => rfl)) (fun _ _ => rfl)))
      (pss_cons (ps_if (pt_cmp (pc_isN (pv 3))) (pss_one (ps_ret (pe_tup (pa_cons pe_str (pa_cons (pe_ix ix_seq (pv 2) pe_int (fun _ _ => rfl)) pa_nil))))) pss_nil)
      (pss_cons (ps_if (pt_cmpR op_eq (pe_ix ix_seq (pv 3) pe_int (fun _ _ => rfl)) pe_str (nomark _)) (pss_one (ps_ret (pe_fn c__law_inside (hr.mono (by decide)) rfl (pa_cons (pv 0) (pa_cons (pv 1) (pa_cons (pe_ix ix_seq (pv 3) pe_int (fun _ _ => rfl)) pa_nil)))))) pss_nil)
      (pss_one (ps_ret (pe_tup (pa_cons pe_str (pa_cons pe_int pa_nil))))))))), ?_⟩
    refine ⟨_, rfl, Or.inr (Or.inl ⟨st, _, _, .str p.2.1, rfl, rfl, hst, rfl, rfl, _, rfl, ite2 (fun h => ?_) (fun h => ?_)⟩)⟩
    · have h1 : p.2.1 = ("to" : Str) := V.str.inj (of_decide_eq_true h)
      refine ⟨_, rfl, Or.inr (Or.inl ⟨st, _, _, .int p.2.2, rfl, rfl, hst, rfl, two_le, fun r hr => ?_⟩)⟩
      rw [goalV_to h1] at q
      exact q r _ hr (same_new hr) upd_same
    have h1 : p.2.1 ≠ ("to" : Str) := fun z => h (decide_eq_true (by rw [z]))
    obtain ⟨p0, p1⟩ := hp h1
    obtain ⟨n, hn⟩ := Int.eq_ofNat_of_zero_le p0
    obtain ⟨vs, v, hA1, hv, hc⟩ := hA.get (k := n) (by omega)
    have hatn : atI vs p.2.2 = some v := by rw [hn]; exact atI_nat hv
    refine ⟨_, rfl, _, rfl, Or.inr (Or.inl ⟨st, _, _, .int p.2.2, rfl, rfl, hst, rfl, Or.inl ⟨A, vs, _, v, rfl, rfl, hA1, hatn, ?_⟩⟩)⟩
    refine g_in ?_
    try dsimp only
    rcases hc with ⟨e1, rfl⟩ | ⟨pa, ta, e1, rfl, hta⟩
    · refine ⟨_, rfl, _, rfl, ite2 (fun _ => ?_) (fun h => absurd (decide_eq_true rfl) h)⟩
      refine ⟨_, rfl, Or.inr (Or.inl ⟨st, _, _, .int p.2.2, rfl, rfl, hst, rfl, two_le, fun r hr => ?_⟩)⟩
      rw [goalV_open h1 hn e1] at q
      exact q r _ hr (same_new hr) upd_same
    refine ⟨_, rfl, _, rfl, ite2 (fun h => absurd (of_decide_eq_true h) (by simp)) (fun _ => ?_)⟩
    refine ⟨_, rfl, Or.inr (Or.inl ⟨ta, _, _, .str pa.1, rfl, rfl, hta, rfl, rfl, _, rfl, ite2 (fun h => ?_) (fun h => ?_)⟩)⟩
    · have hpa : pa.1 = ("thing" : Str) := V.str.inj (of_decide_eq_true h)
      obtain ⟨q0, q1⟩ := ok.t pa (List.mem_of_getElem? e1) hpa
      obtain ⟨m, hm⟩ := Int.eq_ofNat_of_zero_le q0
      have hkk := List.getElem?_eq_getElem (show m < ths.length by omega)
      rw [goalV_in h1 hn e1 hpa hm hkk] at q
      exact ⟨_, rfl, _, rfl, _, rfl, Or.inr (Or.inl ⟨ta, _, _, .int pa.2, rfl, rfl, hta, rfl, t, S, T, R, A, ths, as, pa.2, m, _, rfl, hm, hkk, hT, hG, hA, ok, q⟩)⟩
    · have hpa : pa.1 ≠ ("thing" : Str) := fun z => h (decide_eq_true (by rw [z]))
      refine ⟨two_le, fun r hr => ?_⟩
      rw [goalV_no h1 hn e1 hpa] at q
      exact q r _ hr (same_new hr) upd_same
theorem call__law_goal {f : Addr} {fd : FuncData} (B : Blt mg) (c__law_inside : Callee P w K mg base "_law_inside" 1 ["_law_net", "_law_answers_here", "_law_number"] (sp__law_inside K)) (F : Fun K "_law_goal" "_law_goal" s__law_goal f fd) (hm : mg "_law_goal" = some (.ref f)) : Callee P w K mg base "_law_goal" 2 ["_law_net", "_law_answers_here", "_law_step"] (sp__law_goal K) :=
  ⟨f, fd, ok__law_goal B c__law_inside F, hm, F.kp, F.binds fun _ _ _ _ _ _ us hl => (by obtain ⟨x0, x1, x2, rfl⟩ := len_3 hl; rfl)⟩

def sp__law_all_told (K : PySem.W.Frag) : Sp := fun vs H Q _ => ∃ (t S T R A B : Addr) (us Gs Es : List Addr) (ss : List Sco) (ths : List (Str × Int)) (as : List (Option (Str × Int))), vs = [.ref t, .ref A, .ref B] ∧ SqT K H t [.ref S, .ref T, .ref R] ∧ Scs H S us Gs Es ss ∧ Goes K H T ths ∧ Ans K H A as ∧ Ans K H B as ∧ NetOk ths as ∧ (∀ s ∈ ss, ∀ p ∈ s.1, p.2.1 ≠ ("to" : Str) → 0 ≤ p.2.2 ∧ p.2.2 < as.length) ∧
  ∀ (H' : Hp), Same H H' → Q (.bl true) H'
set_option maxHeartbeats 4000000 in
seal L2.PE L2.PA L2.PS L2.PSs L2.PT L2.PW L2.PC L2.PG L2.PGs L2.PI L2.PF L2.PSet L2.OpR L2.UnR L2.CallR L2.MtR L2.IxR L2.SlR L2.PO in
theorem ok__law_all_told {f : Addr} {fd : FuncData} (B : Blt mg) (c__law_told : Callee P w K mg base "_law_told" 2 ["_law_found", "_law_due"] (sp__law_told K)) (c_goal : Callee P w K mg base "goal" 3 ["net", "answers", "step"] (sp_goal K)) (c__law_goal : Callee P w K mg base "_law_goal" 2 ["_law_net", "_law_answers_here", "_law_step"] (sp__law_goal K)) (F : Fun K "_law_all_told" "_law_all_told" s__law_all_told f fd) : FnOk P w K mg base CX0 4 f fd ["_law_net", "_law_answers_here", "_law_held"] (sp__law_all_told K) := by
  refine F.ok sc__law_all_told (fun vs H Q E h => ?_) (fun cdv A outer s H vs Q E hr h => ?_)
  · obtain ⟨t, S, T, R, A, B, us, Gs, Es, ss, ths, as, rfl, _⟩ := h
    rfl
  · obtain ⟨t, S, T, R, A, B', us, Gs, Es, ss, ths, as, rfl, hT, hS, hG, hA, hB, ok, hp, q⟩ := h
    refine ⟨_, (pss_cons (ps_for PassesOwn.never rfl (pi_list (pe_ix ix_seq (pv 0) pe_int (fun _ _ => rfl))) (pg_tup rfl (pgs_cons (pg_name (i := 3) sc__law_all_told.nd rfl (Or.inl rfl)) (pgs_cons (pg_name (i := 4) sc__law_all_told.nd rfl (Or.inl rfl)) pgs_nil))) (pss_one (ps_for PassesOwn.never rfl (pi_list (pv 3)) (pg_name (i := 5) sc__law_all_told.nd rfl (Or.inl rfl)) (pss_one (ps_if (pt_not (pt_val (pe_fn c__law_told (hr.mono (by decide)) rfl (pa_cons (pe_fn c_goal (hr.mono (by decide)) rfl (pa_cons (pv 0) (pa_cons (pv 1) (pa_cons (pv 5) pa_nil)))) (pa_cons (pe_fn c__law_goal (hr.mono (by decide)) rfl (pa_cons (pv 0) (pa_cons (pv 2) (pa_cons (pv 5) pa_nil)))) pa_nil))))) (pss_one (ps_ret pe_bl)) pss_nil)))))
      (pss_one (ps_ret pe_bl))), ?_⟩
    refine ⟨_, rfl, Or.inr (Or.inl ⟨t, _, _, .ref S, rfl, rfl, hT, rfl, S, rfl, ⟨_, SqL.of hS.top⟩, for_list (xs := us.map V.ref) (fun i σ H' => ∃ u3 u4 u5, σ = [some (.ref t), some (.ref A), some (.ref B'), u3, u4, u5] ∧ Same H H') ⟨none, none, none, rfl, Same.refl _⟩ (fun i σ H' _ ⟨_, _, _, _, s⟩ => SqL.of (s _ _ hS.top)) ?_ ?_⟩)⟩
    rotate_left
    · rintro σ H2 ⟨u3, u4, u5, rfl, s2⟩
      exact q _ s2
    rintro i x σ H2 hx ⟨u3, u4, u5, rfl, s2⟩
    rw [List.getElem?_map] at hx
    obtain ⟨u, hu, rfl⟩ := Option.map_eq_some_iff.mp hx
    have hil : i < ss.length := by rw [← hS.lu]; exact (List.getElem?_eq_some_iff.mp hu).1
    obtain ⟨u', G, E1, g1, g2, g3, g4, g5⟩ := hS.get hil
    rw [hu] at g1; cases g1
    obtain ⟨a1, ⟨ts, b1, b2⟩, ⟨es, c1, c2⟩⟩ := g5
    refine ⟨u, _, rfl, SqT.of (s2 _ _ a1), rfl, _, _, rfl, _, _, rfl, rfl, ?_⟩
    refine ⟨_, rfl, G, rfl, ⟨_, SqL.of (s2 _ _ b1)⟩, for_list (xs := ts.map V.ref) (fun j σ H' => ∃ u5, σ = [some (.ref t), some (.ref A), some (.ref B'), some (.ref G), some (.ref E1), u5] ∧ Same H H') ⟨_, rfl, s2⟩ (fun i σ H' _ ⟨_, _, s⟩ => SqL.of (s _ _ b1)) ?_ ?_⟩
    rotate_left
    · rintro σ H3 ⟨u5, rfl, s3⟩
      exact ⟨_, _, _, rfl, s3⟩
    rintro j y σ H3 hy ⟨u5, rfl, s3⟩
    rw [List.getElem?_map] at hy
    obtain ⟨st, hst, rfl⟩ := Option.map_eq_some_iff.mp hy
    have hjl : j < ss[i].1.length := by rw [← b2.len]; exact (List.getElem?_eq_some_iff.mp hst).1
    have hpj := List.getElem?_eq_getElem hjl
    have est := b2.at_ j st _ hst hpj
    have hpp := hp _ (List.getElem_mem hil) _ (List.getElem_mem hjl)
    refine ⟨_, rfl, _, rfl, _, rfl, t, S, T, R, A, st, ths, as, ss[i].1[j], rfl, s3.seqT hT, hG.same s3, hA.same s3, ok, SqT.of (s3 _ _ est), hpp, fun r1 H4 hr1 s4 er1 => ?_⟩
    have s34 := s3.trans s4
    refine ⟨_, rfl, _, rfl, _, rfl, t, S, T, R, B', st, ths, as, ss[i].1[j], rfl, s34.seqT hT, hG.same s34, hB.same s34, ok, SqT.of (s34 _ _ est), hpp, fun r2 H5 hr2 s5 er2 => ?_⟩
    exact ⟨r1, r2, goalV ths as ss[i].1[j], rfl, SqT.of (s5 _ _ er1), SqT.of er2, _, rfl, iteF ⟨_, rfl, s34.trans s5⟩⟩
theorem call__law_all_told {f : Addr} {fd : FuncData} (B : Blt mg) (c__law_told : Callee P w K mg base "_law_told" 2 ["_law_found", "_law_due"] (sp__law_told K)) (c_goal : Callee P w K mg base "goal" 3 ["net", "answers", "step"] (sp_goal K)) (c__law_goal : Callee P w K mg base "_law_goal" 2 ["_law_net", "_law_answers_here", "_law_step"] (sp__law_goal K)) (F : Fun K "_law_all_told" "_law_all_told" s__law_all_told f fd) (hm : mg "_law_all_told" = some (.ref f)) : Callee P w K mg base "_law_all_told" 4 ["_law_net", "_law_answers_here", "_law_held"] (sp__law_all_told K) :=
  ⟨f, fd, ok__law_all_told B c__law_told c_goal c__law_goal F, hm, F.kp, F.binds fun _ _ _ _ _ _ us hl => (by obtain ⟨x0, x1, x2, rfl⟩ := len_3 hl; rfl)⟩
theorem cells_cut (ns : List Int) : cutV (ns.map V.int) (some 4) none = (ns.drop 4).map V.int := by
  rw [show cutV (ns.map V.int) (some 4) none = (ns.map V.int).drop 4 from cutV_drop _ 4, ← List.map_drop]
theorem cmp_sco (s r : Sco) : Cmp 4 (scoD s) (scoD r) := by
  refine .tup (.cons (.lst (Cmps.of fun d hd e he => ?_)) (.cons (.lst (Cmps.of fun d hd e he => ?_)) (.nil _)))
  · obtain ⟨p, _, rfl⟩ := List.mem_map.mp hd
    obtain ⟨q, _, rfl⟩ := List.mem_map.mp he
    exact .tup (.cons (.str _ _) (.cons (.str _ _) (.cons (.int _ _) (.nil _))))
  · obtain ⟨p, _, rfl⟩ := List.mem_map.mp hd
    obtain ⟨q, _, rfl⟩ := List.mem_map.mp he
    exact .tup (.cons (.str _ _) (.cons (.str _ _) (.cons (.str _ _) (.cons (.int _ _) (.nil _)))))
theorem cmp_ans (x y : Option (Str × Int)) : Cmp 2 (ansD x) (ansD y) := by
  cases x with
  | none => cases y with
    | none => exact .non
    | some q => exact .apart rfl
  | some p => cases y with
    | none => exact .apart rfl
    | some q => exact cmp_go p q
theorem cmp_anss (l m : List (Option (Str × Int))) : Cmp 3 (Dt.lst (l.map ansD)) (Dt.lst (m.map ansD)) := .lst (Cmps.of fun d hd e he => by
  obtain ⟨q1, _, rfl⟩ := List.mem_map.mp hd
  obtain ⟨q2, _, rfl⟩ := List.mem_map.mp he
  exact cmp_ans q1 q2)
abbrev netD (ss : List Sco) (gs : List (Str × Int)) (qs : List Qu) : Dt := .tup [.lst (ss.map scoD), .lst (gs.map goD), .lst (qs.map quD)]
theorem cmp_net (ss : List Sco) (gs : List (Str × Int)) (qs : List Qu) : Cmp 6 (netD ss gs qs) (netD ss gs qs) := by
  refine .tup (.cons (.lst (Cmps.of fun d hd e he => ?_)) (.cons (.lst (Cmps.of fun d hd e he => ?_)) (.cons (.lst (Cmps.of fun d hd e he => ?_)) (.nil _))))
  · obtain ⟨p, _, rfl⟩ := List.mem_map.mp hd
    obtain ⟨q, _, rfl⟩ := List.mem_map.mp he
    exact cmp_sco p q
  · obtain ⟨p, _, rfl⟩ := List.mem_map.mp hd
    obtain ⟨q, _, rfl⟩ := List.mem_map.mp he
    exact .tup (.cons (.str _ _) (.cons (.int _ _) (.nil _)))
  · obtain ⟨p, _, rfl⟩ := List.mem_map.mp hd
    obtain ⟨q, _, rfl⟩ := List.mem_map.mp he
    refine .tup (.cons (.int _ _) (.cons (.int _ _) (.cons (.tup (Cmps.of fun d hd e he => ?_)) (.nil _))))
    obtain ⟨p, _, rfl⟩ := List.mem_map.mp hd
    obtain ⟨q, _, rfl⟩ := List.mem_map.mp he
    exact .str _ _
theorem set_none {us : List V} {i : Nat} (h : i < us.length) : (List.replicate i V.non ++ us.drop i).set i V.non = List.replicate (i + 1) V.non ++ us.drop (i + 1) := by
  rw [List.replicate_succ', List.append_assoc, List.set_append_right (h := by rw [List.length_replicate]; exact Nat.le_refl _), List.length_replicate, Nat.sub_self, List.drop_eq_getElem_cons h, List.set_cons_zero]
  rfl
theorem nons_dts {K : PySem.W.Frag} {H : Hp} : ∀ (n : Nat), IsDts K H (List.replicate n V.non) ((List.replicate n (none : Option (Str × Int))).map ansD)
  | 0 => .nil
  | n + 1 => .cons .non (nons_dts n)
abbrev rListOf (K : PySem.W.Frag) : List V → Hp → VK → Prop := fun xs H Q => ∃ p ys, xs = [V.ref p] ∧ (SqL K H p ys ∨ SqT K H p ys) ∧ ∀ l, H l = none → Q (V.ref l) (upd H l (HO.lst ys))

def sp_law (K : PySem.W.Frag) : Sp := fun vs H Q _ => ∃ (a : Addr) (ns : List Int), vs = [.ref a] ∧ SqL K H a (ns.map V.int) ∧ ns.length ≤ 63 ∧ ∀ H', Q (.bl true) H'
set_option maxHeartbeats 4000000 in
seal L2.PE L2.PA L2.PS L2.PSs L2.PT L2.PW L2.PC L2.PG L2.PGs L2.PI L2.PF L2.PSet L2.OpR L2.UnR L2.CallR L2.MtR L2.IxR L2.SlR L2.PO in
theorem ok_law {f : Addr} {fd : FuncData} (B : Blt mg) (c__law_words : Callee P w K mg base "_law_words" 1 ["_law_cell", "_law_many"] (sp__law_words K)) (c__law_cell_at : Callee P w K mg base "_law_cell_at" 1 ["_law_script", "_law_k"] (sp__law_cell_at K)) (c__law_questions : Callee P w K mg base "_law_questions" 1 ["_law_words_here", "_law_many", "_law_scopes"] (sp__law_questions K)) (c__law_things : Callee P w K mg base "_law_things" 1 ["_law_cell", "_law_many", "_law_scopes", "_law_questions_here"] (sp__law_things K)) (c__law_lay_step : Callee P w K mg base "_law_lay_step" 1 ["_law_scopes", "_law_words_here", "_law_cell", "_law_questions_here"] (sp__law_lay_step K)) (c__law_answers : Callee P w K mg base "_law_answers" 1 ["_law_cell", "_law_questions_here", "_law_things_here"] (sp__law_answers K)) (c__law_all_told : Callee P w K mg base "_law_all_told" 4 ["_law_net", "_law_answers_here", "_law_held"] (sp__law_all_told K)) (F : Fun K "law" "law" s_law f fd) : FnOk P w K mg base CX0 5 f fd ["_law_script"] (sp_law K) := by
  refine F.ok sc_law (fun vs H Q E h => ?_) (fun cdv A outer s H vs Q E hr h => ?_)
  · obtain ⟨a, ns, rfl, _⟩ := h
    rfl
  · obtain ⟨a, ns, rfl, hS, hlen, kq⟩ := h
    refine ⟨_, (pss_cons (ps_set (i := 1) sc_law.nd rfl (Or.inl rfl) (pe_fn c__law_words (hr.mono (by decide)) rfl (pa_cons (pe_op op_mod (pe_fn c__law_cell_at (hr.mono (by decide)) rfl (pa_cons (pv 0) (pa_cons pe_int pa_nil))) (pe_op op_pow pe_int pe_int)) (pa_cons pe_int pa_nil))))
      (pss_cons (ps_setC (i := 2) sc_law.nd rfl (Or.inl rfl) rfl law_cs1 (pi_range1 rfl B.b_range (pa_cons (pe_op op_add pe_int (pe_op op_mod (pe_fn c__law_cell_at (hr.mono (by decide)) rfl (pa_cons (pv 0) (pa_cons pe_int pa_nil))) pe_int)) pa_nil)) (fun _ _ _ _ _ => (pg_name (i := 0) law_cs1.nd rfl (Or.inl rfl))) (fun _ _ _ _ _ => pf_nil) (fun _ _ _ _ _ => (pe_tup (pa_cons (pe_lst pa_nil) (pa_cons (pe_lst pa_nil) pa_nil)))))
      (pss_cons (ps_set (i := 3) sc_law.nd rfl (Or.inl rfl) (pe_fn c__law_questions (hr.mono (by decide)) rfl (pa_cons (pv 1) (pa_cons (pe_op op_add pe_int (pe_op op_mod (pe_fn c__law_cell_at (hr.mono (by decide)) rfl (pa_cons (pv 0) (pa_cons pe_int pa_nil))) pe_int)) (pa_cons (pe_callB call_len (by rfl) B.b_len (by decide +kernel) (pa_cons (pv 2) pa_nil)) pa_nil)))))
      (pss_cons (ps_set (i := 4) sc_law.nd rfl (Or.inl rfl) (pe_fn c__law_things (hr.mono (by decide)) rfl (pa_cons (pe_fn c__law_cell_at (hr.mono (by decide)) rfl (pa_cons (pv 0) (pa_cons pe_int pa_nil))) (pa_cons (pe_op op_add pe_int (pe_op op_mod (pe_op op_fdiv (pe_fn c__law_cell_at (hr.mono (by decide)) rfl (pa_cons (pv 0) (pa_cons pe_int pa_nil))) pe_int) pe_int)) (pa_cons (pe_callB call_len (by rfl) B.b_len (by decide +kernel) (pa_cons (pv 2) pa_nil)) (pa_cons (pe_callB call_len (by rfl) B.b_len (by decide +kernel) (pa_cons (pv 3) pa_nil)) pa_nil))))))
      (pss_cons (ps_for PassesOwn.never rfl (pi_list (pe_slice sl_list (pv 0) (po_some pe_int) po_none)) (pg_name (i := 5) sc_law.nd rfl (Or.inl rfl)) (pss_one (ps_expr (pe_fn c__law_lay_step (hr.mono (by decide)) rfl (pa_cons (pv 2) (pa_cons (pv 1) (pa_cons (pv 5) (pa_cons (pe_callB call_len (by rfl) B.b_len (by decide +kernel) (pa_cons (pv 3) pa_nil)) pa_nil))))))))
      (pss_cons (ps_expr (pe_fn c__law_lay_step (hr.mono (by decide)) rfl (pa_cons (pv 2) (pa_cons (pv 1) (pa_cons (pe_op op_fdiv (pe_fn c__law_cell_at (hr.mono (by decide)) rfl (pa_cons (pv 0) (pa_cons pe_int pa_nil))) pe_int) (pa_cons (pe_callB call_len (by rfl) B.b_len (by decide +kernel) (pa_cons (pv 3) pa_nil)) pa_nil))))))
      (pss_cons (ps_set (i := 6) sc_law.nd rfl (Or.inl rfl) (pe_tup (pa_cons (pv 2) (pa_cons (pv 4) (pa_cons (pv 3) pa_nil)))))
      (pss_cons (ps_set (i := 7) sc_law.nd rfl (Or.inl rfl) (pe_tup (pa_cons (pe_comp (g := gTup K 2 (gCons (gName 0) (gCons (gName 1) gNil))) (te := tTup (tCons (tCB (rListOf K) (tCons (tVar 0) tNil)) (tCons (tCB (rListOf K) (tCons (tVar 1) tNil)) tNil))) rfl law_cs2 (pi_list (pv 2)) (fun _ _ _ _ _ => (pg_tup rfl (pgs_cons (pg_name (i := 0) law_cs2.nd rfl (Or.inl rfl)) (pgs_cons (pg_name (i := 1) law_cs2.nd rfl (Or.inl rfl)) pgs_nil)))) (fun _ _ _ _ _ => pf_nil) (fun _ _ _ _ _ => (pe_tup (pa_cons (pe_callTy call_list_of (by rfl) B.b_list (by decide +kernel) (pa_cons (pv 0) pa_nil)) (pa_cons (pe_callTy call_list_of (by rfl) B.b_list (by decide +kernel) (pa_cons (pv 1) pa_nil)) pa_nil))))) (pa_cons (pe_callTy call_list_of (by rfl) B.b_list (by decide +kernel) (pa_cons (pv 4) pa_nil)) (pa_cons (pe_callTy call_list_of (by rfl) B.b_list (by decide +kernel) (pa_cons (pv 3) pa_nil)) pa_nil)))))
      (pss_cons (ps_set (i := 8) sc_law.nd rfl (Or.inl rfl) (pe_fn c__law_answers (hr.mono (by decide)) rfl (pa_cons (pe_op op_fdiv (pe_fn c__law_cell_at (hr.mono (by decide)) rfl (pa_cons (pv 0) (pa_cons pe_int pa_nil))) pe_int) (pa_cons (pv 3) (pa_cons (pe_callB call_len (by rfl) B.b_len (by decide +kernel) (pa_cons (pv 4) pa_nil)) pa_nil)))))
      (pss_cons (ps_set (i := 9) sc_law.nd rfl (Or.inl rfl) (pe_fn c__law_answers (hr.mono (by decide)) rfl (pa_cons (pe_op op_fdiv (pe_fn c__law_cell_at (hr.mono (by decide)) rfl (pa_cons (pv 0) (pa_cons pe_int pa_nil))) pe_int) (pa_cons (pv 3) (pa_cons (pe_callB call_len (by rfl) B.b_len (by decide +kernel) (pa_cons (pv 4) pa_nil)) pa_nil)))))
      (pss_cons (ps_set (i := 10) sc_law.nd rfl (Or.inl rfl) (pe_lst (pa_cons (pe_callTy call_list_of (by rfl) B.b_list (by decide +kernel) (pa_cons (pv 8) pa_nil)) (pa_cons (pe_callTy call_list_of (by rfl) B.b_list (by decide +kernel) (pa_cons (pv 9) pa_nil)) pa_nil))))
      (pss_cons (ps_if (PW.pt (pw_or (pt_not (pt_val (pe_fn c__law_all_told (hr.mono (by decide)) rfl (pa_cons (pv 6) (pa_cons (pv 8) (pa_cons (pe_ix ix_seq (pv 10) pe_int (fun _ _ => rfl)) pa_nil)))))) (pw_or1 (pt_not (pt_val (pe_fn c__law_all_told (hr.mono (by decide)) rfl (pa_cons (pv 6) (pa_cons (pv 9) (pa_cons (pe_ix ix_seq (pv 10) pe_int (fun _ _ => rfl)) pa_nil))))))))) (pss_one (ps_ret pe_bl)) pss_nil)
      (pss_cons (ps_if (PW.pt (pw_or (pt_not (pt_val (pe_fn c__law_all_told (hr.mono (by decide)) rfl (pa_cons (pv 6) (pa_cons (pv 8) (pa_cons (pe_ix ix_seq (pv 10) pe_int (fun _ _ => rfl)) pa_nil)))))) (pw_or (pt_cmpR (op_neD hr.units) (pv 6) (pv 7) (nomark _)) (pw_or (pt_cmpR (op_neD hr.units) (pv 8) (pe_ix ix_seq (pv 10) pe_int (fun _ _ => rfl)) (nomark _)) (pw_or1 (pt_cmpR (op_neD hr.units) (pv 9) (pe_ix ix_seq (pv 10) pe_int (fun _ _ => rfl)) (nomark _))))))) (pss_one (ps_ret pe_bl)) pss_nil)
      (pss_cons (ps_for PassesOwn.never rfl (pi_range1 rfl B.b_range (pa_cons (pe_callB call_len (by rfl) B.b_len (by decide +kernel) (pa_cons (pv 8) pa_nil)) pa_nil)) (pg_name (i := 11) sc_law.nd rfl (Or.inl rfl)) (pss_one (ps_asg pe_non (pg_sub (pv 8) (pv 11) set_list))))
      (pss_one (ps_ret (pe_and (pe_fn c__law_all_told (hr.mono (by decide)) rfl (pa_cons (pv 6) (pa_cons (pv 8) (pa_cons (pe_comp rfl law_cs3 (pi_list (pv 8)) (fun _ _ _ _ _ => (pg_name (i := 0) law_cs3.nd rfl (Or.inl rfl))) (fun _ _ _ _ _ => pf_nil) (fun _ _ _ _ _ => pe_non)) pa_nil)))) (pe_one (pe_cmpR (op_eqD hr.units) (pv 6) (pv 7) (nomark _)))))))))))))))))))), ?_⟩
    -- the words
    refine ⟨_, rfl, a, ns, 0, rfl, by decide, hS, _, _, rfl, rfl, ⟨by decide, by decide, by decide⟩, _, _, rfl, rfl, (by show (0 : Int) < 10 ^ Int.toNat 9; decide), _, _, rfl, by decide, by decide, fun W ws H1 hwl hW s1 eW => ?_⟩
    have hw9 : ws.length = 9 := hwl
    refine g_in ?_
    try dsimp only
    -- the scopes
    refine ⟨_, rfl, a, ns, 1, rfl, by decide, s1.seq hS, _, _, rfl, rfl, (by show (0 : Int) < 40; decide), _, _, rfl, rfl, _, rfl, ?_⟩
    try dsimp only
    obtain ⟨S0, eS0⟩ : ∃ S0, S0 = 1 + cellAt ns 1 % 40 := ⟨_, rfl⟩
    rw [← eS0]
    have hS0 : 1 ≤ S0 ∧ S0 ≤ 40 := by omega
    refine ⟨by omega, by omega, comp_rangeI (fun D i ys H' => ∃ us Gs Es : List Addr, ys = us.map V.ref ∧ Same H1 H' ∧ Scs H' D us Gs Es (List.replicate i (([], []) : Sco)) ∧ (D :: (Gs ++ Es)).Nodup ∧ ∀ x ∈ Gs ++ Es, H1 x = none)
      (fun D hD => ⟨[], [], [], rfl, same_new hD, Scs.nil upd_same, by simp, fun x hx => by simp at hx⟩) (fun D i ys H5 RR hD hi hv k => ?_) (fun S ys H2 hS2 hv => ?_)⟩
    · obtain ⟨us, Gs, Es, rfl, s5, SC, nd, hfr⟩ := hv
      have lus := SC.lu
      rw [List.length_replicate] at lus
      refine ⟨by decide, fun G hG => ?_⟩
      have t1 := same_new (o := .lst []) hG
      have eG : (upd H5 G (.lst [])) G = some (.lst []) := upd_same
      generalize upd H5 G (.lst []) = H6 at t1 eG ⊢
      refine ⟨by decide, fun E1 hE1 => ?_⟩
      have t2 := same_new (o := .lst []) hE1
      have eE1 : (upd H6 E1 (.lst [])) E1 = some (.lst []) := upd_same
      generalize upd H6 E1 (.lst []) = H7 at t2 eE1 ⊢
      refine ⟨two_le, fun u hu => ?_⟩
      have t3 := same_new (o := .tup [.ref G, .ref E1]) hu
      have eu : (upd H7 u (.tup [.ref G, .ref E1])) u = some (.tup [.ref G, .ref E1]) := upd_same
      generalize upd H7 u (.tup [.ref G, .ref E1]) = H8 at t3 eu ⊢
      have t13 := (t1.trans t2).trans t3
      have t23 := t2.trans t3
      have SC8 := SC.same t13
      have al := SC.alive
      have nG : G ∉ D :: (Gs ++ Es) := fun y => by
        rcases List.mem_cons.mp y with y | y
        · rw [y, SC.top] at hG; cases hG
        · obtain ⟨xs, e⟩ := al G y
          rw [e] at hG; cases hG
      have nE : E1 ∉ D :: (Gs ++ Es) := fun y => by
        rcases List.mem_cons.mp y with y | y
        · rw [y, t1 _ _ SC.top] at hE1; cases hE1
        · obtain ⟨xs, e⟩ := al E1 y
          rw [t1 _ _ e] at hE1; cases hE1
      have nGE : G ≠ E1 := fun y => by rw [← y, eG] at hE1; cases hE1
      have hs8 : ScH H8 u G E1 ([], []) := ⟨eu, ⟨[], t23 _ _ eG, RT.nil⟩, ⟨[], t3 _ _ eE1, RT.nil⟩⟩
      have SC9 := SC8.snoc hs8 (fun z => nG (z ▸ List.mem_cons_self)) (fun z => nE (z ▸ List.mem_cons_self)) (fun x hx z => (List.nodup_cons.mp nd).1 (z ▸ hx))
      refine k _ _ SC8.top (by rw [List.length_map, lus]; exact small1000 (by omega)) ⟨us ++ [u], Gs ++ [G], Es ++ [E1], by rw [List.map_append]; rfl, fun b o e => ?_, ?_, nd_snoc2 nd nG nE nGE, fun x hx => ?_⟩
      · rw [upd_ne (ne_of_none e hD)]; exact t13 _ _ (s5 _ _ e)
      · rw [List.replicate_succ']; exact SC9
      · have : x ∈ Gs ++ Es ∨ x = G ∨ x = E1 := by
          simp only [List.mem_append, List.mem_singleton] at hx ⊢
          rcases hx with (h | h) | (h | h)
          · exact .inl (.inl h)
          · exact .inr (.inl h)
          · exact .inl (.inr h)
          · exact .inr (.inr h)
        rcases this with h | h | h
        · exact hfr x h
        · rw [h]; exact s5.free hG
        · rw [h]; exact (s5.trans t1).free hE1
    obtain ⟨us, Gs, Es, rfl, s2, SC2, nd, hfr⟩ := hv
    have hSn : H1 S = none := hS2
    have lus : us.length = S0.toNat := by rw [SC2.lu, List.length_replicate]
    have s02 := s1.trans s2
    refine g_in ?_
    try dsimp only
    -- the questions
    refine ⟨_, rfl, _, rfl, a, ns, 2, rfl, by decide, s02.seq hS, _, _, rfl, rfl, (by show (0 : Int) < 60; decide), _, _, rfl, rfl, _, rfl, _, _, rfl, Or.inl ⟨_, SqL.of SC2.top, rfl⟩, W, ws, _, _, rfl, SqL.of (s2 _ _ eW), by omega, by omega, by omega, ?_, fun R qt qs H3 hql hq6 hR s3 eR TQ => ?_⟩
    · rw [List.length_map]; omega
    have hq0 : 1 ≤ qs.length ∧ qs.length ≤ 60 := by omega
    refine g_in ?_
    try dsimp only
    have s03 := s02.trans s3
    have SC3 := SC2.same s3
    -- the things
    refine ⟨_, rfl, a, ns, 3, rfl, by decide, s03.seq hS, _, rfl, a, ns, 1, rfl, by decide, s03.seq hS, _, _, rfl, rfl, ⟨by decide, by decide⟩, _, _, rfl, rfl, (by show (0 : Int) < 80; decide), _, _, rfl, rfl, _, rfl, _, _, rfl, Or.inl ⟨_, SqL.of SC3.top, rfl⟩, _, rfl, _, _, rfl, Or.inl ⟨_, SqL.of eR, rfl⟩, _, _, _, _, rfl, by omega, by omega, ?_, ?_, fun T ts gs H4 hgl hok hT s4 eT TG => ?_⟩
    · rw [List.length_map]; omega
    · rw [List.length_map, TQ.len]; omega
    rw [List.length_map, TQ.len] at hok
    have hg0 : 1 ≤ gs.length ∧ gs.length ≤ 80 := by omega
    refine g_in ?_
    try dsimp only
    have s14 := (s2.trans s3).trans s4
    have s24 := s3.trans s4
    have s04 := s03.trans s4
    have SC4 := SC3.same s4
    have eR4 := s4 _ _ eR
    have TQ4 := TQ.same s4
    have eW4 := s14 _ _ eW
    -- the steps
    refine ⟨_, rfl, _, rfl, a, _, rfl, s04.seq hS, fun p0 h0 => ?_⟩
    rw [cells_cut]
    obtain ⟨cells, ecells⟩ : ∃ cells, cells = ns.drop 4 := ⟨_, rfl⟩
    rw [← ecells]
    have s5 := same_new (o := .lst (cells.map V.int)) h0
    have ep : (upd H4 p0 (.lst (cells.map V.int))) p0 = some (.lst (cells.map V.int)) := upd_same
    generalize upd H4 p0 (.lst (cells.map V.int)) = H5 at s5 ep ⊢
    have SC5 := SC4.same s5
    obtain ⟨M, hM⟩ : ∃ M : Addr → Prop, M = fun x => x ∈ Gs := ⟨_, rfl⟩
    have M1 : ∀ x o, H1 x = some o → ¬ M x := fun x o e y => by
      rw [hM] at y
      rw [hfr x (List.mem_append_left _ y)] at e; cases e
    have M2 : ∀ x, H2 x = none → ¬ M x := fun x e y => by
      rw [hM] at y
      obtain ⟨xs, e'⟩ := SC2.alive x (List.mem_append_left _ y)
      rw [e'] at e; cases e
    have MS : ¬ M S := fun y => by
      rw [hM] at y
      exact (List.nodup_cons.mp nd).1 (List.mem_append_left _ y)
    have k5 : Keeps M H5 H5 := Keeps.refl fun x o y e => by
      rw [hM] at y
      obtain ⟨xs, e'⟩ := SC5.alive x (List.mem_append_left _ y)
      rw [e'] at e
      exact ⟨xs, (Option.some.inj e).symm⟩
    have hpn : ¬ M p0 := M2 p0 (s24.free h0)
    have eW5 := s5 _ _ eW4
    have eR5 := s5 _ _ eR4
    have hqn : (0 : Int) < ((qt.map V.ref).length : Nat) := by rw [List.length_map, TQ.len]; omega
    have eqn : (((qt.map V.ref).length : Nat) : Int) = (qs.length : Int) := by rw [List.length_map, TQ.len]
    refine ⟨p0, rfl, ⟨_, SqL.of ep⟩, for_list (xs := cells.map V.int) (fun i σ H' => ∃ u5 ss, σ = [some (.ref a), some (.ref W), some (.ref S), some (.ref R), some (.ref T), u5, none, none, none, none, none, none] ∧ Keeps M H5 H' ∧ Scs H' S us Gs Es ss ∧ ss.length = S0.toNat ∧ (∀ s ∈ ss, s.1.length ≤ 8) ∧ ∀ s ∈ ss, ∀ p ∈ s.1, p.2.1 ≠ ("to" : Str) → 0 ≤ p.2.2 ∧ p.2.2 < (((qt.map V.ref).length : Nat) : Int))
      ⟨none, _, rfl, k5, SC5, List.length_replicate .., fun s hs => by rw [List.eq_of_mem_replicate hs]; decide, fun s hs p hp => by rw [List.eq_of_mem_replicate hs] at hp; simp at hp⟩ (fun i σ H' _ ⟨_, _, _, k, _⟩ => SqL.of (k.at_ _ _ ep hpn)) ?_ ?_⟩
    · rintro i x σ H6 hx ⟨u5, ss, rfl, k6, SC6, hsl, h8, hst⟩
      rw [List.getElem?_map] at hx
      obtain ⟨c, hc, rfl⟩ := Option.map_eq_some_iff.mp hx
      refine ⟨_, rfl, _, rfl, _, rfl, _, rfl, _, _, rfl, Or.inl ⟨_, SqL.of (k6.at_ _ _ eR5 (M2 _ hR)), rfl⟩, S, W, c, _, us, Gs, Es, ss, ws, rfl, SC6, nd, by omega, by omega, SqL.of (k6.at_ _ _ eW5 (M1 _ _ eW)), by omega, by omega, hqn, h8, hst, fun ss' H7 k7 SC7 hsl7 h87 hst7 => ?_⟩
      exact ⟨_, ss', rfl, ⟨fun x o e n => k7.at_ _ _ (k6.at_ x o e n) (by rw [hM] at n; exact n), k6.ls⟩, SC7, by omega, h87, hst7⟩
    rintro σ H6 ⟨u5, ss, rfl, k6, SC6, hsl, h8, hst⟩
    have S6 : SqL K H6 a (ns.map V.int) := by
      have hSa := s1.seq hS
      rcases hSa with (h | ⟨o, h⟩) | h
      · exact .inl (.inl (k6.at_ _ _ ((s14.trans s5) _ _ h) (M1 _ _ h)))
      · exact .inl (.inr ⟨o, k6.at_ _ _ ((s14.trans s5) _ _ h) (M1 _ _ h)⟩)
      · exact .inr h
    refine ⟨_, rfl, _, rfl, _, rfl, a, ns, 2, rfl, by decide, S6, _, _, rfl, rfl, ⟨by decide, by decide⟩, _, rfl, _, _, rfl, Or.inl ⟨_, SqL.of (k6.at_ _ _ eR5 (M2 _ hR)), rfl⟩, S, W, _, _, us, Gs, Es, ss, ws, rfl, SC6, nd, by omega, by omega, SqL.of (k6.at_ _ _ eW5 (M1 _ _ eW)), by omega, by omega, hqn, h8, hst, fun ss' H7 k7' SC7 hsl7 h87 hst7 => ?_⟩
    have k7 : Keeps M H5 H7 := ⟨fun x o e n => k7'.at_ _ _ (k6.at_ x o e n) (by rw [hM] at n; exact n), k6.ls⟩
    clear k7' SC6 h8 hst k6
    have S7 : SqL K H7 a (ns.map V.int) := by
      have hSa := s1.seq hS
      rcases hSa with (h | ⟨o, h⟩) | h
      · exact .inl (.inl (k7.at_ _ _ ((s14.trans s5) _ _ h) (M1 _ _ h)))
      · exact .inl (.inr ⟨o, k7.at_ _ _ ((s14.trans s5) _ _ h) (M1 _ _ h)⟩)
      · exact .inr h
    rw [eqn] at hst7
    have eT7 := k7.at_ _ _ (s5 _ _ eT) (M2 _ (s3.free hT))
    have eR7 := k7.at_ _ _ eR5 (M2 _ hR)
    have TG7 := (TG.same s5).keeps k7
    have TQ7 := (TQ4.same s5).keeps k7
    have lgs : (ts.map V.ref).length = gs.length := by rw [List.length_map, TG.len]
    -- the net
    refine ⟨_, rfl, _, rfl, _, rfl, three_le, fun nt hnt => ?_⟩
    have s8 := same_new (o := .tup [.ref S, .ref T, .ref R]) hnt
    have ent : (upd H7 nt (.tup [.ref S, .ref T, .ref R])) nt = some (.tup [.ref S, .ref T, .ref R]) := upd_same
    generalize upd H7 nt (.tup [.ref S, .ref T, .ref R]) = H8 at s8 ent ⊢
    refine g_in ?_
    try dsimp only
    have SC8 := SC7.same s8
    -- the copy
    refine ⟨_, rfl, S, rfl, ⟨_, SqL.of SC8.top⟩, comp_listI (xs := us.map V.ref) (fun D i ys H' => ∃ u2 G2 E2 : List Addr, ys = u2.map V.ref ∧ Same H8 H' ∧ Scs H' D u2 G2 E2 (ss'.take i) ∧ ∀ x ∈ G2 ++ E2, x ≠ D)
      (fun D hD => ⟨[], [], [], rfl, same_new hD, by rw [List.take_zero]; exact Scs.nil upd_same, fun x hx => by simp at hx⟩) (fun D i ys H' ⟨_, _, _, _, s9, _⟩ => SqL.of (s9 _ _ SC8.top)) (fun D i x ys H9 RR hD hx hv k => ?_) (fun D2 ys H9 hD2 hv => ?_)⟩
    · obtain ⟨u2, G2, E2, rfl, s9, SC9, hne⟩ := hv
      rw [List.getElem?_map] at hx
      obtain ⟨u, hu, rfl⟩ := Option.map_eq_some_iff.mp hx
      have hil : i < ss'.length := by rw [← SC7.lu]; exact (List.getElem?_eq_some_iff.mp hu).1
      obtain ⟨u', G, E1, g1, g2, g3, g4, g5⟩ := (SC8.same s9).get hil
      rw [hu] at g1; cases g1
      obtain ⟨a1, ⟨tG, b1, b2⟩, ⟨tE, c1, c2⟩⟩ := g5
      have etk : ss'.take (i + 1) = ss'.take i ++ [ss'[i]] := by rw [List.take_succ, g4]; rfl
      have lu2 := SC9.lu
      rw [List.length_take] at lu2
      refine ⟨u, _, rfl, SqT.of a1, rfl, _, _, rfl, _, _, rfl, rfl, ?_⟩
      refine ⟨_, rfl, G, _, rfl, Or.inl (SqL.of b1), fun G3 hG3 => ?_⟩
      have t1 := same_new (o := .lst (tG.map V.ref)) hG3
      have eG3 : (upd H9 G3 (.lst (tG.map V.ref))) G3 = some (.lst (tG.map V.ref)) := upd_same
      generalize upd H9 G3 (.lst (tG.map V.ref)) = H10 at t1 eG3 ⊢
      refine ⟨_, rfl, E1, _, rfl, Or.inl (SqL.of (t1 _ _ c1)), fun E3 hE3 => ?_⟩
      have t2 := same_new (o := .lst (tE.map V.ref)) hE3
      have eE3 : (upd H10 E3 (.lst (tE.map V.ref))) E3 = some (.lst (tE.map V.ref)) := upd_same
      generalize upd H10 E3 (.lst (tE.map V.ref)) = H11 at t2 eE3 ⊢
      refine ⟨two_le, fun u3 hu3 => ?_⟩
      have t3 := same_new (o := .tup [.ref G3, .ref E3]) hu3
      have eu3 : (upd H11 u3 (.tup [.ref G3, .ref E3])) u3 = some (.tup [.ref G3, .ref E3]) := upd_same
      generalize upd H11 u3 (.tup [.ref G3, .ref E3]) = H12 at t3 eu3 ⊢
      have t13 := (t1.trans t2).trans t3
      have t23 := t2.trans t3
      have SC12 := SC9.same t13
      have nG : G3 ≠ D := fun y => by rw [y, SC9.top] at hG3; cases hG3
      have nE : E3 ≠ D := fun y => by rw [y, t1 _ _ SC9.top] at hE3; cases hE3
      have hs12 : ScH H12 u3 G3 E3 ss'[i] := ⟨eu3, ⟨tG, t23 _ _ eG3, b2.same t13⟩, ⟨tE, t3 _ _ eE3, c2.same t13⟩⟩
      refine k _ _ SC12.top (by rw [List.length_map, lu2]; exact small1000 (by omega)) ⟨u2 ++ [u3], G2 ++ [G3], E2 ++ [E3], by rw [List.map_append]; rfl, fun b o e => ?_, ?_, fun x hx z => ?_⟩
      · rw [upd_ne (ne_of_none e hD)]; exact t13 _ _ (s9 _ _ e)
      · rw [etk]; exact SC12.snoc hs12 nG nE hne
      · simp only [List.mem_append, List.mem_singleton] at hx
        rcases hx with (h | h) | (h | h)
        · exact hne x (List.mem_append_left _ h) z
        · exact nG (h ▸ z)
        · exact hne x (List.mem_append_right _ h) z
        · exact nE (h ▸ z)
    obtain ⟨u2, G2, E2, rfl, s9, SC9, hne⟩ := hv
    rw [show (us.map V.ref).length = ss'.length by rw [List.length_map, SC7.lu], List.take_length] at SC9
    have s79 := s8.trans s9
    refine ⟨_, rfl, T, _, rfl, Or.inl (SqL.of (s79 _ _ eT7)), fun T2 hT2 => ?_⟩
    have t1 := same_new (o := .lst (ts.map V.ref)) hT2
    have eT2 : (upd H9 T2 (.lst (ts.map V.ref))) T2 = some (.lst (ts.map V.ref)) := upd_same
    generalize upd H9 T2 (.lst (ts.map V.ref)) = H10 at t1 eT2 ⊢
    refine ⟨_, rfl, R, _, rfl, Or.inl (SqL.of (t1 _ _ (s79 _ _ eR7))), fun R2 hR2 => ?_⟩
    have t2 := same_new (o := .lst (qt.map V.ref)) hR2
    have eR2 : (upd H10 R2 (.lst (qt.map V.ref))) R2 = some (.lst (qt.map V.ref)) := upd_same
    generalize upd H10 R2 (.lst (qt.map V.ref)) = H11 at t2 eR2 ⊢
    refine ⟨three_le, fun kt hkt => ?_⟩
    have t3 := same_new (o := .tup [.ref D2, .ref T2, .ref R2]) hkt
    have ekt : (upd H11 kt (.tup [.ref D2, .ref T2, .ref R2])) kt = some (.tup [.ref D2, .ref T2, .ref R2]) := upd_same
    generalize upd H11 kt (.tup [.ref D2, .ref T2, .ref R2]) = H12 at t3 ekt ⊢
    refine g_in ?_
    try dsimp only
    have t23 := t2.trans t3
    have t13 := t1.trans t23
    have s812 := s9.trans t13
    have s712 := s8.trans s812
    have eT12 := s712 _ _ eT7
    have eR12 := s712 _ _ eR7
    have TG12 := TG7.same s712
    have TQ12 := TQ7.same s712
    have S12 := s712.seq S7
    -- the answers
    refine ⟨_, rfl, a, ns, 3, rfl, by decide, S12, _, _, rfl, rfl, ⟨by decide, by decide⟩, _, rfl, _, rfl, _, _, rfl, Or.inl ⟨_, SqL.of eT12, rfl⟩, _, _, R, qs, rfl, ⟨_, SqL.of eR12, TQ12.dts⟩, hq0.2, hq6, ?_, fun A1 us1 as1 H13 hA1 s13 eA1 d1 l1 o1 => ?_⟩
    · omega
    rw [lgs] at o1
    refine g_in ?_
    try dsimp only
    refine ⟨_, rfl, a, ns, 0, rfl, by decide, s13.seq S12, _, _, rfl, rfl, ⟨by decide, by decide⟩, _, rfl, _, rfl, _, _, rfl, Or.inl ⟨_, SqL.of (s13 _ _ eT12), rfl⟩, _, _, R, qs, rfl, ⟨_, SqL.of (s13 _ _ eR12), (TQ12.same s13).dts⟩, hq0.2, hq6, ?_, fun A2 us3 as2 H14 hA2 s14' eA2 d2 l2 o2 => ?_⟩
    · omega
    rw [lgs] at o2
    refine g_in ?_
    try dsimp only
    have eA114 := s14' _ _ eA1
    have nA : A2 ≠ A1 := fun y => by rw [y, eA1] at hA2; cases hA2
    -- held
    refine ⟨_, rfl, A1, _, rfl, Or.inl (SqL.of eA114), fun B1 hB1 => ?_⟩
    have v1 := same_new (o := .lst us1) hB1
    have eB1 : (upd H14 B1 (.lst us1)) B1 = some (.lst us1) := upd_same
    generalize upd H14 B1 (.lst us1) = H15 at v1 eB1 ⊢
    refine ⟨_, rfl, A2, _, rfl, Or.inl (SqL.of (v1 _ _ eA2)), fun B2 hB2 => ?_⟩
    have v2 := same_new (o := .lst us3) hB2
    have eB2 : (upd H15 B2 (.lst us3)) B2 = some (.lst us3) := upd_same
    generalize upd H15 B2 (.lst us3) = H16 at v2 eB2 ⊢
    refine ⟨two_le, fun Hl hHl => ?_⟩
    have v3 := same_new (o := .lst [.ref B1, .ref B2]) hHl
    have eHl : (upd H16 Hl (.lst [.ref B1, .ref B2])) Hl = some (.lst [.ref B1, .ref B2]) := upd_same
    generalize upd H16 Hl (.lst [.ref B1, .ref B2]) = H17 at v3 eHl ⊢
    refine g_in ?_
    try dsimp only
    have v23 := v2.trans v3
    have v13 := v1.trans v23
    have s1317 := s14'.trans v13
    have s1217 := s13.trans s1317
    have s817 := s812.trans s1217
    have ok1 : NetOk gs as1 := ⟨fun p hp e => by have := hok p hp e; omega, o1⟩
    have ok2 : NetOk gs as2 := ⟨fun p hp e => by have := hok p hp e; omega, o2⟩
    have hst1 : ∀ s ∈ ss', ∀ p ∈ s.1, p.2.1 ≠ ("to" : Str) → 0 ≤ p.2.2 ∧ p.2.2 < as1.length := fun s hs p hp e => by have := hst7 s hs p hp e; omega
    have hst2 : ∀ s ∈ ss', ∀ p ∈ s.1, p.2.1 ≠ ("to" : Str) → 0 ≤ p.2.2 ∧ p.2.2 < as2.length := fun s hs p hp e => by have := hst7 s hs p hp e; omega
    have ent17 := s817 _ _ ent
    have SC17 := SC8.same s817
    have eT17 := s1217 _ _ eT12
    have TG17 := TG12.same s1217
    have TQ17 := TQ12.same s1217
    have eR17 := s1217 _ _ eR12
    have ekt17 := s1217 _ _ ekt
    have eT217 := (t23.trans s1217) _ _ eT2
    have eR217 := (t3.trans s1217) _ _ eR2
    have SC217 := SC9.same (t13.trans s1217)
    have eA117 := v13 _ _ eA114
    have eA217 := v13 _ _ eA2
    have eB117 := v23 _ _ eB1
    have eB217 := v3 _ _ eB2
    have d117 := d1.same s1317
    have d217 := d2.same v13
    have g17 : ∀ {H' : Hp}, Same H17 H' → Goes K H' T gs := fun s => ⟨_, SqL.of (s _ _ eT17), (TG17.same s).dts⟩
    have dn : ∀ {H' : Hp}, Same H17 H' → IsDt K H' (.ref nt) (netD ss' gs qs) := fun s => .tup (SqT.of (s _ _ ent17)) (.cons (.lst (SqL.of (SC17.same s).top) (SC17.same s).dts) (.cons (.lst (SqL.of (s _ _ eT17)) (TG17.same s).dts) (.cons (.lst (SqL.of (s _ _ eR17)) (TQ17.same s).dts) .nil)))
    have dk : ∀ {H' : Hp}, Same H17 H' → IsDt K H' (.ref kt) (netD ss' gs qs) := fun s => .tup (SqT.of (s _ _ ekt17)) (.cons (.lst (SqL.of (SC217.same s).top) (SC217.same s).dts) (.cons (.lst (SqL.of (s _ _ eT217)) (TG17.same s).dts) (.cons (.lst (SqL.of (s _ _ eR217)) (TQ17.same s).dts) .nil)))
    -- told
    refine ⟨_, rfl, _, rfl, _, rfl, Or.inl ⟨Hl, _, _, .ref B1, rfl, rfl, SqL.of eHl, rfl, nt, S, T, R, A1, B1, us, Gs, Es, ss', gs, as1, rfl, SqT.of ent17, SC17, g17 (Same.refl _), ⟨_, SqL.of eA117, d117⟩, ⟨_, SqL.of eB117, d117⟩, ok1, hst1, fun H18 s18 => ⟨_, rfl, iteF ?_⟩⟩⟩
    refine ⟨_, rfl, _, rfl, _, rfl, Or.inl ⟨Hl, _, _, .ref B2, rfl, rfl, SqL.of (s18 _ _ eHl), rfl, nt, S, T, R, A2, B2, us, Gs, Es, ss', gs, as2, rfl, SqT.of (s18 _ _ ent17), SC17.same s18, g17 s18, ⟨_, SqL.of (s18 _ _ eA217), d217.same s18⟩, ⟨_, SqL.of (s18 _ _ eB217), d217.same s18⟩, ok2, hst2, fun H19 s19' => ⟨_, rfl, iteF ?_⟩⟩⟩
    have s19 := s18.trans s19'
    refine ⟨_, rfl, _, rfl, _, rfl, Or.inl ⟨Hl, _, _, .ref B1, rfl, rfl, SqL.of (s19 _ _ eHl), rfl, nt, S, T, R, A1, B1, us, Gs, Es, ss', gs, as1, rfl, SqT.of (s19 _ _ ent17), SC17.same s19, g17 s19, ⟨_, SqL.of (s19 _ _ eA117), d117.same s19⟩, ⟨_, SqL.of (s19 _ _ eB117), d117.same s19⟩, ok1, hst1, fun H20 s20' => ⟨_, rfl, iteF ?_⟩⟩⟩
    have s20 := s19.trans s20'
    refine ⟨_, rfl, _, rfl, 6, _, _, cmp_net ss' gs qs, by decide, dn s20, dk s20, _, rfl, ?_⟩
    rw [dec_true rfl]
    refine iteF ⟨_, rfl, _, rfl, Or.inl ⟨Hl, _, _, .ref B1, rfl, rfl, SqL.of (s20 _ _ eHl), rfl, 3, _, _, cmp_anss as1 as1, by decide, .lst (SqL.of (s20 _ _ eA117)) (d117.same s20), .lst (SqL.of (s20 _ _ eB117)) (d117.same s20), _, rfl, ?_⟩⟩
    rw [dec_true rfl]
    refine iteF ⟨_, rfl, _, rfl, Or.inl ⟨Hl, _, _, .ref B2, rfl, rfl, SqL.of (s20 _ _ eHl), rfl, 3, _, _, cmp_anss as2 as2, by decide, .lst (SqL.of (s20 _ _ eA217)) (d217.same s20), .lst (SqL.of (s20 _ _ eB217)) (d217.same s20), _, rfl, ?_⟩⟩
    rw [dec_true rfl]
    refine iteF ?_
    -- all open
    have lu1 : us1.length = qs.length := by rw [d1.len_map, l1]
    have eA120 := s20 _ _ eA117
    refine ⟨_, rfl, _, _, rfl, Or.inl ⟨_, SqL.of eA120, rfl⟩, _, rfl, by omega, by omega, for_range (lo := 0) (n := ((us1.length : Nat) : Int).toNat) (fun i σ H' => ∃ u11, σ = [some (.ref a), some (.ref W), some (.ref S), some (.ref R), some (.ref T), u5, some (.ref nt), some (.ref kt), some (.ref A1), some (.ref A2), some (.ref Hl), u11] ∧ Keeps (· = A1) H20 H' ∧ H' A1 = some (.lst (List.replicate i V.non ++ us1.drop i))) ⟨none, rfl, Keeps.refl fun x o m e => by rw [m, eA120] at e; exact ⟨_, (Option.some.inj e).symm⟩, by rw [List.drop_zero]; exact eA120⟩ ?_ ?_⟩
    · rintro i σ H21 hi ⟨u11, rfl, k21, e21⟩
      have hi1 : i < us1.length := by omega
      have hix : ixN (List.replicate i V.non ++ us1.drop i).length (0 + (i : Int)) = some i := ixN0 (by rw [List.length_append, List.length_replicate, List.length_drop]; omega)
      refine ⟨_, rfl, _, rfl, A1, _, _, i, rfl, rfl, e21, hix, ?_⟩
      refine ⟨_, rfl, k21.set rfl, ?_⟩
      rw [upd_same, set_none hi1]
    rintro σ H21 ⟨u11, rfl, k21, e21⟩
    have e21' : H21 A1 = some (.lst (List.replicate us1.length V.non)) := by
      rw [e21, Int.toNat_natCast, List.drop_length, List.append_nil]
    have nn : ∀ x o, H12 x = some o → x ≠ A1 := fun x o e y => by rw [y, hA1] at e; cases e
    have SC21 : Scs H21 S us Gs Es ss' := (SC17.same s20).keeps k21 (nn _ _ (s812 _ _ SC8.top)) (fun x hx => by
      obtain ⟨xs, e⟩ := (SC8.same s812).alive x hx
      exact nn _ _ e)
    have SC221 : Scs H21 D2 u2 G2 E2 ss' := (SC217.same s20).keeps k21 (nn _ _ (t13 _ _ SC9.top)) (fun x hx => by
      obtain ⟨xs, e⟩ := (SC9.same t13).alive x hx
      exact nn _ _ e)
    have ent21 := k21.tup (s20 _ _ ent17)
    have ekt21 := k21.tup (s20 _ _ ekt17)
    have eT21 := k21.at_ _ _ (s20 _ _ eT17) (nn _ _ eT12)
    have eR21 := k21.at_ _ _ (s20 _ _ eR17) (nn _ _ eR12)
    have eT221 := k21.at_ _ _ (s20 _ _ eT217) (nn _ _ (t23 _ _ eT2))
    have eR221 := k21.at_ _ _ (s20 _ _ eR217) (nn _ _ (t3 _ _ eR2))
    have TG21 := (TG17.same s20).keeps k21
    have TQ21 := (TQ17.same s20).keeps k21
    have ok3 : NetOk gs (List.replicate us1.length none) := ⟨fun p hp e => by have := hok p hp e; rw [List.length_replicate]; omega, fun p hp => by have := List.eq_of_mem_replicate hp; cases this⟩
    refine ⟨_, rfl, _, rfl, _, rfl, A1, rfl, ⟨_, SqL.of e21'⟩, comp_listI (xs := List.replicate us1.length V.non) (fun D i ys H' => ys = List.replicate i V.non ∧ Same H21 H' ∧ H' D = some (.lst ys))
      (fun D hD => ⟨rfl, same_new hD, upd_same⟩) (fun D i ys H' ⟨_, s22, _⟩ => SqL.of (s22 _ _ e21')) (fun D i x ys H22 RR hD hx hv k => ?_) (fun D ys H22 hD hv => ?_)⟩
    · obtain ⟨rfl, s22, eD⟩ := hv
      have hil : i < us1.length := by have := (List.getElem?_eq_some_iff.mp hx).1; rwa [List.length_replicate] at this
      refine k _ _ eD (by rw [List.length_replicate]; exact small1000 (by omega)) ⟨by rw [List.replicate_succ'], fun b o e => ?_, upd_same⟩
      rw [upd_ne (ne_of_none e hD)]; exact s22 _ _ e
    obtain ⟨rfl, s22, eD⟩ := hv
    rw [List.length_replicate] at eD
    refine ⟨nt, S, T, R, A1, D, us, Gs, Es, ss', gs, List.replicate us1.length none, rfl, SqT.of (s22 _ _ ent21), SC21.same s22, ⟨_, SqL.of (s22 _ _ eT21), (TG21.same s22).dts⟩, ⟨_, SqL.of (s22 _ _ e21'), nons_dts _⟩, ⟨_, SqL.of eD, nons_dts _⟩, ok3, fun s hs p hp e => by have := hst7 s hs p hp e; rw [List.length_replicate]; omega, fun H23 s23' => ⟨_, rfl, iteT ?_⟩⟩
    have s23 := s22.trans s23'
    refine ⟨_, rfl, _, rfl, 6, _, _, cmp_net ss' gs qs, by decide, .tup (SqT.of (s23 _ _ ent21)) (.cons (.lst (SqL.of (SC21.same s23).top) (SC21.same s23).dts) (.cons (.lst (SqL.of (s23 _ _ eT21)) (TG21.same s23).dts) (.cons (.lst (SqL.of (s23 _ _ eR21)) (TQ21.same s23).dts) .nil))), .tup (SqT.of (s23 _ _ ekt21)) (.cons (.lst (SqL.of (SC221.same s23).top) (SC221.same s23).dts) (.cons (.lst (SqL.of (s23 _ _ eT221)) (TG21.same s23).dts) (.cons (.lst (SqL.of (s23 _ _ eR221)) (TQ21.same s23).dts) .nil))), ?_⟩
    rw [dec_true rfl]
    exact kq _
theorem call_law {f : Addr} {fd : FuncData} (B : Blt mg) (c__law_words : Callee P w K mg base "_law_words" 1 ["_law_cell", "_law_many"] (sp__law_words K)) (c__law_cell_at : Callee P w K mg base "_law_cell_at" 1 ["_law_script", "_law_k"] (sp__law_cell_at K)) (c__law_questions : Callee P w K mg base "_law_questions" 1 ["_law_words_here", "_law_many", "_law_scopes"] (sp__law_questions K)) (c__law_things : Callee P w K mg base "_law_things" 1 ["_law_cell", "_law_many", "_law_scopes", "_law_questions_here"] (sp__law_things K)) (c__law_lay_step : Callee P w K mg base "_law_lay_step" 1 ["_law_scopes", "_law_words_here", "_law_cell", "_law_questions_here"] (sp__law_lay_step K)) (c__law_answers : Callee P w K mg base "_law_answers" 1 ["_law_cell", "_law_questions_here", "_law_things_here"] (sp__law_answers K)) (c__law_all_told : Callee P w K mg base "_law_all_told" 4 ["_law_net", "_law_answers_here", "_law_held"] (sp__law_all_told K)) (F : Fun K "law" "law" s_law f fd) (hm : mg "law" = some (.ref f)) : Callee P w K mg base "law" 5 ["_law_script"] (sp_law K) :=
  ⟨f, fd, ok_law B c__law_words c__law_cell_at c__law_questions c__law_things c__law_lay_step c__law_answers c__law_all_told F, hm, F.kp, F.binds fun _ _ _ _ _ _ us hl => (by obtain ⟨x0, rfl⟩ := len_1 hl; rfl)⟩
end
theorem all_mk {l : PySem.W.OpenLaw} {w : World} {K : PySem.W.Frag} {h : Heap} {mg : Str → Option Value} {fa : Addr} (X : K.In h) (G : h.Ns mainGlobals mg) (hfa : mg "law" = some (.ref fa))
    {f0 : Addr} {od0 an0 : Option Addr} {sl0 : Array (Option Value)} {oc0 kV0 dc0 pm0 cd0 ct0 : Value}
    {f1 : Addr} {od1 an1 : Option Addr} {sl1 : Array (Option Value)} {oc1 kV1 dc1 pm1 cd1 ct1 : Value}
    {f2 : Addr} {od2 an2 : Option Addr} {sl2 : Array (Option Value)} {oc2 kV2 dc2 pm2 cd2 ct2 : Value}
    {f3 : Addr} {od3 an3 : Option Addr} {sl3 : Array (Option Value)} {oc3 kV3 dc3 pm3 cd3 ct3 : Value}
    {f4 : Addr} {od4 an4 : Option Addr} {sl4 : Array (Option Value)} {oc4 kV4 dc4 pm4 cd4 ct4 : Value}
    {f5 : Addr} {od5 an5 : Option Addr} {sl5 : Array (Option Value)} {oc5 kV5 dc5 pm5 cd5 ct5 : Value}
    {f6 : Addr} {od6 an6 : Option Addr} {sl6 : Array (Option Value)} {oc6 kV6 dc6 pm6 cd6 ct6 : Value}
    {f7 : Addr} {od7 an7 : Option Addr} {sl7 : Array (Option Value)} {oc7 kV7 dc7 pm7 cd7 ct7 : Value}
    {f8 : Addr} {od8 an8 : Option Addr} {sl8 : Array (Option Value)} {oc8 kV8 dc8 pm8 cd8 ct8 : Value}
    {f9 : Addr} {od9 an9 : Option Addr} {sl9 : Array (Option Value)} {oc9 kV9 dc9 pm9 cd9 ct9 : Value}
    {f10 : Addr} {od10 an10 : Option Addr} {sl10 : Array (Option Value)} {oc10 kV10 dc10 pm10 cd10 ct10 : Value}
    {f11 : Addr} {od11 an11 : Option Addr} {sl11 : Array (Option Value)} {oc11 kV11 dc11 pm11 cd11 ct11 : Value}
    {f12 : Addr} {od12 an12 : Option Addr} {sl12 : Array (Option Value)} {oc12 kV12 dc12 pm12 cd12 ct12 : Value}
    {f13 : Addr} {od13 an13 : Option Addr} {sl13 : Array (Option Value)} {oc13 kV13 dc13 pm13 cd13 ct13 : Value}
    {f14 : Addr} {od14 an14 : Option Addr} {sl14 : Array (Option Value)} {oc14 kV14 dc14 pm14 cd14 ct14 : Value}
    (a0 : PySem.W.nsIn K mainGlobals "_law_words" = some (some (.ref f0))) (l0 : K.lookup f0 = some ⟨oc0, od0, .func (PySem.W.fnOf "_law_words" "_law_words" (defArgs s__law_words) (defBody s__law_words) (defScope s__law_words) .none kV0 dc0 pm0 an0 cd0 ct0), sl0⟩) (c0 : PySem.W.codeIn K cd0 "_law_words" = true) (k0 : PySem.W.keepIn K (.ref f0) = true)
    (a1 : PySem.W.nsIn K mainGlobals "_law_cell_at" = some (some (.ref f1))) (l1 : K.lookup f1 = some ⟨oc1, od1, .func (PySem.W.fnOf "_law_cell_at" "_law_cell_at" (defArgs s__law_cell_at) (defBody s__law_cell_at) (defScope s__law_cell_at) .none kV1 dc1 pm1 an1 cd1 ct1), sl1⟩) (c1 : PySem.W.codeIn K cd1 "_law_cell_at" = true) (k1 : PySem.W.keepIn K (.ref f1) = true)
    (a2 : PySem.W.nsIn K mainGlobals "_law_questions" = some (some (.ref f2))) (l2 : K.lookup f2 = some ⟨oc2, od2, .func (PySem.W.fnOf "_law_questions" "_law_questions" (defArgs s__law_questions) (defBody s__law_questions) (defScope s__law_questions) .none kV2 dc2 pm2 an2 cd2 ct2), sl2⟩) (c2 : PySem.W.codeIn K cd2 "_law_questions" = true) (k2 : PySem.W.keepIn K (.ref f2) = true)
    (a3 : PySem.W.nsIn K mainGlobals "_law_things" = some (some (.ref f3))) (l3 : K.lookup f3 = some ⟨oc3, od3, .func (PySem.W.fnOf "_law_things" "_law_things" (defArgs s__law_things) (defBody s__law_things) (defScope s__law_things) .none kV3 dc3 pm3 an3 cd3 ct3), sl3⟩) (c3 : PySem.W.codeIn K cd3 "_law_things" = true) (k3 : PySem.W.keepIn K (.ref f3) = true)
    (a4 : PySem.W.nsIn K mainGlobals "_law_lay_step" = some (some (.ref f4))) (l4 : K.lookup f4 = some ⟨oc4, od4, .func (PySem.W.fnOf "_law_lay_step" "_law_lay_step" (defArgs s__law_lay_step) (defBody s__law_lay_step) (defScope s__law_lay_step) .none kV4 dc4 pm4 an4 cd4 ct4), sl4⟩) (c4 : PySem.W.codeIn K cd4 "_law_lay_step" = true) (k4 : PySem.W.keepIn K (.ref f4) = true)
    (a5 : PySem.W.nsIn K mainGlobals "_law_answers" = some (some (.ref f5))) (l5 : K.lookup f5 = some ⟨oc5, od5, .func (PySem.W.fnOf "_law_answers" "_law_answers" (defArgs s__law_answers) (defBody s__law_answers) (defScope s__law_answers) .none kV5 dc5 pm5 an5 cd5 ct5), sl5⟩) (c5 : PySem.W.codeIn K cd5 "_law_answers" = true) (k5 : PySem.W.keepIn K (.ref f5) = true)
    (a6 : PySem.W.nsIn K mainGlobals "_law_whole" = some (some (.ref f6))) (l6 : K.lookup f6 = some ⟨oc6, od6, .func (PySem.W.fnOf "_law_whole" "_law_whole" (defArgs s__law_whole) (defBody s__law_whole) (defScope s__law_whole) .none kV6 dc6 pm6 an6 cd6 ct6), sl6⟩) (c6 : PySem.W.codeIn K cd6 "_law_whole" = true) (k6 : PySem.W.keepIn K (.ref f6) = true)
    (a7 : PySem.W.nsIn K mainGlobals "_law_told" = some (some (.ref f7))) (l7 : K.lookup f7 = some ⟨oc7, od7, .func (PySem.W.fnOf "_law_told" "_law_told" (defArgs s__law_told) (defBody s__law_told) (defScope s__law_told) .none kV7 dc7 pm7 an7 cd7 ct7), sl7⟩) (c7 : PySem.W.codeIn K cd7 "_law_told" = true) (k7 : PySem.W.keepIn K (.ref f7) = true)
    (a8 : PySem.W.nsIn K mainGlobals "inside_of_sort" = some (some (.ref f8))) (l8 : K.lookup f8 = some ⟨oc8, od8, .func (PySem.W.fnOf "inside_of_sort" "inside_of_sort" (defArgs s_inside_of_sort) (defBody s_inside_of_sort) (defScope s_inside_of_sort) .none kV8 dc8 pm8 an8 cd8 ct8), sl8⟩) (c8 : PySem.W.codeIn K cd8 "inside_of_sort" = true) (k8 : PySem.W.keepIn K (.ref f8) = true)
    (a9 : PySem.W.nsIn K mainGlobals "inside" = some (some (.ref f9))) (l9 : K.lookup f9 = some ⟨oc9, od9, .func (PySem.W.fnOf "inside" "inside" (defArgs s_inside) (defBody s_inside) (defScope s_inside) .none kV9 dc9 pm9 an9 cd9 ct9), sl9⟩) (c9 : PySem.W.codeIn K cd9 "inside" = true) (k9 : PySem.W.keepIn K (.ref f9) = true)
    (a10 : PySem.W.nsIn K mainGlobals "goal" = some (some (.ref f10))) (l10 : K.lookup f10 = some ⟨oc10, od10, .func (PySem.W.fnOf "goal" "goal" (defArgs s_goal) (defBody s_goal) (defScope s_goal) .none kV10 dc10 pm10 an10 cd10 ct10), sl10⟩) (c10 : PySem.W.codeIn K cd10 "goal" = true) (k10 : PySem.W.keepIn K (.ref f10) = true)
    (a11 : PySem.W.nsIn K mainGlobals "_law_inside" = some (some (.ref f11))) (l11 : K.lookup f11 = some ⟨oc11, od11, .func (PySem.W.fnOf "_law_inside" "_law_inside" (defArgs s__law_inside) (defBody s__law_inside) (defScope s__law_inside) .none kV11 dc11 pm11 an11 cd11 ct11), sl11⟩) (c11 : PySem.W.codeIn K cd11 "_law_inside" = true) (k11 : PySem.W.keepIn K (.ref f11) = true)
    (a12 : PySem.W.nsIn K mainGlobals "_law_goal" = some (some (.ref f12))) (l12 : K.lookup f12 = some ⟨oc12, od12, .func (PySem.W.fnOf "_law_goal" "_law_goal" (defArgs s__law_goal) (defBody s__law_goal) (defScope s__law_goal) .none kV12 dc12 pm12 an12 cd12 ct12), sl12⟩) (c12 : PySem.W.codeIn K cd12 "_law_goal" = true) (k12 : PySem.W.keepIn K (.ref f12) = true)
    (a13 : PySem.W.nsIn K mainGlobals "_law_all_told" = some (some (.ref f13))) (l13 : K.lookup f13 = some ⟨oc13, od13, .func (PySem.W.fnOf "_law_all_told" "_law_all_told" (defArgs s__law_all_told) (defBody s__law_all_told) (defScope s__law_all_told) .none kV13 dc13 pm13 an13 cd13 ct13), sl13⟩) (c13 : PySem.W.codeIn K cd13 "_law_all_told" = true) (k13 : PySem.W.keepIn K (.ref f13) = true)
    (a14 : PySem.W.nsIn K mainGlobals "law" = some (some (.ref f14))) (l14 : K.lookup f14 = some ⟨oc14, od14, .func (PySem.W.fnOf "law" "law" (defArgs s_law) (defBody s_law) (defScope s_law) .none kV14 dc14 pm14 an14 cd14 ct14), sl14⟩) (c14 : PySem.W.codeIn K cd14 "law" = true) (k14 : PySem.W.keepIn K (.ref f14) = true)
    (z_bool : PySem.W.nsIn K mainGlobals "bool" = some none)
    (z_int : PySem.W.nsIn K mainGlobals "int" = some none)
    (z_isinstance : PySem.W.nsIn K mainGlobals "isinstance" = some none)
    (z_len : PySem.W.nsIn K mainGlobals "len" = some none)
    (z_list : PySem.W.nsIn K mainGlobals "list" = some none)
    (z_range : PySem.W.nsIn K mainGlobals "range" = some none)
    (z_str : PySem.W.nsIn K mainGlobals "str" = some none)
    (z_tuple : PySem.W.nsIn K mainGlobals "tuple" = some none)
    : ∃ fd : FuncData, (∀ (s : Shared) (v : Value), BindsTo s fd ⟨[v], []⟩ [("_law_script", v)]) ∧ ∀ base : Heap, K.In base → base.Ns mainGlobals mg → FnOk l.prog w K mg base CX0 5 fa fd ["_law_script"] (sp_law K) := by
  have e := hfa.symm.trans (PySem.W.mg_of X G a14)
  cases e
  have B : Blt mg := ⟨PySem.W.mg_none_of X G z_bool, PySem.W.mg_none_of X G z_int, PySem.W.mg_none_of X G z_isinstance, PySem.W.mg_none_of X G z_len, PySem.W.mg_none_of X G z_list, PySem.W.mg_none_of X G z_range, PySem.W.mg_none_of X G z_str, PySem.W.mg_none_of X G z_tuple⟩
  have F0 := fun_mk (st := s__law_words) l0 c0 k0
  have F1 := fun_mk (st := s__law_cell_at) l1 c1 k1
  have F2 := fun_mk (st := s__law_questions) l2 c2 k2
  have F3 := fun_mk (st := s__law_things) l3 c3 k3
  have F4 := fun_mk (st := s__law_lay_step) l4 c4 k4
  have F5 := fun_mk (st := s__law_answers) l5 c5 k5
  have F6 := fun_mk (st := s__law_whole) l6 c6 k6
  have F7 := fun_mk (st := s__law_told) l7 c7 k7
  have F8 := fun_mk (st := s_inside_of_sort) l8 c8 k8
  have F9 := fun_mk (st := s_inside) l9 c9 k9
  have F10 := fun_mk (st := s_goal) l10 c10 k10
  have F11 := fun_mk (st := s__law_inside) l11 c11 k11
  have F12 := fun_mk (st := s__law_goal) l12 c12 k12
  have F13 := fun_mk (st := s__law_all_told) l13 c13 k13
  have F14 := fun_mk (st := s_law) l14 c14 k14
  refine ⟨PySem.W.fnOf "law" "law" (defArgs s_law) (defBody s_law) (defScope s_law) .none kV14 dc14 pm14 an14 cd14 ct14, fun s v => .of_eq rfl, fun base _ _ => ?_⟩
  have C__law_words : Callee l.prog w K mg base "_law_words" 1 ["_law_cell", "_law_many"] (sp__law_words K) := call__law_words B  F0 (PySem.W.mg_of X G a0)
  have C__law_cell_at : Callee l.prog w K mg base "_law_cell_at" 1 ["_law_script", "_law_k"] (sp__law_cell_at K) := call__law_cell_at B  F1 (PySem.W.mg_of X G a1)
  have C__law_questions : Callee l.prog w K mg base "_law_questions" 1 ["_law_words_here", "_law_many", "_law_scopes"] (sp__law_questions K) := call__law_questions B  F2 (PySem.W.mg_of X G a2)
  have C__law_things : Callee l.prog w K mg base "_law_things" 1 ["_law_cell", "_law_many", "_law_scopes", "_law_questions_here"] (sp__law_things K) := call__law_things B  F3 (PySem.W.mg_of X G a3)
  have C__law_lay_step : Callee l.prog w K mg base "_law_lay_step" 1 ["_law_scopes", "_law_words_here", "_law_cell", "_law_questions_here"] (sp__law_lay_step K) := call__law_lay_step B  F4 (PySem.W.mg_of X G a4)
  have C__law_answers : Callee l.prog w K mg base "_law_answers" 1 ["_law_cell", "_law_questions_here", "_law_things_here"] (sp__law_answers K) := call__law_answers B  F5 (PySem.W.mg_of X G a5)
  have C__law_whole : Callee l.prog w K mg base "_law_whole" 1 ["_law_found"] (sp__law_whole K) := call__law_whole B  F6 (PySem.W.mg_of X G a6)
  have C__law_told : Callee l.prog w K mg base "_law_told" 2 ["_law_found", "_law_due"] (sp__law_told K) := call__law_told B C__law_whole F7 (PySem.W.mg_of X G a7)
  have C_inside_of_sort : Callee l.prog w K mg base "inside_of_sort" 1 ["net", "answers", "question"] (sp_inside_of_sort K) := call_inside_of_sort B  F8 (PySem.W.mg_of X G a8)
  have C_inside : Callee l.prog w K mg base "inside" 2 ["net", "answers", "thing"] (sp_inside K) := call_inside B C_inside_of_sort F9 (PySem.W.mg_of X G a9)
  have C_goal : Callee l.prog w K mg base "goal" 3 ["net", "answers", "step"] (sp_goal K) := call_goal B C_inside F10 (PySem.W.mg_of X G a10)
  have C__law_inside : Callee l.prog w K mg base "_law_inside" 1 ["_law_net", "_law_answers_here", "_law_number"] (sp__law_inside K) := call__law_inside B  F11 (PySem.W.mg_of X G a11)
  have C__law_goal : Callee l.prog w K mg base "_law_goal" 2 ["_law_net", "_law_answers_here", "_law_step"] (sp__law_goal K) := call__law_goal B C__law_inside F12 (PySem.W.mg_of X G a12)
  have C__law_all_told : Callee l.prog w K mg base "_law_all_told" 4 ["_law_net", "_law_answers_here", "_law_held"] (sp__law_all_told K) := call__law_all_told B C__law_told C_goal C__law_goal F13 (PySem.W.mg_of X G a13)
  exact ok_law B C__law_words C__law_cell_at C__law_questions C__law_things C__law_lay_step C__law_answers C__law_all_told F14
theorem walk {l : PySem.W.OpenLaw} {q : Program} {loose : List Str} {XP : (Str → Option Value) → Heap → Prop} {YP : World → Heap → Prop} {d : DefRec} {K : Params → PySem.W.Frag} (hn : l.most = some 63) (hdf : d.params.defaults = [])
    (hY : ∀ (w : World) (h : Heap), YP w h → (K w.params).In h)
    (F : ∀ (w : World) (mg : Str → Option Value) (fa : Addr) (h : Heap), (K w.params).In h → h.Ns mainGlobals mg → mg d.name = some (.ref fa) →
      ∃ fd : FuncData, (∀ (s : Shared) (u : Value), BindsTo s fd ⟨[u], []⟩ [("_law_script", u)]) ∧ ∀ base : Heap, (K w.params).In base → base.Ns mainGlobals mg → FnOk l.prog w (K w.params) mg base CX0 5 fa fd ["_law_script"] (sp_law (K w.params))) :
    PySem.W.WalkO q loose XP YP l.row.toRowW d [] (fun f vs => PySem.call f vs) :=
  L2.walk_of (n := 63) (k := 5) (x := "_law_script") (CX := fun _ => CX0) (sp := fun w => sp_law (K w.params)) hn (by decide) hdf ⟨rfl, by decide, by decide⟩ hY F (fun _ _ a ns hl _ hS => ⟨a, ns, rfl, hS, hl, fun _ => rfl⟩) fun _ _ _ _ _ z => z
end K11
open PySem PySem.W PyProof.Rows
set_option maxRecDepth 100000 in
set_option maxHeartbeats 0 in
theorem PySem.Challenge.cw_namepaths_k11_where_a_step_goes_holds : PySem.Challenge.rw_namepaths_k11_where_a_step_goes.Holds := by
  w_on; o_law; k_head; (case hw => w_witness2)
  k_fill
  refine K11.walk (l := PySem.Challenge.rw_namepaths_k11_where_a_step_goes) rfl rfl (fun w h Y => PySem.W.kIn_of Y) ?F
  case F =>
    intro w mg fa h KX G hmg
    refine' K11.all_mk KX G hmg ?a0 ?l0 ?c0 ?k0 ?a1 ?l1 ?c1 ?k1 ?a2 ?l2 ?c2 ?k2 ?a3 ?l3 ?c3 ?k3 ?a4 ?l4 ?c4 ?k4 ?a5 ?l5 ?c5 ?k5 ?a6 ?l6 ?c6 ?k6 ?a7 ?l7 ?c7 ?k7 ?a8 ?l8 ?c8 ?k8 ?a9 ?l9 ?c9 ?k9 ?a10 ?l10 ?c10 ?k10 ?a11 ?l11 ?c11 ?k11 ?a12 ?l12 ?c12 ?k12 ?a13 ?l13 ?c13 ?k13 ?a14 ?l14 ?c14 ?k14 ?z_bool ?z_int ?z_isinstance ?z_len ?z_list ?z_range ?z_str ?z_tuple
    (case a0 => k_is)
    (case l0 => k_is)
    (case c0 => k_is)
    (case k0 => k_is)
    (case a1 => k_is)
    (case l1 => k_is)
    (case c1 => k_is)
    (case k1 => k_is)
    (case a2 => k_is)
    (case l2 => k_is)
    (case c2 => k_is)
    (case k2 => k_is)
    (case a3 => k_is)
    (case l3 => k_is)
    (case c3 => k_is)
    (case k3 => k_is)
    (case a4 => k_is)
    (case l4 => k_is)
    (case c4 => k_is)
    (case k4 => k_is)
    (case a5 => k_is)
    (case l5 => k_is)
    (case c5 => k_is)
    (case k5 => k_is)
    (case a6 => k_is)
    (case l6 => k_is)
    (case c6 => k_is)
    (case k6 => k_is)
    (case a7 => k_is)
    (case l7 => k_is)
    (case c7 => k_is)
    (case k7 => k_is)
    (case a8 => k_is)
    (case l8 => k_is)
    (case c8 => k_is)
    (case k8 => k_is)
    (case a9 => k_is)
    (case l9 => k_is)
    (case c9 => k_is)
    (case k9 => k_is)
    (case a10 => k_is)
    (case l10 => k_is)
    (case c10 => k_is)
    (case k10 => k_is)
    (case a11 => k_is)
    (case l11 => k_is)
    (case c11 => k_is)
    (case k11 => k_is)
    (case a12 => k_is)
    (case l12 => k_is)
    (case c12 => k_is)
    (case k12 => k_is)
    (case a13 => k_is)
    (case l13 => k_is)
    (case c13 => k_is)
    (case k13 => k_is)
    (case a14 => k_is)
    (case l14 => k_is)
    (case c14 => k_is)
    (case k14 => k_is)
    (case z_bool => k_is)
    (case z_int => k_is)
    (case z_isinstance => k_is)
    (case z_len => k_is)
    (case z_list => k_is)
    (case z_range => k_is)
    (case z_str => k_is)
    (case z_tuple => k_is)
