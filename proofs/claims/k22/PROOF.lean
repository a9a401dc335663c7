import PyProof.Rows.All
import Wide.All
import OpenK.AllK
import Wide.FinOn
import Lean
import PyProof.EqAt
import PyProof.EqKinds
import PyProof.TupleCall
import PySem.Challenge.RW_namepaths_k22_looks_that_are_tangled
set_option Elab.async false
set_option linter.all false
set_option maxRecDepth 100000
set_option maxHeartbeats 1000000
set_option Elab.async false
set_option linter.all false
set_option maxRecDepth 100000
/-! THE HAND LAYER, for ints, bools, texts, own classes, LISTS and tuples (index, slices, in, append, pop ..), calls, loops. Paste it whole ahead of your own text; what your proof does not reach may be deleted. -/
namespace L2
open PySem PySem.Spec PyProof.Rows

/-- a key: an int or a str -/
abbrev Key := Sum Int Str
def keyIs : Key → Value → Bool
  | .inl k, v => Value.isInt k v
  | .inr x, v => Value.isStrOf x v
def keyH (w : World) : Key → Int
  | .inl k => hashInt k
  | .inr x => hashStr w x
theorem keyIs_shape : ∀ {k : Key} {v : Value}, keyIs k v = true → (∃ i t, k = Sum.inl i ∧ v = Value.int i t) ∨ (∃ x t, k = Sum.inr x ∧ v = Value.str x t)
  | .inl i, v, h => by
    obtain ⟨t, e⟩ := Value.isInt_shape (k := i) (v := v) h
    exact .inl ⟨i, t, rfl, e⟩
  | .inr x, v, h => by
    obtain ⟨t, e⟩ := Value.isStrOf_shape (x := x) (v := v) h
    exact .inr ⟨x, t, rfl, e⟩
theorem key_ll (a b : Int) : decide ((Sum.inl a : Key) = Sum.inl b) = (a == b) := by
  by_cases e : a = b
  · subst e; simp
  · have h : ¬ (Sum.inl a : Key) = Sum.inl b := fun q => e (Sum.inl.inj q)
    rw [decide_eq_false h]
    exact (beq_eq_false_iff_ne.mpr e).symm
theorem key_rr (a b : Str) : decide ((Sum.inr a : Key) = Sum.inr b) = decide (a = b) := by
  by_cases e : a = b
  · subst e; simp
  · have h : ¬ (Sum.inr a : Key) = Sum.inr b := fun q => e (Sum.inr.inj q)
    rw [decide_eq_false h, decide_eq_false e]
theorem key_lr (a : Int) (b : Str) : decide ((Sum.inl a : Key) = Sum.inr b) = false := decide_eq_false (fun q => nomatch q)
theorem key_rl (a : Str) (b : Int) : decide ((Sum.inr a : Key) = Sum.inl b) = false := decide_eq_false (fun q => nomatch q)

def mixKind (prog : Program) (w : World) : PySem.KeyKind prog w Key where
  is := keyIs
  hash := keyH w
  inj := fun v a b ha hb => by
    rcases keyIs_shape ha with ⟨i, t, rfl, rfl⟩ | ⟨x, t, rfl, rfl⟩
    · rcases keyIs_shape hb with ⟨j, u, rfl, e⟩ | ⟨y, u, rfl, e⟩
      · injection e with e1 _; rw [e1]
      · exact nomatch e
    · rcases keyIs_shape hb with ⟨j, u, rfl, e⟩ | ⟨y, u, rfl, e⟩
      · exact nomatch e
      · injection e with e1 _; rw [e1]
  byValue := fun k v h => by
    rcases keyIs_shape h with ⟨i, t, rfl, rfl⟩ | ⟨x, t, rfl, rfl⟩ <;> rfl
  pyHash := fun hv h => by
    rcases keyIs_shape hv with ⟨i, t, rfl, rfl⟩ | ⟨x, t, rfl, rfl⟩
    · exact wpAny_pyHash_int h
    · exact wpAny_pyHash_str h
  eqBool := fun hu hv h => by
    rcases keyIs_shape hu with ⟨i, t, rfl, rfl⟩ | ⟨x, t, rfl, rfl⟩
    · rcases keyIs_shape hv with ⟨j, u, rfl, rfl⟩ | ⟨y, u, rfl, rfl⟩
      · rw [key_ll] at h; exact wpAny_eqBool_int h
      · rw [key_lr] at h; exact SeqAt.EqAt.int_str i t y u _ _ _ _ h
    · rcases keyIs_shape hv with ⟨j, u, rfl, rfl⟩ | ⟨y, u, rfl, rfl⟩
      · rw [key_rl] at h; exact SeqAt.EqAt.str_int x t j u _ _ _ _ h
      · rw [key_rr] at h; exact wpAny_eqBool_str h
  «strs» := fun k x t v h => by
    rcases keyIs_shape h with ⟨i, u, rfl, e⟩ | ⟨y, u, rfl, e⟩
    · exact nomatch e
    · injection e with e1 _
      subst e1
      cases v <;> rfl

end L2

namespace L2
open PySem PySem.Spec PyProof.Rows

/-- a value, without the heap -/
inductive V where
  | non | bl (b : Bool) | int (i : Int) | str (x : Str) | byt (b : Array UInt8) | flt (b : UInt64) | ref (a : Addr) | ty (n : String)
  deriving DecidableEq

def RelV : V → Value → Prop
  | .non, u => u = Value.none
  | .bl b, u => u = Value.bool b
  | .int i, u => ∃ t, u = Value.int i t
  | .str x, u => ∃ t, u = Value.str x t
  | .byt b, u => ∃ t, u = Value.bytes b t
  | .flt b, u => ∃ t, u = Value.float b t
  | .ref a, u => u = Value.ref a
  | .ty n, u => u = Value.type n

abbrev Vals : List V → List Value → Prop := Paired RelV
theorem Vals.length {xs : List V} {us : List Value} (r : Vals xs us) : xs.length = us.length := Paired.length r
theorem Vals.get : ∀ {xs : List V} {us : List Value} {i : Nat} {x : V}, Vals xs us → xs[i]? = some x → ∃ u, us[i]? = some u ∧ RelV x u
  | _, _, _, _, .nil, e => by simp at e
  | _, _, 0, _, .cons r _, e => by simp at e; subst e; exact ⟨_, rfl, r⟩
  | _, _, i + 1, x, .cons _ t, e => by
    obtain ⟨u, h1, h2⟩ := Vals.get (i := i) (x := x) t (by simpa using e)
    exact ⟨u, by simpa using h1, h2⟩
theorem Vals.append : ∀ {xs ys : List V} {us ws : List Value}, Vals xs us → Vals ys ws → Vals (xs ++ ys) (us ++ ws)
  | _, _, _, _, .nil, s => s
  | _, _, _, _, .cons r t, s => .cons r (Vals.append t s)
theorem Vals.take : ∀ {xs : List V} {us : List Value} (n : Nat), Vals xs us → Vals (xs.take n) (us.take n)
  | _, _, 0, _ => .nil
  | _, _, _ + 1, .nil => .nil
  | _, _, n + 1, .cons r t => .cons r (Vals.take n t)
theorem Vals.drop : ∀ {xs : List V} {us : List Value} (n : Nat), Vals xs us → Vals (xs.drop n) (us.drop n)
  | _, _, 0, r => r
  | _, _, _ + 1, .nil => .nil
  | _, _, n + 1, .cons _ t => Vals.drop n t

def RelO : Option V → Option Value → Prop
  | some v, some u => RelV v u
  | none, none => True
  | _, _ => False
def KV {κ : Type} : List (κ × V) → List (κ × Value) → Prop := Paired fun (p : κ × V) (q : κ × Value) => p.1 = q.1 ∧ RelV p.2 q.2

/-- a key of a dict (00_mix): an int or a text -/
def kV : Key → V
  | .inl i => .int i
  | .inr x => .str x

/-- what stands at a tracked address -/
inductive HO where
  /-- a list -/
  | lst (xs : List V)
  /-- a tuple (never changes) -/
  | tup (xs : List V)
  /-- a dict whose keys are ints and texts; one whose keys are tuples of ints and texts (the empty one is both) -/
  | dK (kvs : List (Key × V)) | dT (kvs : List (List Key × V))
  /-- a set of ints: its members, its size -/
  | set (S : Int → Bool) (n : Nat)
  /-- an instance of the class at C, its dict at dx, its attributes -/
  | ins (C dx : Addr) (fs : List (Str × V))
  /-- the dict of the instance at x -/
  | own (x : Addr)
  /-- the dict of an exception -/
  | xd (fs : List (Str × V))
  /-- a bound method, f of x -/
  | met (f x : Addr)
  /-- a range object lo, lo + 1, .. below hi -/
  | rng (lo hi : Int)
  /-- a thing that is known to the object (the script; a dict while a loop walks it): read, never written while it is so -/
  | frz (o : Obj) (u : HO)
  /-- a code object's table -/
  | tbl (ps : Array Value)
  /-- any other thing, by what is true of its one object (a def of one's own: SetO a S n := HO.ext fun h => ..) -/
  | ext (φ : Heap → Prop)

abbrev Hp := Addr → Option HO
def upd (H : Hp) (a : Addr) (o : HO) : Hp := fun b => if b = a then some o else H b
theorem upd_same {H : Hp} {a : Addr} {o : HO} : upd H a o a = some o := by unfold upd; rw [if_pos rfl]
theorem upd_ne {H : Hp} {a b : Addr} {o : HO} (h : b ≠ a) : upd H a o b = H b := by unfold upd; rw [if_neg h]
theorem ne_of_none {H : Hp} {a b : Addr} {o : HO} (h : H a = some o) (h' : H b = none) : a ≠ b := by
  intro e; subst e; rw [h] at h'; cases h'

section
variable (P : Program) (w : World)
def ObjOk (H : Hp) (h : Heap) (a : Addr) : HO → Prop
  | .lst xs => xs.length ≤ sizeLine ∧ ∃ (its : List Value) (n : Nat), Vals xs its ∧ h.get? a = some { cls := .type "list", data := .seq its.toArray n }
  | .tup xs => xs.length ≤ sizeLine ∧ ∃ its : List Value, Vals xs its ∧ IsTup h a its.toArray
  | .dK kvs => kvs.length ≤ sizeLine ∧ (a == sysModules) = false ∧ ∃ vs, KV kvs vs ∧ h.DictOf (mixKind P w) a vs
  | .dT kvs => kvs.length ≤ sizeLine ∧ (a == sysModules) = false ∧ ∃ xs : List (List Key × Addr × Value),
      Paired (fun (p : List Key × V) (q : List Key × Addr × Value) => p.1 = q.1 ∧ H q.2.1 = some (.tup (p.1.map kV)) ∧ RelV p.2 q.2.2) kvs xs ∧
      ∃ o es ep, h.get? a = some o ∧ o.ExactDict ∧ o.data = .dict es ep ∧ es.toList = xs.map (entryOfKey (tupleKind (mixKind P w))) ∧ (xs.map (·.1)).Nodup
  | .set S n => h.SetOf (intKind P w) a S n
  | .ins C dx fs => H dx = some (.own a) ∧ fs.length ≤ 1000 ∧ dx ≠ a ∧ h.get? a = some (PySem.W.instObj C dx) ∧
      ∃ mA, h.Ns1 dx mA ∧ (∀ f, RelO (fs.lookup f) (mA f)) ∧ PySem.Within mA (fs.map (·.1))
  | .own _ => ∃ o, h.get? a = some o
  | .xd fs => ∃ mA, h.Ns1 a mA ∧ ∀ f, RelO (fs.lookup f) (mA f)
  | .rng lo hi => ∃ t u v, h.get? a = some { cls := .type "range", data := .fields #[.int lo t, .int hi u, .int 1 v] }
  | .frz o u => h.get? a = some o ∧ ObjOk H h a u
  | .tbl ps => h.get? a = some { cls := .none, data := .fields ps }
  | .met f x => h.get? a = some (PySem.W.methodObj (.ref f) (.ref x))
  | .ext φ => φ h ∧ (∃ o, h.get? a = some o) ∧ ∀ h1 h2 : Heap, φ h1 → (∀ o, h1.get? a = some o → h2.get? a = some o) → φ h2
/-- the abstract heap is held -/
def HOk (H : Hp) (h : Heap) : Prop := ∀ a o, H a = some o → ObjOk P w H h a o
end

section
variable {P : Program} {w : World} {H H' : Hp} {h h' : Heap} {a : Addr} {o : HO}
theorem ObjOk.lt (x : ObjOk P w H h a o) : a < h.objs.size := by
  cases o with
  | lst xs => obtain ⟨_, _, _, _, e⟩ := x; exact Heap.lt_size e
  | tup xs => obtain ⟨_, _, _, p⟩ := x; exact p.lt
  | dK kvs => obtain ⟨_, _, _, _, o, _, _, e, _⟩ := x; exact Heap.lt_size e
  | dT kvs => obtain ⟨_, _, _, _, o, _, _, e, _⟩ := x; exact Heap.lt_size e
  | set S n => obtain ⟨o, _, _, _, e, _⟩ := x; exact Heap.lt_size e
  | ins C dx fs => obtain ⟨_, _, _, e, _⟩ := x; exact Heap.lt_size e
  | own y => obtain ⟨_, e⟩ := x; exact Heap.lt_size e
  | xd fs => obtain ⟨_, ⟨_, _, _, e, _⟩, _⟩ := x; exact Heap.lt_size e
  | rng lo hi => obtain ⟨_, _, _, e⟩ := x; exact Heap.lt_size e
  | frz ob u => obtain ⟨e, _⟩ := x; exact Heap.lt_size e
  | tbl ps => exact Heap.lt_size (show h.get? a = some _ from x)
  | met f y => exact Heap.lt_size (show h.get? a = some _ from x)
  | ext φ => obtain ⟨_, ⟨_, e⟩, _⟩ := x; exact Heap.lt_size e
theorem Paired.mapP {α β : Type} {F G : α → β → Prop} : ∀ {l₁ : List α} {l₂ : List β}, Paired F l₁ l₂ → (∀ a b, F a b → G a b) → Paired G l₁ l₂
  | _, _, .nil, _ => .nil
  | _, _, .cons r t, f => .cons (f _ _ r) (Paired.mapP t f)
/-- what an object's description leans on: its own object, its own dict, the tuples -/
theorem ObjOk.stay (x : ObjOk P w H h a o) (k : ∀ b u, (b = a ∨ H b = some (.own a)) → h.get? b = some u → h'.get? b = some u)
    (ho : ∀ b, H b = some (.own a) → H' b = some (.own a)) (ht : ∀ b xs, H b = some (.tup xs) → H' b = some (.tup xs)) : ObjOk P w H' h' a o := by
  induction o with
  | lst xs => obtain ⟨z, its, n, r, e⟩ := x; exact ⟨z, its, n, r, k _ _ (.inl rfl) e⟩
  | tup xs => obtain ⟨z, its, r, ob, e, c⟩ := x; exact ⟨z, its, r, ob, k _ _ (.inl rfl) e, c⟩
  | dK kvs => obtain ⟨z, y, vs, r, ob, es, ep, e, c⟩ := x; exact ⟨z, y, vs, r, ob, es, ep, k _ _ (.inl rfl) e, c⟩
  | dT kvs =>
    obtain ⟨z, y, xs, r, ob, es, ep, e, c⟩ := x
    exact ⟨z, y, xs, Paired.mapP r fun p q z => ⟨z.1, ht _ _ z.2.1, z.2.2⟩, ob, es, ep, k _ _ (.inl rfl) e, c⟩
  | set S n => obtain ⟨ob, es, ep, t, e, c⟩ := x; exact ⟨ob, es, ep, t, k _ _ (.inl rfl) e, c⟩
  | ins C dx fs =>
    obtain ⟨d, z, ne, e, mA, ⟨od, es, ep, e2, c⟩, r⟩ := x
    exact ⟨ho _ d, z, ne, k _ _ (.inl rfl) e, mA, ⟨od, es, ep, k _ _ (.inr d) e2, c⟩, r⟩
  | own y => obtain ⟨ob, e⟩ := x; exact ⟨ob, k _ _ (.inl rfl) e⟩
  | xd fs => obtain ⟨mA, ⟨od, es, ep, e, c⟩, r⟩ := x; exact ⟨mA, ⟨od, es, ep, k _ _ (.inl rfl) e, c⟩, r⟩
  | rng lo hi => obtain ⟨t, u, v, e⟩ := x; exact ⟨t, u, v, k _ _ (.inl rfl) e⟩
  | frz ob u ih => obtain ⟨e, q⟩ := x; exact ⟨k _ _ (.inl rfl) e, ih q⟩
  | tbl ps =>
    have e : h.get? a = some { cls := .none, data := .fields ps } := x
    show h'.get? a = some { cls := .none, data := .fields ps }
    exact k a _ (.inl rfl) e
  | met f y =>
    have e : h.get? a = some (PySem.W.methodObj (.ref f) (.ref y)) := x
    show h'.get? a = some (PySem.W.methodObj (.ref f) (.ref y))
    exact k a _ (.inl rfl) e
  | ext φ => obtain ⟨p, ⟨o, e⟩, st⟩ := x; exact ⟨st _ _ p fun o q => k _ _ (.inl rfl) q, ⟨o, k _ _ (.inl rfl) e⟩, st⟩
theorem HOk.lt (x : HOk P w H h) (e : H a = some o) : a < h.objs.size := (x a o e).lt
theorem HOk.fresh (x : HOk P w H h) (e : h.objs.size ≤ a) : H a = none := by
  cases q : H a with
  | none => rfl
  | some u => exact absurd (Nat.lt_of_lt_of_le (x.lt q) e) (Nat.lt_irrefl _)
/-- every object of the heap is kept -/
theorem HOk.kept (x : HOk P w H h) (k : ∀ b u, h.get? b = some u → h'.get? b = some u) : HOk P w H h' := fun a o e =>
  (x a o e).stay (fun b u _ q => k b u q) (fun _ q => q) fun _ _ q => q
/-- a new object is laid and tracked -/
theorem HOk.laid (x : HOk P w H h) (k : ∀ b u, h.get? b = some u → h'.get? b = some u) (hp : h.objs.size ≤ a) (new : ObjOk P w (upd H a o) h' a o) : HOk P w (upd H a o) h' := fun b u e => by
  have hn := x.fresh hp
  by_cases hb : b = a
  · subst hb; rw [upd_same] at e; cases e; exact new
  · rw [upd_ne hb] at e
    exact (x b u e).stay (fun c v _ q => k c v q) (fun c q => by rw [upd_ne (ne_of_none q hn)]; exact q) fun c xs q => by rw [upd_ne (ne_of_none q hn)]; exact q
end

/-- what may be read as u: it is u, or a known u -/
def Rd (H : Hp) (a : Addr) (u : HO) : Prop := H a = some u ∨ ∃ o, H a = some (.frz o u)
theorem Rd.ok {P : Program} {w : World} {H : Hp} {h : Heap} {a : Addr} {u : HO} (r : Rd H a u) (x : HOk P w H h) : ObjOk P w H h a u := by
  rcases r with r | ⟨o, r⟩
  · exact x a u r
  · obtain ⟨_, q⟩ := x a _ r
    exact q
/-- what may be written -/
def Mut : Option HO → Prop
  | some (.lst _) => True
  | some (.dK _) => True
  | some (.dT _) => True
  | some (.set _ _) => True
  | some (.ins _ _ _) => True
  | some (.ext _) => True
  | _ => False
section
variable {P : Program} {w : World} {H : Hp} {h h' : Heap} {x e : Addr} {o' : HO}
/-- the object at e is changed: x itself, or the dict of the instance x -/
theorem HOk.write (ok : HOk P w H h) (mu : Mut (H x)) (he : e = x ∨ H e = some (.own x)) (k : ∀ b u, b ≠ e → h.get? b = some u → h'.get? b = some u) (heo : ∃ u, h'.get? e = some u)
    (new : ObjOk P w (upd H x o') h' x o') : HOk P w (upd H x o') h' := fun b u q => by
  have nown : ∀ c y, H c = some (.own y) → c ≠ x := fun c y r z => by subst z; rw [r] at mu; exact mu
  have ntup : ∀ c xs, H c = some (.tup xs) → c ≠ x := fun c xs r z => by subst z; rw [r] at mu; exact mu
  by_cases hb : b = x
  · subst hb; rw [upd_same] at q; cases q; exact new
  · rw [upd_ne hb] at q
    by_cases hbe : b = e
    · have q' : H b = some (.own x) := by
        rcases he with z | z
        · exact absurd (hbe.trans z) hb
        · rw [hbe]; exact z
      rw [q] at q'; cases q'
      obtain ⟨v, hv⟩ := heo
      exact ⟨v, by rw [hbe]; exact hv⟩
    · refine (ok b u q).stay (fun c v hc r => k c v ?_ r) (fun c r => by rw [upd_ne (nown c b r)]; exact r) fun c xs r => by rw [upd_ne (ntup c xs r)]; exact r
      rcases hc with rfl | hc
      · exact hbe
      · rintro rfl
        rcases he with z | z
        · exact nown c b hc z
        · rw [hc] at z; cases z; exact hb rfl
end

/-! ### kept unless tracked; of the frames at fs (the callers') the slots may change (an exception that passes writes there); of the records at ex (iterators) nothing is said -/
structure Un (fs ex : List Addr) (H H' : Hp) (h h' : Heap) : Prop where
  keep : ∀ b o, h.get? b = some o → H b = none → b ∉ fs → b ∉ ex → h'.get? b = some o
  slot : ∀ b o, h.get? b = some o → H b = none → b ∈ fs → b ∉ ex → ∃ sl, h'.get? b = some { o with slots := sl }
  free : ∀ b o, h.get? b = some o → H b = none → b ∉ ex → H' b = none
  there : ∀ b o, h.get? b = some o → b ∉ ex → ∃ o', h'.get? b = some o'
  tups : ∀ b xs, H b = some (.tup xs) → H' b = some (.tup xs)
  frzs : ∀ b o u, H b = some (.frz o u) → H' b = some (.frz o u)
  tbls : ∀ b ps, H b = some (.tbl ps) → ∃ more, H' b = some (.tbl (ps ++ more))
section
variable {fs fs' ex ex' : List Addr} {H H1 H2 : Hp} {h h1 h2 h' : Heap} {a x e : Addr} {o : HO}
theorem Un.any (u : Un fs ex H H1 h h1) {b : Addr} {ob : Obj} (q : h.get? b = some ob) (n : H b = none) (hx : b ∉ ex) : ∃ sl, h1.get? b = some { ob with slots := sl } := by
  by_cases hb : b ∈ fs
  · exact u.slot b ob q n hb hx
  · exact ⟨ob.slots, u.keep b ob q n hb hx⟩
theorem Un.kept (k : ∀ b u, h.get? b = some u → h'.get? b = some u) : Un fs ex H H h h' :=
  ⟨fun b ob q _ _ _ => k b ob q, fun b ob q _ _ _ => ⟨ob.slots, k b ob q⟩, fun _ _ _ n _ => n, fun b ob q _ => ⟨ob, k b ob q⟩, fun _ _ q => q, fun _ _ _ q => q, fun _ ps q => ⟨#[], by rw [q]; simp⟩⟩
theorem Un.refl : Un fs ex H H h h := Un.kept fun _ _ q => q
theorem Un.laid (k : ∀ b u, h.get? b = some u → h'.get? b = some u) (hp : h.objs.size ≤ a) (hn : H a = none) : Un fs ex H (upd H a o) h h' where
  keep := fun b u q _ _ _ => k b u q
  slot := fun b u q _ _ _ => ⟨u.slots, k b u q⟩
  free := fun b u q n _ => by rw [upd_ne (Nat.ne_of_lt (Nat.lt_of_lt_of_le (Heap.lt_size q) hp))]; exact n
  there := fun b u q _ => ⟨u, k b u q⟩
  tups := fun b xs q => by rw [upd_ne (ne_of_none q hn)]; exact q
  frzs := fun b u xs q => by rw [upd_ne (ne_of_none q hn)]; exact q
  tbls := fun b ps q => ⟨#[], by rw [upd_ne (ne_of_none q hn), q]; simp⟩
theorem Un.write (mu : Mut (H x)) (he : e = x ∨ H e = some (.own x)) (k : ∀ b u, b ≠ e → h.get? b = some u → h'.get? b = some u) (heo : ∃ u, h'.get? e = some u) : Un fs ex H (upd H x o) h h' := by
  have hx : ∀ b, H b = none → b ≠ x := fun b n z => by subst z; rw [n] at mu; exact mu
  have hb : ∀ b, H b = none → b ≠ e := fun b n z => by
    subst z
    rcases he with r | r
    · exact hx b n r
    · rw [n] at r; cases r
  have hm : ∀ b u, H b = some u → ¬ Mut (some u) → b ≠ x := fun b u q nm z => by subst z; rw [q] at mu; exact nm mu
  refine ⟨fun b u q n _ _ => k b u (hb b n) q, fun b u q n _ _ => ⟨u.slots, k b u (hb b n) q⟩, fun b u q n _ => by rw [upd_ne (hx b n)]; exact n, fun b u q _ => ?_,
    fun b xs q => by rw [upd_ne (hm b _ q fun z => z)]; exact q, fun b u xs q => by rw [upd_ne (hm b _ q fun z => z)]; exact q, fun b ps q => ⟨#[], by rw [upd_ne (hm b _ q fun z => z), q]; simp⟩⟩
  by_cases hbe : b = e
  · subst hbe; exact heo
  · exact ⟨u, k b u hbe q⟩
end

/-! ### the heap without what is tracked -/
def trk (h : Heap) (H : Hp) : List Addr := (List.range h.objs.size).filter fun a => (H a).isSome
def hidT (h : Heap) (H : Hp) : Heap := PySem.W.hideAll h (trk h H)
theorem hidT_size (h : Heap) (H : Hp) : (hidT h H).objs.size = h.objs.size := PySem.W.hideAll_size _ _
theorem hidT_get {h : Heap} {H : Hp} {b : Addr} {o : Obj} (e : h.get? b = some o) (n : H b = none) : (hidT h H).get? b = some o :=
  PySem.W.hideAll_get _ e fun hm => by
    have q : (H b).isSome = true := (List.mem_filter.mp hm).2
    rw [n] at q; simp at q
theorem of_hidT {h : Heap} {H : Hp} {b : Addr} {o : Obj} (e : (hidT h H).get? b = some o) : h.get? b = some o ∧ H b = none := by
  have e' : h.get? b = some o := PySem.W.of_hideAll (trk h H) e
  refine ⟨e', ?_⟩
  cases q : H b with
  | none => rfl
  | some x =>
    have hm : b ∈ trk h H := List.mem_filter.mpr ⟨List.mem_range.mpr (Heap.lt_size e'), by simp [q]⟩
    have z : (hidT h H).get? b = none := PySem.W.hideAll_none (trk h H) hm
    rw [z] at e; cases e

/-! ### OpenK's ledger, filled with every new object but one -/
end L2

namespace L2
open PySem PySem.Spec PyProof.Rows

/-- the module's facts, over the base: the heap at the law's entry without what is tracked there -/
structure Mod (K : PySem.W.Frag) (mg : Str → Option Value) (base : Heap) : Prop where
  kin : K.In base
  glob : base.Ns mainGlobals mg
  blt : ∃ mb, base.Ns builtinsNs mb ∧ ∀ x : Str, x ≠ "__name__" → mb x = bootBuiltins x
  nolimit : base.NoLimit

/-- the context: a def's body (or a comprehension's block) running. base: fixed through the whole law; s₀, H₀: the entry; outer: the frames whose slots others may change (a def's callers); stack: all frames that run;
   ex: iterators that were made ahead of the entry and are walked here (a comprehension's); fn: the names whose cells were made at the entry (a def: all; a comprehension's block: its own); calm: not within an except suite; pn: pins that every state bears; xe: what is wanted of an exception that leaves the code -/
structure Cx where
  prog : Program
  w : World
  K : PySem.W.Frag
  mg : Str → Option Value
  base : Heap
  A : Around
  N : List Str
  s₀ : Shared
  H₀ : Hp
  env : Env
  outer : List Env
  stack : List Env
  ex : List Addr
  fn : Str → Bool
  calm : Bool
  pn : List (Addr × Obj)
  xe : Value → Shared → Prop
/-- the callers' frames -/
def frs (l : List Env) : List Addr := l.filterMap (·.frame)
abbrev Cx.fs (X : Cx) : List Addr := frs X.outer

def Vis (sc : Scope) (x : Str) : Prop := sc.names.lookup x = some .local ∨ sc.names.lookup x = some .cell ∨ sc.names.lookup x = some .free
def Loc (sc : Scope) (x : Str) : Prop := sc.names.lookup x = some .local ∨ sc.names.lookup x = some .cell
def Look (env : Env) (h : Heap) (m : Str → Option Value) (x : Str) (u : Value) : Prop :=
  (env.kindOf x = some .local ∧ m x = some u) ∨ ((env.kindOf x = some .cell ∨ env.kindOf x = some .free) ∧ ∃ c, env.cells.lookup x = some c ∧ h.IsCell c (some u))

structure Cx.Ok (X : Cx) : Prop where
  mod : Mod X.K X.mg X.base
  kind : X.env.scope.kind = .function
  glob : X.env.globals = mainGlobals
  blt : X.env.builtins = builtinsNs
  above : X.s₀.heap.objs.size ≤ X.env.locals
  inj : ∀ x y c, X.env.cells.lookup x = some c → X.env.cells.lookup y = some c → x = y
  has : ∀ x, (X.env.kindOf x = some .cell ∨ X.env.kindOf x = some .free) → ∃ c, X.env.cells.lookup x = some c
  cab : ∀ x c, X.fn x = true → X.env.cells.lookup x = some c → X.s₀.heap.objs.size ≤ c
  hd : X.calm = true → X.A.handled = none
  frames : X.A.frames = some X.stack
  stk : X.stack = X.outer ∨ (X.stack = X.env :: X.outer ∧ X.env.frame = some X.env.locals)
  exf : ∀ b ∈ X.ex, b ≠ X.env.locals ∧ ∀ x c, X.env.cells.lookup x = some c → c ≠ b
  bs : ∀ b o, X.base.get? b = some o → X.s₀.heap.get? b = some o ∧ X.H₀ b = none
  bsz : X.base.objs.size ≤ X.s₀.heap.objs.size
  noex : ∀ b o, X.base.get? b = some o → b ∉ X.ex
  exfs : ∀ b ∈ X.ex, b ∉ X.fs
  funs : X.s₀.heap.FunFrames X.base X.outer
  frf : ∀ b ∈ X.fs, X.H₀ b = none

structure Inv (X : Cx) (pins : List (Addr × Obj)) (σ : List (Option V)) (H : Hp) (s : Shared) : Prop where
  ok : X.Ok
  os : s.os = X.s₀.os
  bare : AllBare s.gens
  base : Un X.fs X.ex X.H₀ H X.s₀.heap s.heap
  loc : ∃ m, s.heap.Ns X.env.locals m ∧ ∀ (i : Nat) (x : Str) (v : V), X.N[i]? = some x → σ[i]? = some (some v) → Vis X.env.scope x → ∃ u, RelV v u ∧ Look X.env s.heap m x u
  cell : ∀ x c, X.env.cells.lookup x = some c → ∃ v, s.heap.IsCell c v
  free : H X.env.locals = none
  freeC : ∀ x c, X.env.cells.lookup x = some c → H c = none
  pin : ∀ p ∈ X.pn ++ pins, s.heap.get? p.1 = some p.2 ∧ H p.1 = none ∧ p.1 ≠ X.env.locals ∧ p.1 ∉ X.fs ∧ ∀ v, p.2.data ≠ .cell v
  hok : HOk X.prog X.w H s.heap
  len : σ.length = X.N.length

section
variable {X : Cx} {pins : List (Addr × Obj)} {σ : List (Option V)} {H H' : Hp} {s : Shared} {h' : Heap}

theorem Cx.Ok.nofr (ok : X.Ok) {b : Addr} {o : Obj} (e : X.base.get? b = some o) : b ∉ X.fs := fun hb => by
  have := (ok.funs.mem hb).1
  rw [e] at this; cases this
theorem Inv.bs (I : Inv X pins σ H s) : ∀ b o, X.base.get? b = some o → s.heap.get? b = some o ∧ H b = none := fun b o e =>
  ⟨I.base.keep b o (I.ok.bs b o e).1 (I.ok.bs b o e).2 (I.ok.nofr e) (I.ok.noex b o e), I.base.free b o (I.ok.bs b o e).1 (I.ok.bs b o e).2 (I.ok.noex b o e)⟩
theorem Inv.bk (I : Inv X pins σ H s) : ∀ b o, X.base.get? b = some o → s.heap.get? b = some o := fun b o e => (I.bs b o e).1
theorem Inv.mod (I : Inv X pins σ H s) : Mod X.K X.mg X.base := I.ok.mod
theorem Inv.kIn (I : Inv X pins σ H s) : X.K.In s.heap := I.ok.mod.kin.keeps I.bk
theorem Inv.lt (I : Inv X pins σ H s) : X.env.locals < s.heap.objs.size := let ⟨_, hn, _⟩ := I.loc; hn.lt
theorem Inv.sz (I : Inv X pins σ H s) : X.s₀.heap.objs.size ≤ s.heap.objs.size := Nat.le_trans I.ok.above (Nat.le_of_lt I.lt)
theorem Inv.nofs (I : Inv X pins σ H s) {a : Addr} (h : s.heap.objs.size ≤ a) : a ∉ X.fs := fun hb => by
  obtain ⟨_, o, ho, _⟩ := I.ok.funs.mem hb
  exact absurd (Nat.lt_of_lt_of_le (Heap.lt_size ho) (Nat.le_trans I.sz h)) (Nat.lt_irrefl _)
theorem Inv.cne (I : Inv X pins σ H s) : ∀ x c, X.env.cells.lookup x = some c → c ≠ X.env.locals := fun x c e z => by
  obtain ⟨v, o, ho, hd⟩ := I.cell x c e
  obtain ⟨m, ⟨o', es, ep, ho', hd', _⟩, _⟩ := I.loc
  rw [z, ho'] at ho; cases ho; rw [hd'] at hd; cases hd
theorem Inv.funs (I : Inv X pins σ H s) : s.heap.FunFrames X.base X.outer := by
  have all : ∀ (l : List Env), (∀ b ∈ frs l, b ∈ X.fs) → X.s₀.heap.FunFrames X.base l → s.heap.FunFrames X.base l := by
    intro l
    induction l with
    | nil => intro _ _; trivial
    | cons env r ih =>
      intro hs hl
      obtain ⟨hk, ⟨L, o, hf, hn, ho, hd⟩, hr⟩ := hl
      have hL : L ∈ X.fs := hs L (by unfold frs; rw [List.filterMap_cons, hf]; exact List.mem_cons_self)
      obtain ⟨sl, e⟩ := I.base.slot L o ho (I.ok.frf L hL) hL fun z => I.ok.exfs L z hL
      exact ⟨hk, ⟨L, _, hf, hn, e, hd⟩, ih (fun b hb => hs b (by unfold frs; rw [List.filterMap_cons, hf]; exact List.mem_cons_of_mem _ hb)) hr⟩
  exact all X.outer (fun _ hb => hb) I.ok.funs

/-- the frames that run, for a call -/
theorem Inv.stack (I : Inv X pins σ H s) : s.heap.FunFrames X.base X.stack := by
  rcases I.ok.stk with e | ⟨e, hf⟩
  · rw [e]; exact I.funs
  · rw [e]
    obtain ⟨m, hn, _⟩ := I.loc
    refine .cons (by rw [I.ok.kind]; decide) hf hn ?_ I.funs
    exact Heap.get?_none_of_le (Nat.le_trans I.ok.bsz I.ok.above)
theorem Inv.stkSub (I : Inv X pins σ H s) : ∀ b ∈ frs X.stack, b ∈ X.env.locals :: X.fs := fun b hb => by
  rcases I.ok.stk with e | ⟨e, hf⟩
  · rw [e] at hb; exact List.mem_cons_of_mem _ hb
  · rw [e] at hb
    unfold frs at hb
    rw [List.filterMap_cons, hf] at hb
    exact hb
theorem Inv.stkFree (I : Inv X pins σ H s) : ∀ b ∈ frs X.stack, H b = none := fun b hb => by
  rcases List.mem_cons.mp (I.stkSub b hb) with e | hb
  · rw [e]; exact I.free
  · obtain ⟨_, o, ho, _⟩ := I.ok.funs.mem hb
    exact I.base.free b o ho (I.ok.frf b hb) fun z => I.ok.exfs b z hb

/-- THE STEP: the untracked objects but the frame and the records at ch are kept (the callers' frames up to slots), the frame's map is kept, the new abstract heap is held -/
theorem Inv.step {g' : Array GenState} {t' : Nat} {d' : Drawn} {ch : List Addr} (I : Inv X pins σ H s)
    (hch : ∀ b ∈ ch, (b ∈ X.ex ∨ X.s₀.heap.objs.size ≤ b) ∧ b ≠ X.env.locals ∧ (∀ x c, X.env.cells.lookup x = some c → c ≠ b) ∧ ∀ p ∈ X.pn ++ pins, p.1 ≠ b)
    (keep : ∀ b o, b ≠ X.env.locals → b ∉ X.fs → b ∉ ch → s.heap.get? b = some o → H b = none → h'.get? b = some o)
    (slot : ∀ b o, b ≠ X.env.locals → b ∈ X.fs → b ∉ ch → s.heap.get? b = some o → H b = none → ∃ sl, h'.get? b = some { o with slots := sl }) (free : ∀ b o, b ∉ ch → s.heap.get? b = some o → H b = none → H' b = none)
    (there : ∀ b o, b ∉ ch → s.heap.get? b = some o → ∃ o', h'.get? b = some o')
    (tups : ∀ b xs, H b = some (.tup xs) → H' b = some (.tup xs)) (frzs : ∀ b o u, H b = some (.frz o u) → H' b = some (.frz o u)) (tbls : ∀ b ps, H b = some (.tbl ps) → ∃ more, H' b = some (.tbl (ps ++ more)))
    (ns : ∀ m, s.heap.Ns X.env.locals m → h'.Ns X.env.locals m) (hok : HOk X.prog X.w H' h') (hg : AllBare g') :
    Inv X pins σ H' { s with heap := h', gens := g', drawn := d', toks := t' } := by
  have neL : ∀ b o, X.s₀.heap.get? b = some o → b ≠ X.env.locals := fun b o e => Nat.ne_of_lt (Nat.lt_of_lt_of_le (Heap.lt_size e) I.ok.above)
  have neC : ∀ b o, X.s₀.heap.get? b = some o → b ∉ X.ex → b ∉ ch := fun b o e hx hb => by
    rcases (hch b hb).1 with z | z
    · exact hx z
    · exact absurd (Nat.lt_of_lt_of_le (Heap.lt_size e) z) (Nat.lt_irrefl _)
  have cellK : ∀ x c, X.env.cells.lookup x = some c → ∀ v, s.heap.IsCell c v → h'.IsCell c v := fun x c e v ⟨o, ho, hd⟩ => by
    have nch : c ∉ ch := fun z => (hch c z).2.2.1 x c e rfl
    by_cases hc : c ∈ X.fs
    · obtain ⟨sl, q⟩ := slot c o (I.cne x c e) hc nch ho (I.freeC x c e)
      exact ⟨_, q, hd⟩
    · exact ⟨o, keep c o (I.cne x c e) hc nch ho (I.freeC x c e), hd⟩
  refine ⟨I.ok, I.os, hg, ⟨fun b o e n hb hx => ?_, fun b o e n hb hx => ?_, fun b o e n hx => ?_, fun b o e hx => ?_, fun b xs e => tups b xs (I.base.tups b xs e), fun b o xs e => frzs b o xs (I.base.frzs b o xs e), fun b ps e => ?_⟩, ?_, fun x c e => ?_, ?_, fun x c e => ?_, fun p hp => ?_, hok, I.len⟩
  · exact keep b o (neL b o e) hb (neC b o e hx) (I.base.keep b o e n hb hx) (I.base.free b o e n hx)
  · obtain ⟨sl, e1⟩ := I.base.slot b o e n hb hx
    obtain ⟨sl', e2⟩ := slot b _ (neL b o e) hb (neC b o e hx) e1 (I.base.free b o e n hx)
    exact ⟨sl', e2⟩
  · obtain ⟨o', e1⟩ := I.base.there b o e hx
    exact free b o' (neC b o e hx) e1 (I.base.free b o e n hx)
  · obtain ⟨o', e1⟩ := I.base.there b o e hx
    exact there b o' (neC b o e hx) e1
  · obtain ⟨m1, e1⟩ := I.base.tbls b ps e
    obtain ⟨m2, e2⟩ := tbls b _ e1
    exact ⟨m1 ++ m2, by rw [e2, Array.append_assoc]⟩
  · obtain ⟨m, hn, hl⟩ := I.loc
    refine ⟨m, ns m hn, fun i x v e1 e2 e3 => ?_⟩
    obtain ⟨u, r, l⟩ := hl i x v e1 e2 e3
    refine ⟨u, r, ?_⟩
    rcases l with l | ⟨k, c, e, z⟩
    · exact .inl l
    · exact .inr ⟨k, c, e, cellK x c e _ z⟩
  · obtain ⟨v, z⟩ := I.cell x c e
    exact ⟨v, cellK x c e v z⟩
  · obtain ⟨m, ⟨o, _, _, ho, _⟩, _⟩ := I.loc
    exact free _ o (fun z => (hch _ z).2.1 rfl) ho I.free
  · obtain ⟨v, o, ho, hd⟩ := I.cell x c e
    exact free c o (fun z => (hch c z).2.2.1 x c e rfl) ho (I.freeC x c e)
  · obtain ⟨e, n, ne, nf, d⟩ := I.pin p hp
    have nch : p.1 ∉ ch := fun z => (hch p.1 z).2.2.2 p hp rfl
    exact ⟨keep p.1 p.2 ne nf nch e n, free p.1 p.2 nch e n, ne, nf, d⟩
/-- .. where the frame's own object is kept too -/
theorem Inv.un {t' : Nat} (I : Inv X pins σ H s) (u : Un X.fs [] H H' s.heap h') (hok : HOk X.prog X.w H' h') : Inv X pins σ H' { s with heap := h', toks := t' } := by
  obtain ⟨m, ⟨o, es, ep, ho, r⟩, _⟩ := id I.loc
  obtain ⟨sl, hL⟩ := u.any ho I.free (by simp)
  exact I.step (g' := s.gens) (d' := s.drawn) (ch := []) (fun _ z => nomatch z) (fun b o _ hb _ e n => u.keep b o e n hb (by simp)) (fun b o _ hb _ e n => u.slot b o e n hb (by simp)) (fun b o _ e n => u.free b o e n (by simp)) (fun b o _ e => u.there b o e (by simp)) u.tups u.frzs u.tbls (fun m' hm => by
    obtain ⟨o', es', ep', ho', r'⟩ := hm
    rw [ho] at ho'; cases ho'
    exact ⟨_, es', ep', hL, r'⟩) hok I.bare
/-- behind a call (or a comprehension's block): the slots of this frame may have changed too, the records at ch may have turned -/
theorem Inv.call {g' : Array GenState} {t' : Nat} {d' : Drawn} {ch : List Addr} (I : Inv X pins σ H s) (u : Un (frs X.stack) ch H H' s.heap h') (hok : HOk X.prog X.w H' h') (hg : AllBare g')
    (hch : ∀ b ∈ ch, (b ∈ X.ex ∨ X.s₀.heap.objs.size ≤ b) ∧ b ≠ X.env.locals ∧ (∀ x c, X.env.cells.lookup x = some c → c ≠ b) ∧ ∀ p ∈ X.pn ++ pins, p.1 ≠ b) :
    Inv X pins σ H' { s with heap := h', gens := g', drawn := d', toks := t' } := by
  obtain ⟨m, ⟨o, es, ep, ho, r⟩, _⟩ := id I.loc
  obtain ⟨sl, hL⟩ := u.any ho I.free fun z => (hch _ z).2.1 rfl
  exact I.step (ch := ch) hch (fun b o hL hb hc e n => u.keep b o e n (fun z => (List.mem_cons.mp (I.stkSub b z)).elim hL hb) hc) (fun b o _ _ hc e n => u.any e n hc) (fun b o hc e n => u.free b o e n hc) (fun b o hc e => u.there b o e hc) u.tups u.frzs u.tbls (fun m' hm => by
    obtain ⟨o', es', ep', ho', r'⟩ := hm
    rw [ho] at ho'; cases ho'
    exact ⟨_, es', ep', hL, r'⟩) hok hg
/-- an untracked record of ours (an iterator) has turned -/
theorem Inv.turned {t' : Nat} {it : Addr} (I : Inv X pins σ H s) (k : ∀ b o, b ≠ it → s.heap.get? b = some o → h'.get? b = some o) (hn : H it = none) (hL : it ≠ X.env.locals)
    (h1 : it ∈ X.ex ∨ X.s₀.heap.objs.size ≤ it) (h2 : ∀ x c, X.env.cells.lookup x = some c → c ≠ it) (h3 : ∀ p ∈ X.pn ++ pins, p.1 ≠ it) : Inv X pins σ H { s with heap := h', toks := t' } := by
  have nit : ∀ b u, H b = some u → b ≠ it := fun b u e z => by rw [z, hn] at e; cases e
  refine I.step (g' := s.gens) (d' := s.drawn) (ch := [it]) (fun b hb => ?_) (fun b o _ _ hc e _ => k b o (fun z => hc (by simp [z])) e) (fun b o _ _ hc e _ => ⟨o.slots, k b o (fun z => hc (by simp [z])) e⟩) (fun _ _ _ _ n => n)
    (fun b o hc e => ⟨o, k b o (fun z => hc (by simp [z])) e⟩) (fun _ _ e => e) (fun _ _ _ e => e) (fun b ps e => ⟨#[], by rw [e]; simp⟩) (fun m hm => ?_) (fun b u e => ?_) I.bare
  · have e : b = it := by simpa using hb
    subst e
    exact ⟨h1, hL, h2, h3⟩
  · obtain ⟨o, es, ep, ho, r⟩ := hm
    exact ⟨o, es, ep, k _ o (Ne.symm hL) ho, r⟩
  · refine (I.hok b u e).stay (fun c v hc q => k c v ?_ q) (fun _ q => q) fun _ _ q => q
    rcases hc with z | z
    · rw [z]; exact nit b u e
    · exact nit c _ z
theorem Inv.tok (I : Inv X pins σ H s) (t : Nat) : Inv X pins σ H { s with toks := t } := I.un (h' := s.heap) (t' := t) Un.refl I.hok
/-- all objects kept -/
theorem Inv.kept {t' : Nat} (I : Inv X pins σ H s) (k : ∀ b u, s.heap.get? b = some u → h'.get? b = some u) : Inv X pins σ H { s with heap := h', toks := t' } := I.un (Un.kept k) (I.hok.kept k)
/-- a new object laid and tracked -/
theorem Inv.laid {a : Addr} {o : HO} {t' : Nat} (I : Inv X pins σ H s) (k : ∀ b u, s.heap.get? b = some u → h'.get? b = some u) (hp : s.heap.objs.size ≤ a) (new : ObjOk X.prog X.w (upd H a o) h' a o) :
    Inv X pins σ (upd H a o) { s with heap := h', toks := t' } := I.un (Un.laid k hp (I.hok.fresh hp)) (I.hok.laid k hp new)
/-- an object written -/
theorem Inv.write {x e : Addr} {o : HO} {t' : Nat} (I : Inv X pins σ H s) (mu : Mut (H x)) (he : e = x ∨ H e = some (.own x)) (k : ∀ b u, b ≠ e → s.heap.get? b = some u → h'.get? b = some u) (heo : ∃ u, h'.get? e = some u)
    (new : ObjOk X.prog X.w (upd H x o) h' x o) : Inv X pins σ (upd H x o) { s with heap := h', toks := t' } := I.un (Un.write mu he k heo) (I.hok.write mu he k heo new)
theorem Inv.pins_of {pins' : List (Addr × Obj)} (I : Inv X pins σ H s) (h : ∀ p ∈ pins', s.heap.get? p.1 = some p.2 ∧ H p.1 = none ∧ p.1 ≠ X.env.locals ∧ p.1 ∉ X.fs ∧ ∀ v, p.2.data ≠ .cell v) : Inv X pins' σ H s :=
  ⟨I.ok, I.os, I.bare, I.base, I.loc, I.cell, I.free, I.freeC, fun p hp => (List.mem_append.mp hp).elim (fun z => I.pin p (List.mem_append_left _ z)) (h p), I.hok, I.len⟩

theorem nodup_ix {N : List Str} (hN : N.Nodup) {i j : Nat} {x : Str} (a : N[i]? = some x) (b : N[j]? = some x) : i = j := by
  obtain ⟨h1, e1⟩ := List.getElem?_eq_some_iff.mp a
  obtain ⟨h2, e2⟩ := List.getElem?_eq_some_iff.mp b
  exact (List.getElem_inj hN).mp (e1.trans e2.symm)

/-- a name is stored; what changed -/
theorem store_ok2 {M : Model} {A : Around} {E : Value → Shared → Prop} {i : Nat} {x : Str} {v : V} {u : Value} {Q : Unit → Shared → Prop} (I : Inv X pins σ H s) (hN : X.N.Nodup) (hi : X.N[i]? = some x) (hx : Loc X.env.scope x) (r : RelV v u)
    (h : ∀ s', Inv X pins (σ.set i (some v)) H s' → (∃ a, Heap.SameBut a s.heap s'.heap ∧ (a = X.env.locals ∨ X.env.cells.lookup x = some a)) → Q () s') (hf : X.fn x = true ∨ X.env.scope.names.lookup x = some .local := by first | exact .inl rfl | exact .inr rfl | assumption) : wpAny M A (storeName X.env x u) Q E s := by
  obtain ⟨m, hn, hl⟩ := id I.loc
  have hcls : (X.env.scope.kind == .class || (X.env.scope.kind == .module && X.env.locals != X.env.globals)) = false := by rw [I.ok.kind]; rfl
  have hiσ : i < σ.length := by rw [I.len]; exact (List.getElem?_eq_some_iff.mp hi).1
  have cne := I.cne
  have tracked : ∀ {a : Addr} {h' : Heap}, (∃ o, s.heap.get? a = some o ∧ H a = none) → Heap.SameBut a s.heap h' → HOk X.prog X.w H h' := fun {a h'} ha hs b ob e => by
    obtain ⟨_, _, hfree⟩ := ha
    refine (I.hok b ob e).stay (fun c w' hc q => (hs.2 c ?_).trans q) (fun _ q => q) fun _ _ q => q
    rintro rfl
    rcases hc with rfl | hc
    · rw [hfree] at e; cases e
    · rw [hfree] at hc; cases hc
  rcases hx with hk | hk
  · refine wpAny_storeName_local hk hn (fun h' hn' hs => ?_) hcls
    obtain ⟨oL, _, _, hoL, _⟩ := id hn
    refine h _ ⟨I.ok, I.os, I.bare, ⟨fun b o e n hb hx => ?_, fun b o e n hb hx => ?_, I.base.free, fun b o e hx => ?_, I.base.tups, I.base.frzs, I.base.tbls⟩, ⟨_, hn', fun j y v' e1 e2 e3 => ?_⟩, fun y c e => ?_, I.free, I.freeC, fun p hp => ?_, tracked ⟨oL, hoL, I.free⟩ hs, by simpa using I.len⟩ ⟨_, hs, .inl rfl⟩
    · exact (hs.2 b (Nat.ne_of_lt (Nat.lt_of_lt_of_le (Heap.lt_size e) I.ok.above))).trans (I.base.keep b o e n hb hx)
    · obtain ⟨sl, e1⟩ := I.base.slot b o e n hb hx
      exact ⟨sl, (hs.2 b (Nat.ne_of_lt (Nat.lt_of_lt_of_le (Heap.lt_size e) I.ok.above))).trans e1⟩
    · obtain ⟨o', e1⟩ := I.base.there b o e hx
      exact ⟨o', (hs.2 b (Nat.ne_of_lt (Nat.lt_of_lt_of_le (Heap.lt_size e) I.ok.above))).trans e1⟩
    · by_cases hj : j = i
      · subst hj
        rw [hi] at e1; cases e1
        rw [List.getElem?_set_self hiσ] at e2
        cases e2
        exact ⟨u, r, .inl ⟨hk, by simp⟩⟩
      · rw [List.getElem?_set_ne (Ne.symm hj)] at e2
        obtain ⟨u', r', q⟩ := hl j y v' e1 e2 e3
        refine ⟨u', r', ?_⟩
        rcases q with ⟨k, e⟩ | ⟨k, c, e, z⟩
        · refine .inl ⟨k, ?_⟩
          have : y ≠ x := fun e => hj (nodup_ix hN e1 (e ▸ hi))
          simp [this, e]
        · exact .inr ⟨k, c, e, z.sameBut hs (cne y c e)⟩
    · obtain ⟨w', z⟩ := I.cell y c e
      exact ⟨w', z.sameBut hs (cne y c e)⟩
    · obtain ⟨e, n, ne, nf, d⟩ := I.pin p hp
      exact ⟨(hs.2 p.1 ne).trans e, n, ne, nf, d⟩
  · have hfn : X.fn x = true := by
      rcases hf with z | z
      · exact z
      · rw [z] at hk; cases hk
    obtain ⟨c, hc⟩ := I.ok.has x (.inl hk)
    obtain ⟨w', z⟩ := I.cell x c hc
    refine wpAny_storeName_cell I.ok.kind hk hc z (fun h' hc' hs => ?_)
    obtain ⟨oc, hoc, hocd⟩ := id z
    refine h { s with heap := h' } ⟨I.ok, I.os, I.bare, ⟨fun b o e n hb hx => ?_, fun b o e n hb hx => ?_, I.base.free, fun b o e hx => ?_, I.base.tups, I.base.frzs, I.base.tbls⟩, ⟨m, hn.sameBut hs (Ne.symm (cne x c hc)), fun j y v' e1 e2 e3 => ?_⟩, fun y c' e => ?_, I.free, I.freeC, fun p hp => ?_, tracked ⟨oc, hoc, I.freeC x c hc⟩ hs, by simpa using I.len⟩ ⟨c, hs, .inr hc⟩
    · exact (hs.2 b (Nat.ne_of_lt (Nat.lt_of_lt_of_le (Heap.lt_size e) (I.ok.cab x c hfn hc)))).trans (I.base.keep b o e n hb hx)
    · obtain ⟨sl, e1⟩ := I.base.slot b o e n hb hx
      exact ⟨sl, (hs.2 b (Nat.ne_of_lt (Nat.lt_of_lt_of_le (Heap.lt_size e) (I.ok.cab x c hfn hc)))).trans e1⟩
    · obtain ⟨o', e1⟩ := I.base.there b o e hx
      exact ⟨o', (hs.2 b (Nat.ne_of_lt (Nat.lt_of_lt_of_le (Heap.lt_size e) (I.ok.cab x c hfn hc)))).trans e1⟩
    · by_cases hj : j = i
      · subst hj
        rw [hi] at e1; cases e1
        rw [List.getElem?_set_self hiσ] at e2
        cases e2
        exact ⟨u, r, .inr ⟨.inl hk, c, hc, hc'⟩⟩
      · rw [List.getElem?_set_ne (Ne.symm hj)] at e2
        obtain ⟨u', r', q⟩ := hl j y v' e1 e2 e3
        refine ⟨u', r', ?_⟩
        rcases q with q | ⟨k, c', e, z'⟩
        · exact .inl q
        · refine .inr ⟨k, c', e, z'.sameBut hs ?_⟩
          rintro rfl
          exact hj (nodup_ix hN e1 (I.ok.inj _ _ _ e hc ▸ hi))
    · by_cases hcc : c' = c
      · subst hcc; exact ⟨_, hc'⟩
      · obtain ⟨w2, z2⟩ := I.cell y c' e
        exact ⟨w2, z2.sameBut hs hcc⟩
    · obtain ⟨e, n, ne, nf, d⟩ := I.pin p hp
      refine ⟨(hs.2 p.1 ?_).trans e, n, ne, nf, d⟩
      intro q
      rw [q, hoc] at e
      have q' : oc = p.2 := Option.some.inj e
      exact d w' (by rw [← q']; exact hocd)
theorem store_ok {M : Model} {A : Around} {E : Value → Shared → Prop} {i : Nat} {x : Str} {v : V} {u : Value} {Q : Unit → Shared → Prop} (I : Inv X pins σ H s) (hN : X.N.Nodup) (hi : X.N[i]? = some x) (hx : Loc X.env.scope x) (r : RelV v u)
    (h : ∀ s', Inv X pins (σ.set i (some v)) H s' → Q () s') (hf : X.fn x = true ∨ X.env.scope.names.lookup x = some .local := by first | exact .inl rfl | exact .inr rfl | assumption) : wpAny M A (storeName X.env x u) Q E s :=
  store_ok2 I hN hi hx r (fun s' I' _ => h s' I') hf
/-- behind a call or a block, the state as it is -/
theorem Inv.call' {s' : Shared} {ch : List Addr} (I : Inv X pins σ H s) (ho : s'.os = s.os) (u : Un (frs X.stack) ch H H' s.heap s'.heap) (hok : HOk X.prog X.w H' s'.heap) (hg : AllBare s'.gens)
    (hch : ∀ b ∈ ch, (b ∈ X.ex ∨ X.s₀.heap.objs.size ≤ b) ∧ b ≠ X.env.locals ∧ (∀ x c, X.env.cells.lookup x = some c → c ≠ b) ∧ ∀ p ∈ X.pn ++ pins, p.1 ≠ b) : Inv X pins σ H' s' := by
  obtain ⟨h', g', d', t', o'⟩ := s'
  have e : o' = s.os := ho
  subst e
  exact I.call (g' := g') (t' := t') (d' := d') u hok hg hch
end

/-! ### the judgements -/
/-- an exception: its class, its own dict's address (where it has one), the abstract heap behind it -/
abbrev XK := Value → Option Addr → Hp → Prop
abbrev St := List (Option V)
abbrev VK := V → Hp → Prop
/-- an expression's reading; a test's; an argument list's -/
abbrev TE := St → Hp → VK → Prop
abbrev TT := St → Hp → (Bool → Hp → Prop) → Prop
abbrev TA := St → Hp → (List V → Hp → Prop) → Prop
/-- what is wanted behind a statement -/
structure Ends where
  nx : St → Hp → Prop
  rt : VK
  bk : St → Hp → Prop := fun _ _ => False
  ct : St → Hp → Prop := fun _ _ => False
abbrev TS := Ends → St → Hp → Prop

def EP (X : Cx) (pins : List (Addr × Obj)) (σ : St) (Q : VK) (u : Value) (s' : Shared) : Prop := ∃ v H', Inv X pins σ H' s' ∧ RelV v u ∧ Q v H'
def TP (X : Cx) (pins : List (Addr × Obj)) (σ : St) (Q : Bool → Hp → Prop) (b : Bool) (s' : Shared) : Prop := ∃ H', Inv X pins σ H' s' ∧ Q b H'
def AP (X : Cx) (pins : List (Addr × Obj)) (σ : St) (Q : List V → Hp → Prop) (us : List Value) (s' : Shared) : Prop := ∃ vs H', Inv X pins σ H' s' ∧ Vals vs us ∧ Q vs H'
def SP (X : Cx) (pins : List (Addr × Obj)) (D : Ends) (f : Flow) (s' : Shared) : Prop :=
  match f with
  | .next => ∃ σ' H', Inv X pins σ' H' s' ∧ D.nx σ' H'
  | .brk => ∃ σ' H', Inv X pins σ' H' s' ∧ D.bk σ' H'
  | .cont => ∃ σ' H', Inv X pins σ' H' s' ∧ D.ct σ' H'
  | .ret u => ∃ v σ' H', Inv X pins σ' H' s' ∧ RelV v u ∧ D.rt v H'

def PE (X : Cx) (e : Expr) (t : TE) : Prop :=
  ∀ (pins : List (Addr × Obj)) (s : Shared) (σ : St) (H : Hp) (Q : VK), Inv X pins σ H s → t σ H Q → wpAny (model X.prog X.w) X.A (eval e X.env) (EP X pins σ Q) X.xe s
def PT (X : Cx) (e : Expr) (t : TT) : Prop :=
  ∀ (pins : List (Addr × Obj)) (s : Shared) (σ : St) (H : Hp) (Q : Bool → Hp → Prop), Inv X pins σ H s → t σ H Q → wpAny (model X.prog X.w) X.A (isTrue e X.env (eval e X.env)) (TP X pins σ Q) X.xe s
/-- a test whatever its 'whole' is (and, or) -/
def PW (X : Cx) (e : Expr) (t : TT) : Prop :=
  ∀ (whole : Sem Value) (pins : List (Addr × Obj)) (s : Shared) (σ : St) (H : Hp) (Q : Bool → Hp → Prop), Inv X pins σ H s → t σ H Q → wpAny (model X.prog X.w) X.A (isTrue e X.env whole) (TP X pins σ Q) X.xe s
theorem PW.pt {X : Cx} {e : Expr} {t : TT} (h : PW X e t) : PT X e t := h _
/-- an argument list (no star), from the left -/
def PA (X : Cx) (es : List Expr) (t : TA) : Prop :=
  ∀ (pos : Pos) (pins : List (Addr × Obj)) (s : Shared) (σ : St) (H : Hp) (Q : List V → Hp → Prop), Inv X pins σ H s → t σ H Q → wpAny (model X.prog X.w) X.A (spliced (backTo pos (starEach es X.env))) (AP X pins σ Q) X.xe s
def PS (X : Cx) (st : Stmt) (t : TS) : Prop :=
  ∀ (pins : List (Addr × Obj)) (s : Shared) (σ : St) (H : Hp) (D : Ends), Inv X pins σ H s → t D σ H → wpAny (model X.prog X.w) X.A (exec st X.env) (SP X pins D) X.xe s
def PSs (X : Cx) (st : List Stmt) (t : TS) : Prop :=
  ∀ (pins : List (Addr × Obj)) (s : Shared) (σ : St) (H : Hp) (D : Ends), Inv X pins σ H s → t D σ H → wpAny (model X.prog X.w) X.A (execs st X.env) (SP X pins D) X.xe s
/-- weaken the end -/
theorem thn {α : Type} {t : Sem α} {Q Q' : α → Shared → Prop} {M : Model} {A : Around} {E : Value → Shared → Prop} {s : Shared} (h : wpAny M A t Q E s) (hQ : ∀ a s, Q a s → Q' a s) : wpAny M A t Q' E s := wpAny_mono h hQ fun _ _ x => x
end L2

namespace L2
open PySem PySem.Spec PyProof.Rows
section
variable {X : Cx}


/-! ### names and constants -/
def tVar (i : Nat) : TE := fun σ H Q => ∃ v, σ[i]? = some (some v) ∧ Q v H
def tC (v : V) : TE := fun _ H Q => Q v H
theorem pe_var {i : Nat} {x : Str} {pos : Pos} (hN : X.N[i]? = some x) (hv : Vis X.env.scope x) (hd : (x == ("__debug__" : Str)) = false := by decide) (hcd : (x == ("__classdict__" : Str)) = false := by decide) : PE X (.Name x pos) (tVar i) := by
  intro pins s σ H Q I h
  obtain ⟨v, e, h⟩ := h
  obtain ⟨m, hn, hl⟩ := I.loc
  obtain ⟨u, r, l⟩ := hl i x v hN e hv
  have fin : EP X pins σ Q u s := ⟨v, H, I, r, h⟩
  rcases l with ⟨hk, hm⟩ | ⟨hk, c, hc, hcell⟩
  · exact wpAny_Name (wpAny_loadName_local I.ok.kind hk hn hm fin) hd
  · rcases hk with hk | hk
    · exact wpAny_Name (wpAny_loadName_cell I.ok.kind hk hc hcell fin) hd
    · exact wpAny_Name (wpAny_loadName_free I.ok.kind hk hc hcell fin hcd) hd
theorem pe_int {i j pos} : PE X (.Constant (.int i) j pos) (tC (.int i)) := fun _ _ _ H _ I h => wpAny_Constant_int ⟨.int i, H, I.tok _, ⟨_, rfl⟩, h⟩
theorem pe_bl {b j pos} : PE X (.Constant (.bool b) j pos) (tC (.bl b)) := fun _ _ _ H _ I h => Constant_bool ⟨.bl b, H, I, rfl, h⟩
theorem pe_non {j pos} : PE X (.Constant .none j pos) (tC .non) := fun _ _ _ H _ I h => Constant_none ⟨.non, H, I, rfl, h⟩
theorem pe_str {x j pos} : PE X (.Constant (.str x) j pos) (tC (.str x)) := fun _ _ _ H _ I h => Calls.Constant_str ⟨.str x, H, I.tok _, ⟨_, rfl⟩, h⟩

/-- a global name of the def -/
def Gl (X : Cx) (x : Str) : Prop := X.env.kindOf x = some .globalImplicit
theorem ld_glob {E : Value → Shared → Prop} {pins : List (Addr × Obj)} {s : Shared} {σ : St} {H : Hp} {x : Str} {u : Value} {pos : Pos} {Q : Value → Shared → Prop} (I : Inv X pins σ H s) (hg : Gl X x) (hm : X.mg x = some u) (h : Q u s)
    (hd : (x == ("__debug__" : Str)) = false := by decide) : wpAny (model X.prog X.w) X.A (eval (.Name x pos) X.env) Q E s :=
  Calls.Name_function_global I.ok.kind hg (Calls.loadGlobal_global (by rw [I.ok.glob]; exact I.mod.glob.keeps I.bk) hm h) hd
theorem ld_blt {E : Value → Shared → Prop} {pins : List (Addr × Obj)} {s : Shared} {σ : St} {H : Hp} {x : Str} {u : Value} {pos : Pos} {Q : Value → Shared → Prop} (I : Inv X pins σ H s) (hg : Gl X x) (hm : X.mg x = none) (hv : bootBuiltins x = some u) (h : Q u s)
    (hn : x ≠ "__name__" := by decide) (hd : (x == ("__debug__" : Str)) = false := by decide) : wpAny (model X.prog X.w) X.A (eval (.Name x pos) X.env) Q E s := by
  obtain ⟨mb, h1, h2⟩ := I.mod.blt
  exact Calls.Name_function_global I.ok.kind hg (Calls.loadGlobal_builtin (by rw [I.ok.glob]; exact I.mod.glob.keeps I.bk) hm (by rw [I.ok.blt]; exact h1.keeps I.bk) ((h2 x hn).trans hv) h) hd
/-- a module's constant, a class, a function, as a value -/
theorem pe_glob {x : Str} {v : V} {u : Value} {pos : Pos} (hg : Gl X x) (hm : X.mg x = some u) (r : RelV v u) (hd : (x == ("__debug__" : Str)) = false := by decide) : PE X (.Name x pos) (tC v) :=
  fun _ _ _ H _ I h => ld_glob I hg hm ⟨v, H, I, r, h⟩ hd
theorem pe_bltn {x : Str} {v : V} {u : Value} {pos : Pos} (hg : Gl X x) (hm : X.mg x = none) (hv : bootBuiltins x = some u) (r : RelV v u) (hn : x ≠ "__name__" := by decide) (hd : (x == ("__debug__" : Str)) = false := by decide) : PE X (.Name x pos) (tC v) :=
  fun _ _ _ H _ I h => ld_blt I hg hm hv ⟨v, H, I, r, h⟩ hn hd

/-! ### arithmetic -/
variable {a b : Expr} {ta tb : TE} {pos : Pos}

/-! ### comparisons -/
def PC (X : Cx) (op : CmpOp) (a b : Expr) (t : TE) : Prop :=
  ∀ (pins : List (Addr × Obj)) (s : Shared) (σ : St) (H : Hp) (Q : VK), Inv X pins σ H s → t σ H Q →
    wpAny (model X.prog X.w) X.A (eval a X.env) (fun v s₁ => wpAny (model X.prog X.w) X.A (eval b X.env) (fun u s₂ => wpAny (model X.prog X.w) X.A (compareOp op v u) (EP X pins σ Q) X.xe s₂) X.xe s₁) X.xe s
theorem nobehind (b : Expr) {op : CmpOp} (h : op ≠ .In) (h2 : op ≠ .NotIn) : behindInMarks op b = false := by
  have e1 : (op == CmpOp.In) = false := by cases op <;> first | rfl | exact absurd rfl h
  have e2 : (op == CmpOp.NotIn) = false := by cases op <;> first | rfl | exact absurd rfl h2
  cases b <;> simp [behindInMarks, e1, e2]
/-- is None -/
def tIsN (ta : TE) : TE := fun σ H Q => ta σ H fun x H1 => Q (.bl (decide (x = .non))) H1
def tNotN (ta : TE) : TE := fun σ H Q => ta σ H fun x H1 => Q (.bl (!decide (x = .non))) H1
theorem RelV.none_iff {x : V} {v : Value} (r : RelV x v) : (v == Value.none) = decide (x = .non) := by
  cases x with
  | non => cases r; rfl
  | bl _ => cases r; rfl
  | int _ => obtain ⟨t, rfl⟩ := r; rfl
  | str _ => obtain ⟨t, rfl⟩ := r; rfl
  | byt _ => obtain ⟨t, rfl⟩ := r; rfl
  | flt _ => obtain ⟨t, rfl⟩ := r; rfl
  | ref _ => cases r; rfl
  | ty _ => cases r; rfl
theorem pc_isN {j pos'} (ha : PE X a ta) : PC X .Is a (.Constant .none j pos') (tIsN ta) := by
  intro pins s σ H Q I h
  refine thn (ha pins s σ H _ I h) fun v s1 ⟨x, H1, I1, r1, q1⟩ => ?_
  exact Constant_none (is_none_gen ⟨.bl _, H1, I1, by rw [r1.none_iff]; rfl, q1⟩)
theorem pc_notN {j pos'} (ha : PE X a ta) : PC X .IsNot a (.Constant .none j pos') (tNotN ta) := by
  intro pins s σ H Q I h
  refine thn (ha pins s σ H _ I h) fun v s1 ⟨x, H1, I1, r1, q1⟩ => ?_
  exact Constant_none (isnot_none_gen ⟨.bl _, H1, I1, by rw [r1.none_iff]; rfl, q1⟩)
/-- a comparison as a value, as a test -/
def tB (t : TE) : TT := fun σ H Q => t σ H fun x H1 => ∃ c, x = .bl c ∧ Q c H1
theorem pt_cmp {op : CmpOp} {t : TE} (h : PC X op a b t) (h1 : behindInMarks op b = false := by first | exact nobehind _ (by decide) (by decide) | rfl) : PT X (.Compare a [op] [b] pos) (tB t) := by
  intro pins s σ H Q I hw
  refine wpAny_isTrue_Compare1 (thn (h pins s σ H _ I hw) fun v s1 h1 => thn h1 fun u s2 h2 => thn h2 fun c s3 ⟨x, H1, I1, r1, q1⟩ => ?_) h1
  obtain ⟨d, rfl, q⟩ := q1
  cases r1
  exact wpAny_truthy_bool ⟨H1, I1, q⟩
/-- an expression whose value is a bool, as a test -/
theorem pt_val {e : Expr} {t : TE} (h : PE X e t) (he : ∀ whole, isTrue e X.env whole = (do let v ← whole; standAt e.pos; holding [v] (truthy v)) := by intro _; rfl) : PT X e (tB t) := by
  intro pins s σ H Q I hw
  refine isTrue_plain (thn (h pins s σ H _ I hw) fun v s1 ⟨x, H1, I1, r1, q1⟩ => ?_) (he _)
  obtain ⟨d, rfl, q⟩ := q1
  cases r1
  exact wpAny_truthy_bool ⟨H1, I1, q⟩

/-! ### and, or, not -/
variable {tA tB' : TT} {rest : List Expr}
def tAnd (t u : TT) : TT := fun σ H Q => t σ H fun c H1 => if c = true then u σ H1 Q else Q false H1
def tOr (t u : TT) : TT := fun σ H Q => t σ H fun c H1 => if c = true then Q true H1 else u σ H1 Q
def tNot (t : TT) : TT := fun σ H Q => t σ H fun c H1 => Q (!c) H1
theorem pw_and1 (ha : PT X a tA) : PW X (.BoolOp .And [a] pos) tA := by
  intro wh pins s σ H Q I h
  refine isTrue_and (thn (ha pins s σ H Q I h) fun c s1 e => ?_)
  cases c with
  | true => exact isTrue_and_nil e
  | false => exact e
theorem pw_or1 (ha : PT X a tA) : PW X (.BoolOp .Or [a] pos) tA := by
  intro wh pins s σ H Q I h
  refine isTrue_or (thn (ha pins s σ H Q I h) fun c s1 e => ?_)
  cases c with
  | false => exact isTrue_or_nil e
  | true => exact e
theorem pw_and (ha : PT X a tA) (hb : PW X (.BoolOp .And (b :: rest) pos) tB') : PW X (.BoolOp .And (a :: b :: rest) pos) (tAnd tA tB') := by
  intro wh pins s σ H Q I h
  refine isTrue_and (thn (ha pins s σ H _ I h) fun c s1 ⟨H1, I1, q1⟩ => ?_)
  cases c with
  | true => exact hb wh pins s1 σ H1 Q I1 q1
  | false => exact ⟨H1, I1, q1⟩
theorem pw_or (ha : PT X a tA) (hb : PW X (.BoolOp .Or (b :: rest) pos) tB') : PW X (.BoolOp .Or (a :: b :: rest) pos) (tOr tA tB') := by
  intro wh pins s σ H Q I h
  refine isTrue_or (thn (ha pins s σ H _ I h) fun c s1 ⟨H1, I1, q1⟩ => ?_)
  cases c with
  | true => exact ⟨H1, I1, q1⟩
  | false => exact hb wh pins s1 σ H1 Q I1 q1
theorem pt_not (ha : PT X a tA) : PT X (.UnaryOp .Not a pos) (tNot tA) := by
  intro pins s σ H Q I h
  exact isTrue_not (ha pins s σ H (fun c H1 => Q (!c) H1) I h)
end
end L2

namespace L2
open PySem PySem.Spec PyProof.Rows

/-! ### a list, a tuple that is read: tracked, frozen, or an object of the module -/
def SqL (K : PySem.W.Frag) (H : Hp) (a : Addr) (xs : List V) : Prop :=
  Rd H a (.lst xs) ∨
    ∃ (o : Obj) (its : Array Value) (n : Nat), K.lookup a = some o ∧ o.cls = .type "list" ∧ o.dict = none ∧ o.data = .seq its n ∧ its.size ≤ sizeLine ∧ Vals xs its.toList
def SqT (K : PySem.W.Frag) (H : Hp) (a : Addr) (xs : List V) : Prop :=
  Rd H a (.tup xs) ∨
    ∃ (o : Obj) (its : Array Value) (n : Nat), K.lookup a = some o ∧ o.cls = .type "tuple" ∧ o.data = .seq its n ∧ its.size ≤ sizeLine ∧ Vals xs its.toList
def absV : Value → Option V
  | .none => some .non
  | .bool b => some (.bl b)
  | .int i _ => some (.int i)
  | .str x _ => some (.str x)
  | .bytes b _ => some (.byt b)
  | .float b _ => some (.flt b)
  | .ref a => some (.ref a)
  | .type n => some (.ty n)
  | _ => none
theorem RelV.abs {x : V} {u : Value} (r : RelV x u) : absV u = some x := by
  cases x with
  | non => cases r; rfl
  | bl _ => cases r; rfl
  | int _ => obtain ⟨t, rfl⟩ := r; rfl
  | str _ => obtain ⟨t, rfl⟩ := r; rfl
  | byt _ => obtain ⟨t, rfl⟩ := r; rfl
  | flt _ => obtain ⟨t, rfl⟩ := r; rfl
  | ref _ => cases r; rfl
  | ty _ => cases r; rfl
theorem RelV.inj {x y : V} {u : Value} (r : RelV x u) (q : RelV y u) : x = y := Option.some.inj (r.abs.symm.trans q.abs)
theorem Vals.inj : ∀ {xs ys : List V} {us : List Value}, Vals xs us → Vals ys us → xs = ys
  | _, _, _, .nil, .nil => rfl
  | _, _, _, .cons r t, .cons r' t' => by rw [r.inj r', Vals.inj t t']
section
variable {X : Cx} {pins : List (Addr × Obj)} {σ : St} {H : Hp} {s : Shared} {a : Addr} {xs ys : List V}
theorem SqL.of {K : PySem.W.Frag} (h : H a = some (.lst xs)) : SqL K H a xs := .inl (.inl h)
theorem SqT.of {K : PySem.W.Frag} (h : H a = some (.tup xs)) : SqT K H a xs := .inl (.inl h)
theorem Inv.list (I : Inv X pins σ H s) (h : SqL X.K H a xs) : ∃ its : List Value, Vals xs its ∧ PlainL s.heap a its.toArray ∧ xs.length ≤ sizeLine := by
  rcases h with h | ⟨o, its, n, hk, hc, hd, hs, hz, r⟩
  · obtain ⟨z, its, n, r, e⟩ := h.ok I.hok
    exact ⟨its, r, ⟨_, n, e, rfl, rfl, rfl⟩, z⟩
  · refine ⟨its.toList, r, ⟨o, n, I.kIn a o hk, hc, hd, by simpa using hs⟩, ?_⟩
    have e := r.length
    simp only [Array.length_toList] at e
    omega
theorem Inv.tuple (I : Inv X pins σ H s) (h : SqT X.K H a xs) : ∃ its : List Value, Vals xs its ∧ IsTup s.heap a its.toArray ∧ xs.length ≤ sizeLine := by
  rcases h with h | ⟨o, its, n, hk, hc, hs, hz, r⟩
  · obtain ⟨z, its, r, p⟩ := h.ok I.hok
    exact ⟨its, r, p, z⟩
  · refine ⟨its.toList, r, ⟨o, I.kIn a o hk, hc, n, by simpa using hs⟩, ?_⟩
    have e := r.length
    simp only [Array.length_toList] at e
    omega
theorem Inv.list_inj (I : Inv X pins σ H s) (h : SqL X.K H a xs) (h' : SqL X.K H a ys) : xs = ys := by
  obtain ⟨its, r, ⟨o, n, e, _, _, d⟩, _⟩ := I.list h
  obtain ⟨its', r', ⟨o', n', e', _, _, d'⟩, _⟩ := I.list h'
  rw [e] at e'; cases e'
  rw [d] at d'
  injection d' with d1 _
  have : its = its' := by simpa using congrArg Array.toList d1
  subst this
  exact r.inj r'
theorem Inv.tuple_inj (I : Inv X pins σ H s) (h : SqT X.K H a xs) (h' : SqT X.K H a ys) : xs = ys := by
  obtain ⟨its, r, ⟨o, e, _, n, d⟩, _⟩ := I.tuple h
  obtain ⟨its', r', ⟨o', e', _, n', d'⟩, _⟩ := I.tuple h'
  rw [e] at e'; cases e'
  rw [d] at d'
  injection d' with d1 _
  have : its = its' := by simpa using congrArg Array.toList d1
  subst this
  exact r.inj r'
end

/-! ### another wish about exceptions -/
abbrev Cx.wish (X : Cx) (E : Value → Shared → Prop) : Cx := { X with xe := E }
/-- no exception leaves -/
abbrev Cx.nox (X : Cx) : Cx := X.wish fun _ _ => False
theorem Cx.Ok.wish {X : Cx} (ok : X.Ok) (E : Value → Shared → Prop) : (X.wish E).Ok :=
  ⟨ok.mod, ok.kind, ok.glob, ok.blt, ok.above, ok.inj, ok.has, ok.cab, ok.hd, ok.frames, ok.stk, ok.exf, ok.bs, ok.bsz, ok.noex, ok.exfs, ok.funs, ok.frf⟩
theorem Cx.Ok.unwish {X : Cx} {E : Value → Shared → Prop} (ok : (X.wish E).Ok) : X.Ok :=
  ⟨ok.mod, ok.kind, ok.glob, ok.blt, ok.above, ok.inj, ok.has, ok.cab, ok.hd, ok.frames, ok.stk, ok.exf, ok.bs, ok.bsz, ok.noex, ok.exfs, ok.funs, ok.frf⟩
section
variable {X : Cx} {pins : List (Addr × Obj)} {σ : St} {H : Hp} {s : Shared} {E : Value → Shared → Prop}
theorem Inv.wish (I : Inv X pins σ H s) (E : Value → Shared → Prop) : Inv (X.wish E) pins σ H s := ⟨I.ok.wish E, I.os, I.bare, I.base, I.loc, I.cell, I.free, I.freeC, I.pin, I.hok, I.len⟩
theorem Inv.unwish (I : Inv (X.wish E) pins σ H s) : Inv X pins σ H s := ⟨I.ok.unwish, I.os, I.bare, I.base, I.loc, I.cell, I.free, I.freeC, I.pin, I.hok, I.len⟩
theorem SP.unwish {D : Ends} {f : Flow} {s' : Shared} (h : SP (X.wish E) pins D f s') : SP X pins D f s' := by
  cases f with
  | next => obtain ⟨σ', H', I, q⟩ := h; exact ⟨σ', H', I.unwish, q⟩
  | brk => obtain ⟨σ', H', I, q⟩ := h; exact ⟨σ', H', I.unwish, q⟩
  | cont => obtain ⟨σ', H', I, q⟩ := h; exact ⟨σ', H', I.unwish, q⟩
  | ret u => obtain ⟨v, σ', H', I, r, q⟩ := h; exact ⟨v, σ', H', I.unwish, r, q⟩
theorem PSs.nox {st : List Stmt} {t : TS} (h : PSs X.nox st t) : PSs X st t := fun pins s σ H D I hw =>
  wpAny_mono (h pins s σ H D (I.wish _) hw) (fun _ _ q => q.unwish) fun _ _ z => False.elim z
end

/-! ### blocks and small statements -/
section
variable {X : Cx} {st : Stmt} {rest : List Stmt} {t u : TS} {e : Expr} {te : TE} {pos : Pos}
def tNext : TS := fun D σ H => D.nx σ H
def tSeq (t u : TS) : TS := fun D σ H => t { D with nx := u D } σ H
theorem pss_nil : PSs X [] tNext := fun _ _ σ H _ I h => wpAny_execs_nil ⟨σ, H, I, h⟩
theorem pss_cons (h1 : PS X st t) (h2 : PSs X rest u) : PSs X (st :: rest) (tSeq t u) := by
  intro pins s σ H D I h
  refine wpAny_execs_cons (thn (h1 pins s σ H { D with nx := u D } I h) fun f s1 q => ?_)
  cases f with
  | next =>
    obtain ⟨σ', H', I', q⟩ := q
    exact h2 pins s1 σ' H' D I' q
  | ret v => exact q
  | brk => exact q
  | cont => exact q
theorem pss_one (h1 : PS X st t) : PSs X [st] t := by
  intro pins s σ H D I h
  refine wpAny_execs_cons (thn (h1 pins s σ H D I h) fun f s1 q => ?_)
  cases f with
  | next => exact wpAny_execs_nil q
  | ret v => exact q
  | brk => exact q
  | cont => exact q
/-- in a def's body nothing is shown -/
theorem Inv.quiet {pins : List (Addr × Obj)} {σ : St} {H : Hp} {s : Shared} (I : Inv X pins σ H s) : interactive X.env = false := by simp [interactive, I.ok.kind]
/-- an expression whose value is dropped -/
def tDrop (te : TE) : TS := fun D σ H => te σ H fun _ H1 => D.nx σ H1
theorem ps_expr (he : PE X e te) (hs : swapsWith e none pos.line X.env = pure false := by rfl) : PS X (.Expr e pos) (tDrop te) := by
  intro pins s σ H D I h
  exact wpAny_Expr_any (thn (he pins s σ H _ I h) fun v s1 ⟨x, H1, I1, r1, q1⟩ => ⟨σ, H1, I1, q1⟩) I.quiet hs
def tRet (te : TE) : TS := fun D σ H => te σ H D.rt
theorem ps_ret (he : PE X e te) : PS X (.Return (some e) pos) (tRet te) := by
  intro pins s σ H D I h
  exact wpAny_Return_some (thn (he pins s σ H _ I h) fun v s1 ⟨x, H1, I1, r1, q1⟩ => ⟨x, σ, H1, I1, r1, q1⟩)
def tIfS (c : TT) (t u : TS) : TS := fun D σ H => c σ H fun b H1 => if b = true then t D σ H1 else u D σ H1
theorem ps_if {c : Expr} {a b : List Stmt} {tc : TT} (hc : PT X c tc) (ha : PSs X a t) (hb : PSs X b u) : PS X (.If c a b pos) (tIfS tc t u) := by
  intro pins s σ H D I h
  refine wpAny_If (thn (hc pins s σ H _ I h) fun d s1 ⟨H1, I1, q1⟩ => ?_)
  cases d with
  | true => exact ha pins s1 σ H1 D I1 q1
  | false => exact hb pins s1 σ H1 D I1 q1
end

/-! ### targets -/
abbrev TG := V → St → Hp → (St → Hp → Prop) → Prop
abbrev TGs := List V → St → Hp → (St → Hp → Prop) → Prop
def PG (X : Cx) (target : Expr) (t : TG) : Prop :=
  ∀ (pins : List (Addr × Obj)) (s : Shared) (σ : St) (H : Hp) (v : V) (u : Value) (Q : St → Hp → Prop), Inv X pins σ H s → RelV v u → t v σ H Q →
    wpAny (model X.prog X.w) X.A (assign target X.env u) (fun _ s' => ∃ σ' H', Inv X pins σ' H' s' ∧ Q σ' H') X.xe s
/-- several targets, one after another -/
def PGs (X : Cx) (ts : List Expr) (t : TGs) : Prop :=
  ∀ (pins : List (Addr × Obj)) (s : Shared) (σ : St) (H : Hp) (vs : List V) (us : List Value) (Q : St → Hp → Prop), Inv X pins σ H s → Vals vs us → t vs σ H Q →
    wpAny (model X.prog X.w) X.A (assignInOrder ((assignEach ts X.env).map (·.2)) us) (fun _ s' => ∃ σ' H', Inv X pins σ' H' s' ∧ Q σ' H') X.xe s
abbrev TSet := V → V → V → Hp → (Hp → Prop) → Prop
def PSet (X : Cx) (t : TSet) : Prop :=
  ∀ (pins : List (Addr × Obj)) (s : Shared) (σ : St) (H : Hp) (o i v : V) (ov iv u : Value) (Q : Hp → Prop), Inv X pins σ H s → RelV o ov → RelV i iv → RelV v u → t o i v H Q →
    wpAny (model X.prog X.w) X.A (setItem ov iv u) (fun _ s' => ∃ H', Inv X pins σ H' s' ∧ Q H') X.xe s
/-- a op= b, by values -/
abbrev TIp := V → V → Hp → VK → Prop
def PIp (X : Cx) (op : Operator) (t : TIp) : Prop :=
  ∀ (pins : List (Addr × Obj)) (s : Shared) (σ : St) (H : Hp) (x y : V) (v u : Value) (Q : VK), Inv X pins σ H s → RelV x v → RelV y u → t x y H Q →
    wpAny (model X.prog X.w) X.A (inplaceOp op v u) (EP X pins σ Q) X.xe s
section
variable {X : Cx} {pos : Pos}
def gName (i : Nat) : TG := fun v σ H Q => Q (σ.set i (some v)) H
theorem pg_name {i : Nat} {x : Str} (hN : X.N.Nodup) (hi : X.N[i]? = some x := by rfl) (hx : Loc X.env.scope x := by first | exact .inl rfl | exact .inr rfl) (hf : X.fn x = true ∨ X.env.scope.names.lookup x = some .local := by first | exact .inl rfl | exact .inr rfl | assumption) : PG X (.Name x pos) (gName i) := by
  intro pins s σ H v u Q I r h
  exact wpAny_assign_Name (store_ok I hN hi hx r (fun s' I' => ⟨_, H, I', h⟩) hf)
def gNil : TGs := fun vs σ H Q => vs = [] ∧ Q σ H
def gCons (t : TG) (u : TGs) : TGs := fun vs σ H Q => ∃ v r, vs = v :: r ∧ t v σ H fun σ' H' => u r σ' H' Q
theorem pgs_nil : PGs X [] gNil := by
  intro pins s σ H vs us Q I r h
  obtain ⟨e, h⟩ := h
  subst e
  cases r
  exact assignInOrder_nil ⟨σ, H, I, h⟩
theorem pgs_cons {e : Expr} {es : List Expr} {t : TG} {u : TGs} (h1 : PG X e t) (h2 : PGs X es u)
    (hs : (assignEach (e :: es) X.env).map (·.2) = assign e X.env :: (assignEach es X.env).map (·.2) := by rfl) : PGs X (e :: es) (gCons t u) := by
  intro pins s σ H vs us Q I r h
  obtain ⟨v, vr, e1, h⟩ := h
  subst e1
  cases r with
  | cons r rr =>
    rw [hs]
    refine assignInOrder_cons (thn (h1 pins s σ H _ _ _ I r h) fun _ s1 ⟨σ1, H1, I1, q1⟩ => ?_)
    exact h2 pins s1 σ1 H1 _ _ Q I1 rr q1
/-- (a, b, ..) = a tuple of that length -/
def gTup (K : PySem.W.Frag) (n : Nat) (t : TGs) : TG := fun v σ H Q => ∃ a xs, v = .ref a ∧ SqT K H a xs ∧ xs.length = n ∧ t xs σ H Q
theorem pg_tup {es : List Expr} {k : Nat} {t : TGs} {n : Nat} (hc : X.calm = true) (h : PGs X es t)
    (hn : (assignEach es X.env).length = n := by rfl) (hst : (assignEach es X.env).findIdx? (·.1) = none := by rfl) : PG X (.Tuple es k pos) (gTup X.K n t) := by
  intro pins s σ H v u Q I r hw
  obtain ⟨a, xs, e1, hq, hl, hw⟩ := hw
  subst e1
  cases r
  obtain ⟨its, rv, ht, hz⟩ := I.tuple hq
  refine assign_Tuple_tuple (I.ok.hd hc) ht (by simp [hn, ← hl, rv.length]) hst fun h' hx => ?_
  have I1 : Inv X pins σ H { s with heap := h' } := I.kept (t' := s.toks) fun b o e => hx b o (Nat.ne_of_lt (Heap.lt_size e)) e
  exact h pins _ σ H xs _ Q I1 (by simpa using rv) hw
/-- target = value -/
def tAsg (te : TE) (g : TG) : TS := fun D σ H => te σ H fun x H1 => g x σ H1 D.nx
theorem ps_asg {tg e : Expr} {te : TE} {g : TG} (he : PE X e te) (hg : PG X tg g) (hs : swapsWithSole [tg] e pos.line X.env = pure false := by rfl) (hw : swappedStores [tg] e X.env = pure none := by rfl)
    (h1 : (assignEach [tg] X.env).map (·.2) = [assign tg X.env] := by rfl) : PS X (.Assign [tg] e pos) (tAsg te g) := by
  intro pins s σ H D I h
  refine wpAny_Assign_stores (thn (he pins s σ H _ I h) fun v s1 ⟨x, H1, I1, r1, q1⟩ => ?_) hs hw
  rw [h1]
  exact thn (hg pins s1 σ H1 x v _ I1 r1 q1) fun _ s2 q => q
/-- name = value -/
theorem ps_set {i : Nat} {x : Str} {e : Expr} {te : TE} {pos' : Pos} (hN : X.N.Nodup) (he : PE X e te) (hi : X.N[i]? = some x := by rfl) (hx : Loc X.env.scope x := by first | exact .inl rfl | exact .inr rfl) (hs : swapsWith e (some (.Name x pos')) pos.line X.env = pure false := by rfl) (hf : X.fn x = true ∨ X.env.scope.names.lookup x = some .local := by first | exact .inl rfl | exact .inr rfl | assumption) :
    PS X (.Assign [.Name x pos'] e pos) (tAsg te (gName i)) := by
  intro pins s σ H D I h
  refine wpAny_Assign_Name (thn (he pins s σ H _ I h) fun v s1 ⟨y, H1, I1, r1, q1⟩ => ?_) hs
  exact store_ok I1 hN hi hx r1 (fun s2 I2 => ⟨_, H1, I2, q1⟩) hf
/-- name op= e -/
def tAug (i : Nat) (te : TE) (ti : TIp) : TS := fun D σ H => ∃ x, σ[i]? = some (some x) ∧ te σ H fun y H1 => ti x y H1 fun z H2 => D.nx (σ.set i (some z)) H2
theorem ps_aug {i : Nat} {x : Str} {e : Expr} {te : TE} {op : Operator} {ti : TIp} {pos' : Pos} (hN : X.N.Nodup) (hi : X.N[i]? = some x) (hx : Loc X.env.scope x) (he : PE X e te) (ho : PIp X op ti) (hf : X.fn x = true ∨ X.env.scope.names.lookup x = some .local := by first | exact .inl rfl | exact .inr rfl | assumption) :
    PS X (.AugAssign (.Name x pos') op e pos) (tAug i te ti) := by
  intro pins s σ H D I h
  obtain ⟨v, e1, h⟩ := h
  obtain ⟨m, hn, hl⟩ := I.loc
  have vis : Vis X.env.scope x := by rcases hx with k | k; exact .inl k; exact .inr (.inl k)
  obtain ⟨u, r, l⟩ := hl i x v hi e1 vis
  refine wpAny_AugAssign_Name ?_
  have go : wpAny (model X.prog X.w) X.A (eval e X.env) (fun w s₂ => wpAny (model X.prog X.w) X.A (inplaceOp op u w) (fun r s₃ => wpAny (model X.prog X.w) X.A (storeName X.env x r) (fun _ => SP X pins D .next) X.xe s₃) X.xe s₂) X.xe s := by
    refine thn (he pins s σ H _ I h) fun w s1 ⟨y, H1, I1, r1, q1⟩ => ?_
    refine thn (ho pins s1 σ H1 v y u w _ I1 r r1 q1) fun z s2 ⟨zv, H2, I2, r2, q2⟩ => ?_
    exact store_ok I2 hN hi hx r2 (fun s3 I3 => ⟨_, H2, I3, q2⟩) hf
  rcases l with ⟨hk, hm⟩ | ⟨hk, c, hc, hcell⟩
  · exact wpAny_loadName_local I.ok.kind hk hn hm go
  · rcases hk with hk | hk
    · exact wpAny_loadName_cell I.ok.kind hk hc hcell go
    · rcases hx with k | k
      · have : X.env.scope.names.lookup x = some .free := hk
        rw [k] at this; cases this
      · have : X.env.scope.names.lookup x = some .free := hk
        rw [k] at this; cases this
end

/-! ### while -/
section
variable {X : Cx} {pos : Pos}
/-- the invariant W with its measure -/
def tWhile (c : TT) (tb : TS) : TS := fun D σ H => ∃ W : Nat → St → Hp → Prop, (∃ m, W m σ H) ∧ ∀ m σ H, W m σ H →
  c σ H fun b H1 => if b = true then ∃ N : St → Hp → Prop, (∀ σ' H', N σ' H' → ∃ m', m' < m ∧ W m' σ' H') ∧ tb { D with nx := N, ct := N, bk := D.nx } σ H1 else D.nx σ H1
theorem ps_while {c : Expr} {body : List Stmt} {tc : TT} {tb : TS} (hp : PassesOwn (model X.prog X.w) X.A X.env X.xe) (hc : PT X c tc) (hb : PSs X body tb) : PS X (.While c body [] pos) (tWhile tc tb) := by
  intro pins s σ H D I h
  obtain ⟨W, ⟨m0, w0⟩, turn⟩ := h
  refine wpAny_While (codeAny_whileLoop (fun n s' => ∃ σ' H', Inv X pins σ' H' s' ∧ W n σ' H') ?_ m0 ⟨σ, H, I, w0⟩)
  rintro n s1 ⟨σ1, H1, I1, w1⟩
  refine wpAny_passesOwn hp (thn (hc pins s1 σ1 H1 _ I1 (turn n σ1 H1 w1)) fun b s2 ⟨H2, I2, q2⟩ => ?_)
  cases b with
  | true =>
    obtain ⟨N, hN, q2⟩ := q2
    rw [if_pos rfl]
    refine wpAny_passesOwn hp (thn (hb pins s2 σ1 H2 _ I2 q2) fun f s3 q3 => ?_)
    cases f with
    | next =>
      obtain ⟨σ3, H3, I3, n3⟩ := q3
      obtain ⟨m', hm, w3⟩ := hN σ3 H3 n3
      exact ⟨m', hm, σ3, H3, I3, w3⟩
    | cont =>
      obtain ⟨σ3, H3, I3, n3⟩ := q3
      obtain ⟨m', hm, w3⟩ := hN σ3 H3 n3
      exact ⟨m', hm, σ3, H3, I3, w3⟩
    | brk => exact q3
    | ret v => exact q3
  | false =>
    rw [if_neg Bool.false_ne_true]
    exact wpAny_execs_nil ⟨σ1, H2, I2, q2⟩
end

/-! ### what a loop or a comprehension walks -/
/-- at turn i: it yields x (the heap may grow), or it stops -/
structure It where
  go : Nat → Hp → Prop
  yld : Nat → Hp → V → Hp → Prop
  stop : Nat → Hp → Prop
/-- the iterator's own objects may turn: they are not the frame's, not pinned, younger than the entry (or a comprehension's own) -/
def FpOk (X : Cx) (pins : List (Addr × Obj)) (H : Hp) (b : Addr) : Prop :=
  H b = none ∧ b ≠ X.env.locals ∧ b ∉ X.fs ∧ (b ∈ X.ex ∨ X.s₀.heap.objs.size ≤ b) ∧ (∀ x c, X.env.cells.lookup x = some c → c ≠ b) ∧ ∀ p ∈ X.pn ++ pins, p.1 ≠ b
theorem Inv.fpOk {X : Cx} {pins : List (Addr × Obj)} {σ : St} {H H' : Hp} {s : Shared} {b : Addr} (I : Inv X pins σ H s) (hb : s.heap.objs.size ≤ b) (hn : H' b = none) : FpOk X pins H' b := by
  refine ⟨hn, Nat.ne_of_gt (Nat.lt_of_lt_of_le I.lt hb), I.nofs hb, .inr (Nat.le_trans I.sz hb), fun x c e z => ?_, fun p hp z => ?_⟩
  · obtain ⟨v, q⟩ := I.cell x c e
    exact absurd (Nat.lt_of_lt_of_le q.lt (by rw [z]; exact hb)) (Nat.lt_irrefl _)
  · exact absurd (Nat.lt_of_lt_of_le (Heap.lt_size (I.pin p hp).1) (by rw [z]; exact hb)) (Nat.lt_irrefl _)
structure Turn (P : Program) (w : World) (K : PySem.W.Frag) (tg : Expr) (J : It) (fp : List Addr) (it : Addr) (tn : Nat → Heap → Prop) : Prop where
  mem : it ∈ fp
  obj : ∀ i h, tn i h → ∀ b ∈ fp, ∃ o, h.get? b = some o ∧ ∀ v, o.data ≠ .cell v
  keep : ∀ i h h', tn i h → (∀ b ∈ fp, ∀ o, h.get? b = some o → h'.get? b = some o) → tn i h'
  item : ∀ (X : Cx), X.prog = P → X.w = w → X.K = K → X.calm = true → ∀ (i : Nat) (pins : List (Addr × Obj)) (s : Shared) (σ : St) (H : Hp) (E : Value → Shared → Prop), Inv X pins σ H s → (∀ b ∈ fp, FpOk X pins H b) → tn i s.heap → J.go i H →
    wpAny (model P w) X.A (pyNext (.ref it)) (fun r s1 => ∃ u, r = some u ∧
      wpAny (model P w) X.A (letOwnedTupleGo tg (.ref it) u) (fun _ s2 => ∃ x H', Inv X pins σ H' s2 ∧ RelV x u ∧ J.yld i H x H' ∧ tn (i + 1) s2.heap ∧ ∀ b ∈ fp, H' b = none) E s1) E s
  done : ∀ (X : Cx), X.prog = P → X.w = w → X.K = K → X.calm = true → ∀ (i : Nat) (pins : List (Addr × Obj)) (s : Shared) (σ : St) (H : Hp) (E : Value → Shared → Prop), Inv X pins σ H s → (∀ b ∈ fp, FpOk X pins H b) → tn i s.heap → J.stop i H →
    wpAny (model P w) X.A (pyNext (.ref it)) (fun r s1 => r = none ∧ Inv X pins σ H s1) E s
  self : ∀ (A : Around) (i : Nat) (s : Shared) (Q : Value → Shared → Prop) (E : Value → Shared → Prop), tn i s.heap → Q (.ref it) s → wpAny (model P w) A (pyIter (.ref it)) Q E s
abbrev TI := St → Hp → (It → Hp → Prop) → Prop
/-- an iterator has come -/
def PIE (X : Cx) (pins : List (Addr × Obj)) (σ : St) (tg : Expr) (R : It → Hp → Prop) (itv : Value) (s2 : Shared) : Prop :=
  ∃ (it : Addr) (fp : List Addr) (tn : Nat → Heap → Prop) (J : It) (H' : Hp), itv = .ref it ∧ Inv X pins σ H' s2 ∧ Turn X.prog X.w X.K tg J fp it tn ∧ tn 0 s2.heap ∧ (∀ b ∈ fp, FpOk X pins H' b) ∧ R J H'
def PI (X : Cx) (tg iter : Expr) (wi : TI) : Prop :=
  ∀ (pins : List (Addr × Obj)) (s : Shared) (σ : St) (H : Hp) (R : It → Hp → Prop), Inv X pins σ H s → wi σ H R →
    wpAny (model X.prog X.w) X.A (eval iter X.env) (fun v s1 => wpAny (model X.prog X.w) X.A (pyIter v) (PIE X pins σ tg R) X.xe s1) X.xe s

/-- the step ahead of the store is nothing for an iterator that keeps no tuple -/
theorem go_of {M : Model} {A : Around} {E : Value → Shared → Prop} {s : Shared} {tg : Expr} {it : Addr} {u : Value} {o : Obj} {n : String} {vs : Array Value} {Q : Unit → Shared → Prop} (ho : s.heap.get? it = some o) (hc : o.cls = .type n) (hd : o.data = .fields vs)
    (hn : ["enumerate", "zip", "dict_itemiterator", "dict_reverseitemiterator", "odict_iterator", "itertools.zip_longest", "itertools.pairwise"].contains n = false) (hQ : Q () s) : wpAny M A (letOwnedTupleGo tg (.ref it) u) Q E s := by
  unfold letOwnedTupleGo
  cases tg <;> first
    | exact wpAny_pure hQ
    | (cases u <;> first
        | exact wpAny_pure hQ
        | (refine wpAny_bind (wpAny_load ho ?_)
           rw [hc, hd]
           show wpAny M A (if (["enumerate", "zip", "dict_itemiterator", "dict_reverseitemiterator", "odict_iterator", "itertools.zip_longest", "itertools.pairwise"].contains n && vs[0]? == some (rawInt _)) = true then _ else _) Q E s
           rw [if_neg (by intro h; rw [hn, Bool.false_and] at h; cases h)]
           exact wpAny_pure hQ))

/-- the list at a, as it stands at each turn (a loop may append to it) -/
def Itl (K : PySem.W.Frag) (a : Addr) : It :=
  ⟨fun i H => ∃ xs x, SqL K H a xs ∧ xs[i]? = some x, fun i H x H' => H' = H ∧ ∀ xs, SqL K H a xs → xs[i]? = some x, fun i H => ∃ xs, SqL K H a xs ∧ xs.length ≤ i⟩
/-- lo, lo + 1, .. (n of them) -/
def Itr (lo : Int) (n : Nat) : It := ⟨fun i _ => i < n, fun i H x H' => H' = H ∧ x = .int (lo + i), fun i _ => n ≤ i⟩
theorem turn_list {P : Program} {w : World} {K : PySem.W.Frag} {tg : Expr} (a it : Addr) : Turn P w K tg (Itl K a) [it] it (fun i h => h.IsListIter it a i) where
  mem := by simp
  obj := fun i h st b hb => by
    have e : b = it := by simpa using hb
    subst e
    obtain ⟨o, e, c, d⟩ := st
    exact ⟨o, e, fun v z => by rw [d] at z; cases z⟩
  keep := fun i h h' st k => st.at fun o e => k it (by simp) o e
  item := by
    intro X hP hw hK hc i pins s σ H E I hf st hg
    subst hP hw hK
    obtain ⟨xs, x, hq, hx⟩ := hg
    obtain ⟨its, rv, p, hz⟩ := I.list hq
    obtain ⟨u, hu, ru⟩ := rv.get hx
    obtain ⟨f0, f1, f2, f3, f4, f5⟩ := hf it (by simp)
    refine wpAny_pyNext_list_item st p.isList (x := u) (by simpa using hu) fun h' st' sb => ?_
    have I1 : Inv X pins σ H { s with heap := h' } := I.turned (t' := s.toks) (fun b o hb e => (sb.2 b hb).trans e) f0 f1 f3 f4 f5
    obtain ⟨o, e, c, d⟩ := id st'
    exact ⟨u, rfl, go_of (s := { s with heap := h' }) e c d (by decide) ⟨x, H, I1, ru, ⟨rfl, fun ys hy => by rw [I.list_inj hy hq]; exact hx⟩, st', fun b hb => (hf b hb).1⟩⟩
  done := by
    intro X hP hw hK hc i pins s σ H E I hf st hg
    subst hP hw hK
    obtain ⟨xs, hq, hx⟩ := hg
    obtain ⟨its, rv, p, hz⟩ := I.list hq
    obtain ⟨f0, f1, f2, f3, f4, f5⟩ := hf it (by simp)
    have hl := rv.length
    exact wpAny_pyNext_list_end (I.ok.hd hc) st p.isList (by simp; omega) fun h' eb => ⟨rfl, I.turned (t' := s.toks) (fun b o hb e => eb b o hb e) f0 f1 f3 f4 f5⟩
  self := fun _ _ _ _ _ st h => wpAny_pyIter_listiter st h
theorem turn_range {P : Program} {w : World} {K : PySem.W.Frag} {tg : Expr} (it : Addr) (lo : Int) (n : Nat) : Turn P w K tg (Itr lo n) [it] it (fun i h => IsRangeIter h it (lo + (i : Nat) * 1) ((n : Int) - (i : Nat)) 1) where
  mem := by simp
  obj := fun i h st b hb => by
    have e : b = it := by simpa using hb
    subst e
    exact ⟨_, st, fun v z => by
      have z' : Data.fields _ = Data.cell v := z
      cases z'⟩
  keep := fun i h h' st k => k it (by simp) _ st
  item := by
    intro X hP hw hK hc i pins s σ H E I hf st hg
    subst hP hw hK
    obtain ⟨f0, f1, f2, f3, f4, f5⟩ := hf it (by simp)
    have W := Walks.range (prog := X.prog) (w := X.w) (I.ok.hd hc) it lo 1 n
    refine W.item i s _ _ hg st fun v h' tk hv st' kk => ?_
    obtain ⟨t, rfl⟩ := hv
    have I1 : Inv X pins σ H { s with heap := h', toks := tk } := I.turned (fun b o hb e => kk b o (by simpa using hb) e) f0 f1 f3 f4 f5
    refine ⟨_, rfl, go_of (s := { s with heap := h', toks := tk }) (n := "range_iterator") st' rfl rfl (by decide) ⟨.int (lo + i), H, I1, ⟨t, ?_⟩, ⟨rfl, rfl⟩, st', fun b hb => (hf b hb).1⟩⟩
    rw [Int.mul_one]
  done := by
    intro X hP hw hK hc i pins s σ H E I hf st hg
    subst hP hw hK
    obtain ⟨f0, f1, f2, f3, f4, f5⟩ := hf it (by simp)
    exact wpAny_pyNext_range_end (I.ok.hd hc) st (by have : n ≤ i := hg; omega) fun h' eb => ⟨rfl, I.turned (t' := s.toks) (fun b o hb e => eb b o hb e) f0 f1 f3 f4 f5⟩
  self := fun _ _ _ _ _ st h => wpAny_pyIter_rangeiter st h
end L2

namespace L2
open PySem PySem.Spec PyProof.Rows
section
variable {X : Cx} {tg : Expr}
def iList (K : PySem.W.Frag) (tl : TE) : TI := fun σ H R => tl σ H fun x H1 => ∃ a, x = .ref a ∧ (∃ xs, SqL K H1 a xs) ∧ R (Itl K a) H1
theorem pi_list {l : Expr} {tl : TE} (hl : PE X l tl) : PI X tg l (iList X.K tl) := by
  intro pins s σ H R I h
  refine thn (hl pins s σ H _ I h) fun v s1 ⟨x, H1, I1, r1, q1⟩ => ?_
  obtain ⟨a, e, ⟨xs, hq⟩, q⟩ := q1
  subst e
  cases r1
  obtain ⟨its, rv, p, hz⟩ := I1.list hq
  refine wpAny_pyIter_list p.isList ?_
  refine ⟨s1.heap.objs.size, [s1.heap.objs.size], _, _, H1, rfl, I1.kept (t' := s1.toks) fun b o e => Heap.get?_push_of_some _ e, turn_list a _, ⟨_, Heap.get?_push_size _ rfl, rfl, rfl⟩, fun b hb => ?_, q⟩
  have e : b = s1.heap.objs.size := by simpa using hb
  subst e
  exact I1.fpOk (Nat.le_refl _) (I1.hok.fresh (Nat.le_refl _))
/-- a range object just made, walked -/
theorem range_it {pins : List (Addr × Obj)} {σ : St} {H : Hp} {s : Shared} {R : It → Hp → Prop} {E : Value → Shared → Prop} {lo hi : Int} {t u v : Tok} {tk : Nat} (I : Inv X pins σ H s) (h1 : -(2 ^ 62) ≤ lo) (h2 : lo < 2 ^ 62) (h3 : -(2 ^ 62) ≤ hi) (h4 : hi < 2 ^ 62)
    (q : R (Itr lo (hi - lo).toNat) H) : wpAny (model X.prog X.w) X.A (pyIter (.ref s.heap.objs.size)) (PIE X pins σ tg R) E { s with heap := s.heap.push { cls := .type "range", data := .fields #[.int lo t, .int hi u, .int 1 v] }, toks := tk } := by
  refine wpAny_pyIter_range (IsRange.new ..) (small_one h1 h2 h3 h4) ?_
  have I1 : Inv X pins σ H { s with heap := s.heap.push { cls := .type "range", data := .fields #[.int lo t, .int hi u, .int 1 v] }, toks := tk } := I.kept fun b o e => Heap.get?_push_of_some _ e
  refine ⟨(s.heap.push { cls := .type "range", data := .fields #[.int lo t, .int hi u, .int 1 v] }).objs.size, [(s.heap.push { cls := .type "range", data := .fields #[.int lo t, .int hi u, .int 1 v] }).objs.size], _, _, H, rfl,
    I1.kept (t' := tk) fun b o e => Heap.get?_push_of_some _ e, turn_range _ lo (hi - lo).toNat, ?_, fun b hb => ?_, q⟩
  · have e1 : lo + ((0 : Nat) : Int) * 1 = lo := by simp
    have e2 : (((hi - lo).toNat : Nat) : Int) - ((0 : Nat) : Int) = Builtin.Range.rangeSize lo hi 1 := by rw [rangeSize_one]; split <;> omega
    show IsRangeIter _ _ (lo + ((0 : Nat) : Int) * 1) ((((hi - lo).toNat : Nat) : Int) - ((0 : Nat) : Int)) 1
    rw [e1, e2]
    exact Heap.get?_push_size _ rfl
  · have e : b = (s.heap.push { cls := .type "range", data := .fields #[.int lo t, .int hi u, .int 1 v] }).objs.size := by simpa using hb
    subst e
    exact I1.fpOk (Nat.le_refl _) (I1.hok.fresh (Nat.le_refl _))
def iRng1 (ta : TA) : TI := fun σ H R => ta σ H fun vs H1 => ∃ j : Int, vs = [.int j] ∧ -(2 ^ 62) ≤ j ∧ j < 2 ^ 62 ∧ R (Itr 0 j.toNat) H1
theorem pi_range1 {a : Expr} {ta : TA} {p pos : Pos} (hg : Gl X "range") (hm : X.mg "range" = none) (ha : PA X [a] ta) (hs : starEach [a] X.env = [(false, eval a X.env)] := by rfl) : PI X tg (.Call (.Name "range" p) [a] [] pos) (iRng1 ta) := by
  intro pins s σ H R I h
  refine Call_ (ld_blt I hg hm boot_range (PyProof.Rows.callWith_type1 (thn (ha pos pins s σ H _ I h) fun us s1 ⟨vs, H1, I1, r1, q1⟩ => ?_) hs rfl))
  obtain ⟨j, e, q1, q2, q⟩ := q1
  subst e
  cases r1 with
  | cons r rr =>
    cases rr
    obtain ⟨t, rfl⟩ := r
    exact call_range_1 (range_it I1 (by omega) (by omega) q1 q2 (by simpa using q))

/-! ### for -/
/-- W: the invariant by the turn and a measure; N: what the body is to reach -/
def Loop (J : It) (g : TG) (tb : TS) (D : Ends) (σ : St) (H1 : Hp) : Prop := ∃ W : Nat → Nat → St → Hp → Prop, (∃ m, W 0 m σ H1) ∧ ∀ i m σ H, W i m σ H →
  (J.stop i H ∧ D.nx σ H) ∨ (J.go i H ∧ ∃ N : St → Hp → Prop, (∀ σ' H', N σ' H' → ∃ m', m' < m ∧ W (i + 1) m' σ' H') ∧ ∀ x H', J.yld i H x H' → g x σ H' fun σ2 H2 => tb { D with nx := N, ct := N, bk := D.nx } σ2 H2)
def tFor (wi : TI) (g : TG) (tb : TS) : TS := fun D σ H => wi σ H fun J H1 => Loop J g tb D σ H1
/-- the records at fp as they stand -/
def pinsAt (fp : List Addr) (h : Heap) : List (Addr × Obj) := fp.filterMap fun b => (h.get? b).map fun o => (b, o)
theorem mem_pinsAt {fp : List Addr} {h : Heap} {b : Addr} {o : Obj} (hb : b ∈ fp) (e : h.get? b = some o) : (b, o) ∈ pinsAt fp h := List.mem_filterMap.mpr ⟨b, hb, by rw [e]; rfl⟩
theorem of_pinsAt {fp : List Addr} {h : Heap} {p : Addr × Obj} (hp : p ∈ pinsAt fp h) : p.1 ∈ fp ∧ h.get? p.1 = some p.2 := by
  obtain ⟨b, hb, e⟩ := List.mem_filterMap.mp hp
  cases q : h.get? b with
  | none => rw [q] at e; cases e
  | some o =>
    rw [q] at e
    have e' : (b, o) = p := Option.some.inj e
    subst e'
    exact ⟨hb, q⟩
theorem Inv.pinned {pins : List (Addr × Obj)} {σ : St} {H : Hp} {s : Shared} {fp : List Addr} (I : Inv X pins σ H s) (hf : ∀ b ∈ fp, FpOk X pins H b) (ho : ∀ b ∈ fp, ∃ o, s.heap.get? b = some o ∧ ∀ v, o.data ≠ .cell v) : Inv X (pins ++ pinsAt fp s.heap) σ H s :=
  I.pins_of fun p hp => (List.mem_append.mp hp).elim (fun z => I.pin p (List.mem_append_right _ z)) fun z => by
    obtain ⟨hb, e⟩ := of_pinsAt z
    obtain ⟨f0, f1, f2, _⟩ := hf p.1 hb
    obtain ⟨o, e', d⟩ := ho p.1 hb
    rw [e] at e'; cases e'
    exact ⟨e, f0, f1, f2, d⟩
theorem Inv.unpinned {pins pl : List (Addr × Obj)} {σ : St} {H : Hp} {s : Shared} (I : Inv X (pins ++ pl) σ H s) : Inv X pins σ H s := I.pins_of fun p hp => I.pin p (List.mem_append_right _ (List.mem_append_left _ hp))
theorem ps_for {iter : Expr} {body : List Stmt} {wi : TI} {g : TG} {tb : TS} {pos : Pos} (hp : PassesOwn (model X.prog X.w) X.A X.env X.xe) (hc : X.calm = true) (hi : PI X tg iter wi) (hg : PG X tg g) (hb : PSs X body tb)
    (hs : ∀ x, foldedSetIterable iter X.env x = pure x := by intro _; rfl) : PS X (.For tg iter body [] pos) (tFor wi g tb) := by
  intro pins s σ H D I h
  refine wpAny_For (thn (hi pins s σ H _ I h) fun v s1 h1 => thn h1 fun itv s2 h2 => ?_) hs
  obtain ⟨it, fp, tn, J, H2, e, I2, T, st2, f2, W, ⟨m0, w0⟩, turn⟩ := h2
  subst e
  -- what stays true of the iterator's objects through the loop
  have stat : ∀ {H' : Hp}, (∀ b ∈ fp, H' b = none) → ∀ b ∈ fp, FpOk X pins H' b := fun hn b hb => ⟨hn b hb, (f2 b hb).2⟩
  refine codeAny_forLoop_any (fun n s' => ∃ i σ' H', Inv X pins σ' H' s' ∧ tn i s'.heap ∧ (∀ b ∈ fp, H' b = none) ∧ W i n σ' H') ?_ m0 ⟨0, σ, H2, I2, st2, fun b hb => (f2 b hb).1, w0⟩
  rintro n s3 ⟨i, σ3, H3, I3, st3, fr3, w3⟩
  rcases turn i n σ3 H3 w3 with ⟨stop, qn⟩ | ⟨go, N, hN, step⟩
  · refine wpAny_passesOwn hp (thn (T.done X rfl rfl rfl hc i pins s3 σ3 H3 X.xe I3 (stat fr3) st3 stop) fun r s4 ⟨hr, I4⟩ => ?_)
    subst hr
    exact wpAny_execs_nil ⟨σ3, H3, I4, qn⟩
  · refine wpAny_passesOwn hp (thn (T.item X rfl rfl rfl hc i pins s3 σ3 H3 X.xe I3 (stat fr3) st3 go) fun r s4 ⟨u, hr, h4⟩ => ?_)
    subst hr
    refine wpAny_passesOwn hp (thn h4 fun _ s5 ⟨x, H5, I5, r5, y5, st5, fr5⟩ => ?_)
    have I5' := I5.pinned (stat fr5) (T.obj _ _ st5)
    refine wpAny_passesOwn hp (thn (hg _ s5 σ3 H5 x u _ I5' r5 (step x H5 y5)) fun _ s6 ⟨σ6, H6, I6, q6⟩ => ?_)
    refine wpAny_passesOwn hp (thn (hb _ s6 σ6 H6 _ I6 q6) fun f s7 q7 => ?_)
    have again : ∀ {σ7 : St} {H7 : Hp}, Inv X (pins ++ pinsAt fp s5.heap) σ7 H7 s7 → N σ7 H7 → ∃ m, m < n ∧ ∃ i σ' H', Inv X pins σ' H' s7 ∧ tn i s7.heap ∧ (∀ b ∈ fp, H' b = none) ∧ W i m σ' H' := fun {σ7 H7} I7 n7 => by
      obtain ⟨m', hm, w7⟩ := hN σ7 H7 n7
      refine ⟨m', hm, i + 1, σ7, H7, I7.unpinned, T.keep _ _ _ st5 fun b hb o e => (I7.pin (b, o) (List.mem_append_right _ (List.mem_append_right _ (mem_pinsAt hb e)))).1, fun b hb => ?_, w7⟩
      obtain ⟨o, e, d⟩ := T.obj _ _ st5 b hb
      exact (I7.pin (b, o) (List.mem_append_right _ (List.mem_append_right _ (mem_pinsAt hb e)))).2.1
    cases f with
    | next => obtain ⟨σ7, H7, I7, n7⟩ := q7; exact again I7 n7
    | cont => obtain ⟨σ7, H7, I7, n7⟩ := q7; exact again I7 n7
    | brk => obtain ⟨σ7, H7, I7, q7⟩ := q7; exact ⟨σ7, H7, I7.unpinned, q7⟩
    | ret v => obtain ⟨x7, σ7, H7, I7, r7, q7⟩ := q7; exact ⟨x7, σ7, H7, I7.unpinned, r7, q7⟩
end

/-! ### the forms one uses -/
/-- over a list that the body leaves as it is -/
theorem for_turns {J : It} {g : TG} {tb : TS} {D : Ends} {σ : St} {H : Hp} (n : Nat) (Pv : Nat → St → Hp → Prop) (h0 : Pv 0 σ H) (go : ∀ i σ H, Pv i σ H → i < n → J.go i H) (stop : ∀ σ H, Pv n σ H → J.stop n H)
    (hs : ∀ i v σ H H', Pv i σ H → i < n → J.yld i H v H' → g v σ H' fun σ2 H2 => tb { D with nx := Pv (i + 1), ct := Pv (i + 1), bk := D.nx } σ2 H2) (hd : ∀ σ H, Pv n σ H → D.nx σ H) : Loop J g tb D σ H := by
  unfold Loop
  refine ⟨fun i m σ H => m = n - i ∧ i ≤ n ∧ Pv i σ H, ⟨_, rfl, Nat.zero_le _, h0⟩, ?_⟩
  rintro i m σ H ⟨rfl, hi, p⟩
  by_cases hlt : i < n
  · exact .inr ⟨go i σ H p hlt, Pv (i + 1), fun σ' H' p' => ⟨n - (i + 1), by omega, rfl, hlt, p'⟩, fun v H' y => hs i v σ H H' p hlt y⟩
  · obtain rfl : i = n := by omega
    exact .inl ⟨stop σ H p, hd σ H p⟩
theorem for_list {K : PySem.W.Frag} {a : Addr} {xs : List V} {g : TG} {tb : TS} {D : Ends} {σ : St} {H : Hp} (Pv : Nat → St → Hp → Prop) (h0 : Pv 0 σ H) (hl : ∀ i σ H, i ≤ xs.length → Pv i σ H → SqL K H a xs)
    (hs : ∀ i x σ H, xs[i]? = some x → Pv i σ H → g x σ H fun σ2 H2 => tb { D with nx := Pv (i + 1), ct := Pv (i + 1), bk := D.nx } σ2 H2) (hd : ∀ σ H, Pv xs.length σ H → D.nx σ H) : Loop (Itl K a) g tb D σ H := for_turns xs.length Pv h0 (fun i σ H p hi => ⟨xs, xs[i], hl i σ H (Nat.le_of_lt hi) p, by simp [hi]⟩) (fun σ H p => ⟨xs, hl _ σ H (Nat.le_refl _) p, Nat.le_refl _⟩) (fun i v σ H H' p hi y => by obtain ⟨rfl, y⟩ := y; exact hs i v σ _ (y xs (hl i σ _ (Nat.le_of_lt hi) p)) p) hd
theorem for_range {lo : Int} {n : Nat} {g : TG} {tb : TS} {D : Ends} {σ : St} {H : Hp} (Pv : Nat → St → Hp → Prop) (h0 : Pv 0 σ H)
    (hs : ∀ i σ H, i < n → Pv i σ H → g (.int (lo + i)) σ H fun σ2 H2 => tb { D with nx := Pv (i + 1), ct := Pv (i + 1), bk := D.nx } σ2 H2) (hd : ∀ σ H, Pv n σ H → D.nx σ H) : Loop (Itr lo n) g tb D σ H := for_turns n Pv h0 (fun i σ H p hi => hi) (fun σ H p => Nat.le_refl _) (fun i v σ H H' p hi y => by obtain ⟨rfl, rfl⟩ := y; exact hs i σ _ hi p) hd
end L2

namespace L2
open PySem PySem.Spec PyProof.Rows

abbrev R2 := V → V → Hp → VK → Prop
/-- a two-place operation on values: f is binaryOp op, inplaceOp op or compareOp op -/
def OpR (X : Cx) (f : Value → Value → Sem Value) (r : R2) : Prop :=
  ∀ (pins : List (Addr × Obj)) (s : Shared) (σ : St) (H : Hp) (x y : V) (v u : Value) (Q : VK), Inv X pins σ H s → RelV x v → RelV y u → r x y H Q →
    wpAny (model X.prog X.w) X.A (f v u) (EP X pins σ Q) X.xe s
/-- a one-place operation -/
def UnR (X : Cx) (f : Value → Sem Value) (r : V → Hp → VK → Prop) : Prop :=
  ∀ (pins : List (Addr × Obj)) (s : Shared) (σ : St) (H : Hp) (x : V) (v : Value) (Q : VK), Inv X pins σ H s → RelV x v → r x H Q →
    wpAny (model X.prog X.w) X.A (f v) (EP X pins σ Q) X.xe s
/-- a call of a value that is known (a builtin, a type) with values -/
def CallR (X : Cx) (f : Value) (r : List V → Hp → VK → Prop) : Prop :=
  ∀ (pins : List (Addr × Obj)) (s : Shared) (σ : St) (H : Hp) (xs : List V) (us : List Value) (Q : VK), Inv X pins σ H s → Vals xs us → r xs H Q →
    wpAny (model X.prog X.w) X.A (call f us) (EP X pins σ Q) X.xe s

def tOp (r : R2) (ta tb : TE) : TE := fun σ H Q => ta σ H fun x H1 => tb σ H1 fun y H2 => r x y H2 Q
def tUn (r : V → Hp → VK → Prop) (ta : TE) : TE := fun σ H Q => ta σ H fun x H1 => r x H1 Q
/-- ints in, under C, and a value out -/
def rI (C : Int → Int → Prop) (g : Int → Int → V) : R2 := fun x y H Q => ∃ i j, x = .int i ∧ y = .int j ∧ C i j ∧ Q (g i j) H
def rI0 (g : Int → Int → V) : R2 := fun x y H Q => ∃ i j, x = .int i ∧ y = .int j ∧ Q (g i j) H
def rU (g : Int → V) : V → Hp → VK → Prop := fun x H Q => ∃ i, x = .int i ∧ Q (g i) H

section
variable {X : Cx} {a b c : Expr} {ta tb tc : TE} {pos : Pos}

theorem binT (ha : PE X a ta) (hb : PE X b tb) {pins : List (Addr × Obj)} {s : Shared} {σ : St} {H : Hp} {R : V → V → Hp → Prop} (I : Inv X pins σ H s)
    (h : ta σ H fun x H1 => tb σ H1 fun y H2 => R x y H2) {Q : Value → Shared → Prop} {f : Value → Value → Sem Value}
    (hf : ∀ v u s2 x y H2, Inv X pins σ H2 s2 → RelV x v → RelV y u → R x y H2 → wpAny (model X.prog X.w) X.A (f v u) Q X.xe s2) :
    wpAny (model X.prog X.w) X.A (eval a X.env) (fun v s₁ => wpAny (model X.prog X.w) X.A (eval b X.env) (fun u s₂ => wpAny (model X.prog X.w) X.A (f v u) Q X.xe s₂) X.xe s₁) X.xe s := by
  refine thn (ha pins s σ H _ I h) fun v s1 ⟨x, H1, I1, r1, q1⟩ => ?_
  refine thn (hb pins s1 σ H1 _ I1 q1) fun u s2 ⟨y, H2, I2, r2, q2⟩ => ?_
  exact hf v u s2 x y H2 I2 r1 r2 q2

theorem pe_op {op : Operator} {r : R2} (ho : OpR X (binaryOp op) r) (ha : PE X a ta) (hb : PE X b tb) : PE X (.BinOp a op b pos) (tOp r ta tb) := by
  intro pins s σ H Q I h
  exact wpAny_BinOp (binT ha hb I h fun v u s2 x y H2 I2 rx ry q => ho pins s2 σ H2 x y v u Q I2 rx ry q)
theorem pe_un {op : UnaryOp} {r : V → Hp → VK → Prop} (ho : UnR X (unaryOp op) r) (ha : PE X a ta) : PE X (.UnaryOp op a pos) (tUn r ta) := by
  intro pins s σ H Q I h
  exact UnaryOp_ (thn (ha pins s σ H _ I h) fun v s1 ⟨x, H1, I1, r1, q1⟩ => ho pins s1 σ H1 x v Q I1 r1 q1)

/-! ### ints -/
theorem opI {f : Value → Value → Sem Value} {C : Int → Int → Prop} {g : Int → Int → Int}
    (rule : ∀ (i j : Int) (t u : Tok) (s : Shared) (Q : Value → Shared → Prop) (E : Value → Shared → Prop), C i j → Q (.int (g i j) s.toks) { s with toks := s.toks + 1 } → wpAny (model X.prog X.w) X.A (f (.int i t) (.int j u)) Q E s) :
    OpR X f (rI C fun i j => .int (g i j)) := by
  intro pins s σ H x y v u Q I rx ry h
  obtain ⟨i, j, rfl, rfl, hc, q⟩ := h
  obtain ⟨t, rfl⟩ := rx
  obtain ⟨t', rfl⟩ := ry
  exact rule i j t t' s _ _ hc ⟨.int (g i j), H, I.tok _, ⟨_, rfl⟩, q⟩
theorem opI0 {f : Value → Value → Sem Value} {g : Int → Int → Int}
    (rule : ∀ (i j : Int) (t u : Tok) (s : Shared) (Q : Value → Shared → Prop) (E : Value → Shared → Prop), Q (.int (g i j) s.toks) { s with toks := s.toks + 1 } → wpAny (model X.prog X.w) X.A (f (.int i t) (.int j u)) Q E s) :
    OpR X f (rI0 fun i j => .int (g i j)) := by
  intro pins s σ H x y v u Q I rx ry h
  obtain ⟨i, j, rfl, rfl, q⟩ := h
  obtain ⟨t, rfl⟩ := rx
  obtain ⟨t', rfl⟩ := ry
  exact rule i j t t' s _ _ ⟨.int (g i j), H, I.tok _, ⟨_, rfl⟩, q⟩
theorem opB0 {f : Value → Value → Sem Value} {g : Int → Int → Bool}
    (rule : ∀ (i j : Int) (t u : Tok) (s : Shared) (Q : Value → Shared → Prop) (E : Value → Shared → Prop), Q (.bool (g i j)) s → wpAny (model X.prog X.w) X.A (f (.int i t) (.int j u)) Q E s) :
    OpR X f (rI0 fun i j => .bl (g i j)) := by
  intro pins s σ H x y v u Q I rx ry h
  obtain ⟨i, j, rfl, rfl, q⟩ := h
  obtain ⟨t, rfl⟩ := rx
  obtain ⟨t', rfl⟩ := ry
  exact rule i j t t' s _ _ ⟨.bl (g i j), H, I, rfl, q⟩

def CDiv (i j : Int) : Prop := 0 < j ∧ j < 1073741824

theorem op_add : OpR X (binaryOp .Add) (rI0 fun i j => .int (i + j)) := opI0 fun _ _ _ _ _ _ _ q => add_int q
/-- // by a positive divisor -/
theorem op_fdiv : OpR X (binaryOp .FloorDiv) (rI CDiv fun i j => .int (i / j)) := opI fun i j _ _ _ _ _ hc q => by
  have h1 : (0 : Int) < j := hc.1
  have h2 : j < 1073741824 := hc.2
  exact floordiv_int (by omega) (by rw [Int.fdiv_eq_ediv_of_nonneg i (by omega)]; exact q) (.inl (PyProof.noPylong_small (by omega)))
/-- % by a positive divisor of any size -/
theorem op_mod : OpR X (binaryOp .Mod) (rI (fun _ j => 0 < j) fun i j => .int (i % j)) := opI fun i j _ _ _ _ _ hc q => by
  have h1 : (0 : Int) < j := hc
  exact mod_int' (by omega) (by rw [Int.fmod_eq_emod_of_nonneg i (by omega)]; exact q)

theorem iop_add : OpR X (inplaceOp .Add) (rI0 fun i j => .int (i + j)) := opI0 fun _ _ _ _ _ _ _ q => iadd_int q

theorem unI {f : Value → Sem Value} {g : Int → Int}
    (rule : ∀ (i : Int) (t : Tok) (s : Shared) (Q : Value → Shared → Prop) (E : Value → Shared → Prop), Q (.int (g i) s.toks) { s with toks := s.toks + 1 } → wpAny (model X.prog X.w) X.A (f (.int i t)) Q E s) :
    UnR X f (rU fun i => .int (g i)) := by
  intro pins s σ H x v Q I rx h
  obtain ⟨i, rfl, q⟩ := h
  obtain ⟨t, rfl⟩ := rx
  exact rule i t s _ _ ⟨.int (g i), H, I.tok _, ⟨_, rfl⟩, q⟩
theorem un_neg : UnR X (unaryOp .USub) (rU fun i => .int (-i)) := unI fun _ _ _ _ _ q => neg_int q

/-! ### bools among ints: n += (a < b) -/
end

/-! ### comparisons -/
/-- the scalars that == tells apart as data does -/
def scal : V → V → Bool
  | .non, .non => true | .non, .int _ => true | .int _, .non => true | .non, .bl _ => true | .bl _, .non => true | .non, .str _ => true | .str _, .non => true
  | .int _, .int _ => true | .bl _, .bl _ => true | .str _, .str _ => true | .byt _, .byt _ => true
  | .int _, .str _ => true | .str _, .int _ => true | .bl _, .str _ => true | .str _, .bl _ => true
  | _, _ => false
def rEq : R2 := fun x y H Q => scal x y = true ∧ Q (.bl (decide (x = y))) H
def rNe : R2 := fun x y H Q => scal x y = true ∧ Q (.bl (!decide (x = y))) H

theorem dec_int {i j : Int} : decide (V.int i = V.int j) = (i == j) := by
  rw [Bool.eq_iff_iff]
  simp
theorem dec_bl {i j : Bool} : decide (V.bl i = V.bl j) = (i == j) := by
  rw [Bool.eq_iff_iff]
  simp
theorem dec_str {i j : Str} : decide (V.str i = V.str j) = (i == j) := by
  rw [Bool.eq_iff_iff]
  simp
theorem dec_byt {i j : Array UInt8} : decide (V.byt i = V.byt j) = (i.toList == j.toList) := by
  rw [Bool.eq_iff_iff]
  cases i
  cases j
  simp

section
variable {X : Cx} {a b c : Expr} {ta tb tc : TE} {pos : Pos}
theorem fin_bl {pins : List (Addr × Obj)} {σ : St} {H : Hp} {s : Shared} {Q : VK} {k k' : Bool} (I : Inv X pins σ H s) (q : Q (.bl k) H) (e : k = k') : EP X pins σ Q (.bool k') s := by
  subst e
  exact ⟨.bl k, H, I, rfl, q⟩
theorem op_eq : OpR X (compareOp .Eq) rEq := by
  intro pins s σ H x y v u Q I rx ry h
  obtain ⟨hs, q⟩ := h
  cases x with
  | non =>
    cases rx
    cases y with
    | non => cases ry; exact PySem.EqNone.eq_none_none (fin_bl I q (by simp))
    | bl j => cases ry; exact PySem.EqNone.eq_none_bool (fin_bl I q (by simp))
    | int j => obtain ⟨t', rfl⟩ := ry; exact PySem.EqNone.eq_none_int (fin_bl I q (by simp))
    | str j => obtain ⟨t', rfl⟩ := ry; exact PySem.EqNone.eq_none_str (fin_bl I q (by simp))
    | _ => exact absurd (show false = true from hs) Bool.false_ne_true
  | bl i =>
    cases rx
    cases y with
    | non => cases ry; exact PySem.EqNone.eq_bool_none (fin_bl I q (by simp))
    | bl j => cases ry; exact eq_bool (fin_bl I q dec_bl)
    | str j => obtain ⟨t', rfl⟩ := ry; exact PySem.EqMixed.eq_bool_str (fin_bl I q (by simp))
    | _ => exact absurd (show false = true from hs) Bool.false_ne_true
  | int i =>
    obtain ⟨t, rfl⟩ := rx
    cases y with
    | non => cases ry; exact PySem.EqNone.eq_int_none (fin_bl I q (by simp))
    | int j => obtain ⟨t', rfl⟩ := ry; exact eq_int (fin_bl I q dec_int)
    | str j => obtain ⟨t', rfl⟩ := ry; exact PySem.EqMixed.eq_int_str (fin_bl I q (by simp))
    | _ => exact absurd (show false = true from hs) Bool.false_ne_true
  | str i =>
    obtain ⟨t, rfl⟩ := rx
    cases y with
    | non => cases ry; exact PySem.EqNone.eq_str_none (fin_bl I q (by simp))
    | bl j => cases ry; exact PySem.EqMixed.eq_str_bool (fin_bl I q (by simp))
    | int j => obtain ⟨t', rfl⟩ := ry; exact PySem.EqMixed.eq_str_int (fin_bl I q (by simp))
    | str j => obtain ⟨t', rfl⟩ := ry; exact eq_str (fin_bl I q dec_str)
    | _ => exact absurd (show false = true from hs) Bool.false_ne_true
  | byt i =>
    obtain ⟨t, rfl⟩ := rx
    cases y with
    | byt j => obtain ⟨t', rfl⟩ := ry; exact PySem.W.eq_bytes (fin_bl I q dec_byt)
    | _ => exact absurd (show false = true from hs) Bool.false_ne_true
  | _ => cases y <;> exact absurd (show false = true from hs) Bool.false_ne_true
theorem op_ne : OpR X (compareOp .NotEq) rNe := by
  intro pins s σ H x y v u Q I rx ry h
  obtain ⟨hs, q⟩ := h
  cases x with
  | non =>
    cases rx
    cases y with
    | non => cases ry; exact PySem.EqNone.ne_none_none (fin_bl I q (by simp))
    | bl j => cases ry; exact PySem.EqNone.ne_none_bool (fin_bl I q (by simp))
    | int j => obtain ⟨t', rfl⟩ := ry; exact PySem.EqNone.ne_none_int (fin_bl I q (by simp))
    | str j => obtain ⟨t', rfl⟩ := ry; exact PySem.EqNone.ne_none_str (fin_bl I q (by simp))
    | _ => exact absurd (show false = true from hs) Bool.false_ne_true
  | bl i =>
    cases rx
    cases y with
    | non => cases ry; exact PySem.EqNone.ne_bool_none (fin_bl I q (by simp))
    | bl j => cases ry; exact ne_bool (fin_bl I q (congrArg not dec_bl))
    | str j => obtain ⟨t', rfl⟩ := ry; exact PySem.EqMixed.ne_bool_str (fin_bl I q (by simp))
    | _ => exact absurd (show false = true from hs) Bool.false_ne_true
  | int i =>
    obtain ⟨t, rfl⟩ := rx
    cases y with
    | non => cases ry; exact PySem.EqNone.ne_int_none (fin_bl I q (by simp))
    | int j => obtain ⟨t', rfl⟩ := ry; exact ne_int (fin_bl I q (congrArg not dec_int))
    | str j => obtain ⟨t', rfl⟩ := ry; exact PySem.EqMixed.ne_int_str (fin_bl I q (by simp))
    | _ => exact absurd (show false = true from hs) Bool.false_ne_true
  | str i =>
    obtain ⟨t, rfl⟩ := rx
    cases y with
    | non => cases ry; exact PySem.EqNone.ne_str_none (fin_bl I q (by simp))
    | bl j => cases ry; exact PySem.EqMixed.ne_str_bool (fin_bl I q (by simp))
    | int j => obtain ⟨t', rfl⟩ := ry; exact PySem.EqMixed.ne_str_int (fin_bl I q (by simp))
    | str j => obtain ⟨t', rfl⟩ := ry; exact ne_str (fin_bl I q (congrArg not dec_str))
    | _ => exact absurd (show false = true from hs) Bool.false_ne_true
  | byt i =>
    obtain ⟨t, rfl⟩ := rx
    cases y with
    | byt j => obtain ⟨t', rfl⟩ := ry; exact PySem.W.ne_bytes (fin_bl I q (congrArg not dec_byt))
    | _ => exact absurd (show false = true from hs) Bool.false_ne_true
  | _ => cases y <;> exact absurd (show false = true from hs) Bool.false_ne_true

theorem op_lt : OpR X (compareOp .Lt) (rI0 fun i j => .bl (decide (i < j))) := opB0 fun _ _ _ _ _ _ _ q => lt_int q
theorem op_gt : OpR X (compareOp .Gt) (rI0 fun i j => .bl (decide (j < i))) := opB0 fun _ _ _ _ _ _ _ q => gt_int q




theorem nomark (b : Expr) {op : CmpOp} (h : op ≠ .In := by decide) (h2 : op ≠ .NotIn := by decide) : behindInMarks op b = false := by
  have e1 : (op == CmpOp.In) = false := by cases op <;> first | rfl | exact absurd rfl h
  have e2 : (op == CmpOp.NotIn) = false := by cases op <;> first | rfl | exact absurd rfl h2
  cases b <;> simp [behindInMarks, e1, e2]
/-- a comparison as a value; hm: nomark b, or (for in, not in) by with_unfolding_all rfl -/
theorem pe_cmpR {op : CmpOp} {r : R2} (ho : OpR X (compareOp op) r) (ha : PE X a ta) (hb : PE X b tb) (hm : behindInMarks op b = false) : PE X (.Compare a [op] [b] pos) (tOp r ta tb) := by
  intro pins s σ H Q I h
  exact wpAny_Compare1 (binT ha hb I h fun v u s2 x y H2 I2 rx ry q => ho pins s2 σ H2 x y v u Q I2 rx ry q) hm
/-- a reading of a value as a test -/
def tTest (t : TE) : TT := fun σ H Q => t σ H fun x H' => ∃ k, x = .bl k ∧ Q k H'
theorem pt_cmpR {op : CmpOp} {r : R2} (ho : OpR X (compareOp op) r) (ha : PE X a ta) (hb : PE X b tb) (hm : behindInMarks op b = false) : PT X (.Compare a [op] [b] pos) (tTest (tOp r ta tb)) := by
  intro pins s σ H Q I h
  refine wpAny_isTrue_Compare1 (thn (ha pins s σ H _ I h) fun v s1 ⟨x, H1, I1, r1, q1⟩ => thn (hb pins s1 σ H1 _ I1 q1) fun u s2 ⟨y, H2, I2, r2, q2⟩ =>
    thn (ho pins s2 σ H2 x y v u _ I2 r1 r2 q2) fun c s3 ⟨z, H3, I3, r3, k, e, q3⟩ => ?_) hm
  subst e
  cases r3
  exact wpAny_truthy_bool ⟨H3, I3, q3⟩

/-! ### truth -/
theorem line63 : (sizeLine : Nat) < 2 ^ 63 := by rw [sizeLine_eq]; decide

/-! ### strs and bytes -/
theorem op_add_str : OpR X (binaryOp .Add) (fun x y H Q => ∃ i j, x = .str i ∧ y = .str j ∧ i.length + j.length ≤ sizeLine ∧ Q (.str (i ++ j)) H) := by
  intro pins s σ H x y v u Q I rx ry h
  obtain ⟨i, j, rfl, rfl, hz, q⟩ := h
  obtain ⟨t, rfl⟩ := rx
  obtain ⟨t', rfl⟩ := ry
  exact add_str (fun t' tk => ⟨.str (i ++ j), H, I.tok _, ⟨_, rfl⟩, q⟩) hz


/-! ### scalar builtins, by CallR -/
theorem vals1 {x : V} {us : List Value} (r : Vals [x] us) : ∃ u, us = [u] ∧ RelV x u := by
  cases r with
  | cons r1 r2 => cases r2; exact ⟨_, rfl, r1⟩
theorem vals2 {x y : V} {us : List Value} (r : Vals [x, y] us) : ∃ u w', us = [u, w'] ∧ RelV x u ∧ RelV y w' := by
  cases r with
  | cons r1 r2 =>
    cases r2 with
    | cons r3 r4 => cases r4; exact ⟨_, _, rfl, r1, r3⟩
/-- len of a str, a bytes, a list, a tuple -/
def LenV (K : PySem.W.Frag) (x : V) (H : Hp) (n : Nat) : Prop :=
  match x with
  | .str y => y.length ≤ sizeLine ∧ n = y.length
  | .byt y => y.size ≤ sizeLine ∧ n = y.size
  | .ref p => (∃ xs, SqL K H p xs ∧ n = xs.length) ∨ ∃ xs, SqT K H p xs ∧ n = xs.length
  | _ => False
theorem call_len : CallR X (.builtin "len") (fun xs H Q => ∃ x n, xs = [x] ∧ LenV X.K x H n ∧ Q (.int n) H) := by
  intro pins s σ H xs us Q I r h
  obtain ⟨x, n, rfl, e, q⟩ := h
  obtain ⟨u, rfl, rx⟩ := vals1 r
  have hl := line63
  have hs : sizeLine = 16777216 := sizeLine_eq
  cases x with
  | str y =>
    obtain ⟨t, rfl⟩ := rx
    obtain ⟨hy, e'⟩ : y.length ≤ sizeLine ∧ n = y.length := e
    subst e'
    exact len_str (by omega) ⟨.int _, H, I.tok _, ⟨_, rfl⟩, q⟩
  | byt y =>
    obtain ⟨t, rfl⟩ := rx
    obtain ⟨hy, e'⟩ : y.size ≤ sizeLine ∧ n = y.size := e
    subst e'
    exact PySem.W.len_bytes (by omega) ⟨.int _, H, I.tok _, ⟨_, rfl⟩, q⟩
  | ref p =>
    cases rx
    have e' : (∃ xs, SqL X.K H p xs ∧ n = xs.length) ∨ ∃ xs, SqT X.K H p xs ∧ n = xs.length := e
    rcases e' with ⟨xs, hx, e'⟩ | ⟨xs, hx, e'⟩
    · subst e'
      obtain ⟨its, r', pl, hz⟩ := I.list hx
      have hlen := r'.length
      exact Calls.call_len_list pl.isList (by simp only [List.size_toArray]; omega) ⟨.int xs.length, H, I.tok _, ⟨_, by simp only [List.size_toArray]; rw [hlen]⟩, q⟩
    · subst e'
      obtain ⟨its, r', pl, hz⟩ := I.tuple hx
      have hlen := r'.length
      exact len_tuple pl (by simp only [List.size_toArray]; omega) ⟨.int xs.length, H, I.tok _, ⟨_, by simp only [List.size_toArray]; rw [hlen]⟩, q⟩
  | _ => exact (show False from e).elim
end
end L2

namespace L2
open PySem PySem.Spec PyProof.Rows

/-! ### an instance, its attributes a map -/



section
variable {prog : Program} {w : World} {A : Around} {E : Value → Shared → Prop} {s : Shared} {K : PySem.W.Frag} {x dx C f : Addr} {mA : Str → Option Value} {name : Str} {v : Value}





end

/-! ### the attributes as a list of pairs -/


section
variable {P : Program} {w : World} {H H' : Hp} {h h' : Heap} {a C dx : Addr} {fs fs' : List (Str × V)}
end

/-! ### what of the text a class must have -/

section
variable {X : Cx} {pins : List (Addr × Obj)} {σ : St} {H : Hp} {s : Shared} {a C dx : Addr} {fs : List (Str × V)} {f : Str} {v : V} {A : Around} {E : Value → Shared → Prop}






end

/-! ### readings and rules -/

section
variable {X : Cx} {o e value : Expr} {f : Str} {pos pos' tpos : Pos} {ta tv : TE}

end

/-! ### isinstance -/
section
variable {X : Cx} {pins : List (Addr × Obj)} {σ : St} {H : Hp} {s : Shared} {A : Around} {E : Value → Shared → Prop} {Q : Value → Shared → Prop} {c : Value} {b : Bool}
end
end L2

namespace L2
open PySem PySem.Spec PyProof.Rows

/-! ### room -/
structure Room (k : Nat) (A : Around) : Prop where
  hd : A.handled = none
  dp : A.depth + 3 * k + 5 < recursionLimit
  un : A.units + 16 * k + 200 < cLine
  gd : A.guards = some []
theorem Room.mono {j k : Nat} {A : Around} (r : Room k A) (h : j ≤ k) : Room j A := ⟨r.hd, by have := r.dp; omega, by have := r.un; omega, r.gd⟩
theorem Room.deeper {k : Nat} {A : Around} (r : Room (k + 1) A) (env : Env) : Room k (A.deeper env) :=
  ⟨r.hd, by have := r.dp; show A.depth + 1 + 3 * k + 5 < _; omega, by have := r.un; show A.units + 3 + 16 * k + 200 < _; omega, by first | exact r.gd | (simpa [Around.deeper] using r.gd)⟩
theorem Room.depth {k : Nat} {A : Around} (r : Room k A) : A.depth < recursionLimit := by have := r.dp; omega
theorem Room.units {k : Nat} {A : Around} (r : Room k A) : A.units + 64 < cLine := by have := r.un; omega

/-! ### argument lists and displays -/
def tNil : TA := fun _ H Q => Q [] H
def tCons (ta : TE) (tr : TA) : TA := fun σ H Q => ta σ H fun x H1 => tr σ H1 fun xs H2 => Q (x :: xs) H2
section
variable {X : Cx} {e : Expr} {es : List Expr} {te : TE} {t : TA} {pos : Pos}
theorem pa_nil : PA X [] tNil := fun _ _ _ _ H Q I h => Calls.spliced_nil ⟨[], H, I, .nil, h⟩
theorem pa_cons (ha : PE X e te) (hr : PA X es t) (hs : starEach (e :: es) X.env = (false, eval e X.env) :: starEach es X.env := by rfl) : PA X (e :: es) (tCons te t) := by
  intro pos pins s σ H Q I h
  rw [hs]
  show wpAny _ _ (spliced ((false, eval e X.env) :: backTo pos (starEach es X.env))) _ _ s
  refine Calls.spliced_cons (thn (ha pins s σ H _ I h) fun u s1 ⟨x, H1, I1, r1, q1⟩ => ?_)
  exact thn (hr pos pins s1 σ H1 _ I1 q1) fun us s2 ⟨xs, H2, I2, r2, q2⟩ => ⟨x :: xs, H2, I2, .cons r1 r2, q2⟩

/-- a tuple, a list of written items -/
def tTup (t : TA) : TE := fun σ H Q => t σ H fun xs H1 => xs.length ≤ sizeLine ∧ ∀ p, H1 p = none → Q (.ref p) (upd H1 p (.tup xs))
def tLst (t : TA) : TE := fun σ H Q => t σ H fun xs H1 => xs.length ≤ sizeLine ∧ ∀ p, H1 p = none → Q (.ref p) (upd H1 p (.lst xs))
theorem pe_tup {x1} (h : PA X es t) : PE X (.Tuple es x1 pos) (tTup t) := by
  intro pins s σ H Q I hq
  refine wpAny_Tuple_spliced (thn (h pos pins s σ H _ I hq) fun us s1 ⟨xs, H1, I1, r, z, q⟩ => ⟨by rw [← r.length]; exact z, ?_⟩)
  have hf : H1 s1.heap.objs.size = none := I1.hok.fresh (Nat.le_refl _)
  refine ⟨.ref s1.heap.objs.size, upd H1 s1.heap.objs.size (.tup xs), I1.laid (t' := s1.toks) (fun b u e => Heap.get?_push_of_some _ e) (Nat.le_refl _) ?_, rfl, q _ hf⟩
  exact ⟨z, us, r, ⟨_, Heap.get?_push_size _ rfl, rfl, _, rfl⟩⟩
theorem pe_lst (h : PA X es t) : PE X (.List es pos) (tLst t) := by
  intro pins s σ H Q I hq
  refine wpAny_List_spliced (thn (h pos pins s σ H _ I hq) fun us s1 ⟨xs, H1, I1, r, z, q⟩ => ⟨by rw [← r.length]; exact z, ?_⟩)
  have hf : H1 s1.heap.objs.size = none := I1.hok.fresh (Nat.le_refl _)
  refine ⟨.ref s1.heap.objs.size, upd H1 s1.heap.objs.size (.lst xs), I1.laid (t' := s1.toks) (fun b u e => Heap.get?_push_of_some _ e) (Nat.le_refl _) ?_, rfl, q _ hf⟩
  exact ⟨z, us, 0, r, Heap.get?_push_size _ rfl⟩
end

/-! ### what a def promises -/
/-- a def's promise: the bound arguments in the parameters' order, the heap, the wanted end, the wanted exception -/
abbrev Sp := List V → Hp → VK → XK → Prop
/-- how an exception lies behind a call (file 08 gives it): the callers' frames, abstract heap and state ahead of the call, the wish, the exception, the state -/
abbrev CXT := List Env → Hp → Shared → XK → Value → Shared → Prop

/-- the state at a call -/
structure Env0 (P : Program) (w : World) (K : PySem.W.Frag) (mg : Str → Option Value) (base : Heap) (A : Around) (outer : List Env) (s : Shared) (H : Hp) : Prop where
  frames : A.frames = some outer
  mod : Mod K mg base
  bs : ∀ b o, base.get? b = some o → s.heap.get? b = some o ∧ H b = none
  bsz : base.objs.size ≤ s.heap.objs.size
  funs : s.heap.FunFrames base outer
  frf : ∀ b ∈ frs outer, H b = none
  hok : HOk P w H s.heap
  bare : AllBare s.gens
/-- a call's end -/
def CE (outer : List Env) (P : Program) (w : World) (H : Hp) (s : Shared) (Q : VK) (u : Value) (s' : Shared) : Prop :=
  ∃ v H', s'.os = s.os ∧ AllBare s'.gens ∧ Un (frs outer) [] H H' s.heap s'.heap ∧ HOk P w H' s'.heap ∧ RelV v u ∧ Q v H'
def CR (CX : CXT) (outer : List Env) (P : Program) (w : World) (H : Hp) (s : Shared) (Q : VK) (E : XK) (r : Result) (s' : Shared) : Prop :=
  match r with
  | .ok (.ret u) => CE outer P w H s Q u s'
  | .ok _ => False
  | .error e => CX outer H s E e s'
structure FnOk (P : Program) (w : World) (K : PySem.W.Frag) (mg : Str → Option Value) (base : Heap) (CX : CXT) (k : Nat) (f : Addr) (fd : FuncData) (ps : List Str) (sp : Sp) : Prop where
  len : ∀ vs H Q E, sp vs H Q E → vs.length = ps.length
  run : ∀ (A : Around) (outer : List Env) (s : Shared) (H : Hp) (args : Args) (us : List Value) (vs : List V) (Q : VK) (E : XK), Room k A → Env0 P w K mg base A outer s H → BindsTo s fd args (ps.zip us) → Vals vs us → sp vs H Q E →
    codeAny (model P w) A (.call (.ref f) args) (CR CX outer P w H s Q E) s


section
variable {X : Cx} {pins : List (Addr × Obj)} {σ : St} {H : Hp} {s s' : Shared}
/-- from a body: what a callee wants -/
theorem Inv.env0 (I : Inv X pins σ H s) : Env0 X.prog X.w X.K X.mg X.base X.A X.stack s H :=
  ⟨I.ok.frames, I.ok.mod, I.bs, Nat.le_trans I.ok.bsz I.sz, I.stack, I.stkFree, I.hok, I.bare⟩
/-- behind a call -/
theorem Inv.after {Q : VK} {u : Value} (I : Inv X pins σ H s) (h : CE X.stack X.prog X.w H s Q u s') : EP X pins σ Q u s' := by
  obtain ⟨v, H', os, bare, un, hok, r, q⟩ := h
  obtain ⟨hh, g, d, t, os'⟩ := s'
  obtain rfl : os' = s.os := os
  exact ⟨v, H', I.call (h' := hh) (g' := g) (d' := d) (t' := t) (ch := []) un hok bare (fun b z => absurd z (by simp)), r, q⟩
end

/-! ### calls -/
/-- f(..): the written arguments, then the defaults dvs; E: what is wanted of an exception -/
def tCall (sp : Sp) (dvs : List V) (E : XK) (t : TA) : TE := fun σ H Q => t σ H fun vs H1 => sp (vs ++ dvs) H1 Q E

/-- how the parameters are bound: us the positional arguments, kw the keywords' values by name, ds the defaults that fill up -/
def Binds (K : PySem.W.Frag) (fd : FuncData) (ps : List Str) (ds : List Value) : Prop :=
  ∀ (s : Shared) (us : List Value), K.In s.heap → (us ++ ds).length = ps.length → BindsTo s fd ⟨us, []⟩ (ps.zip (us ++ ds))
/-- every parameter is given -/
theorem Binds.all {K : PySem.W.Frag} {fd : FuncData} {ps : List Str} (h : ∀ us : List Value, us.length = ps.length → bindArgs fd ⟨us, []⟩ = pure (ps.zip us)) : Binds K fd ps [] := fun s us _ hl => by
  rw [List.append_nil] at hl ⊢
  exact .of_eq (h us hl)

/-- an exception of a callee reaches what this body wants of exceptions -/
def Passes (CX : CXT) (X : Cx) (E : XK) : Prop := ∀ (pins : List (Addr × Obj)) (σ : St) (H : Hp) (s : Shared) (e : Value) (s' : Shared), Inv X pins σ H s → CX X.stack H s E e s' → X.xe e s'

section
variable {X : Cx} {CX : CXT} {k : Nat} {f C : Addr} {fd : FuncData} {ps : List Str} {sp : Sp} {dvs : List V} {ds : List Value} {E : XK} {x m : Str} {p pos apos : Pos} {e o : Expr} {es : List Expr} {ta : TE} {t : TA}

/-- the callee runs -/
theorem run_fn {pins : List (Addr × Obj)} {σ : St} {H : Hp} {s : Shared} {Q : VK} {us : List Value} {vs : List V} (F : FnOk X.prog X.w X.K X.mg X.base CX k f fd ps sp) (hr : Room k X.A) (hb : Binds X.K fd ps ds) (hd : Vals dvs ds) (hx : Passes CX X E)
    (I : Inv X pins σ H s) (r : Vals vs us) (h : sp (vs ++ dvs) H Q E) : wpAny (model X.prog X.w) X.A (call (.ref f) us) (EP X pins σ Q) X.xe s := by
  have r2 : Vals (vs ++ dvs) (us ++ ds) := r.append hd
  have hl : (us ++ ds).length = ps.length := by rw [← r2.length]; exact F.len _ _ _ _ h
  refine wpAny_call (codeAny_mono (F.run X.A X.stack s H ⟨us, []⟩ (us ++ ds) (vs ++ dvs) Q E hr I.env0 (hb s us I.kIn hl) r2 h) fun r s' hq => ?_)
  cases r with
  | error e => exact hx pins σ H s e s' I hq
  | ok fl =>
    cases fl with
    | ret u => exact I.after hq
    | next => exact False.elim hq
    | brk => exact False.elim hq
    | cont => exact False.elim hq

theorem pe_call (F : FnOk X.prog X.w X.K X.mg X.base CX k f fd ps sp) (hr : Room k X.A) (hg : Gl X x) (hm : X.mg x = some (.ref f)) (hk : PySem.W.keepIn X.K (.ref f) = true) (hb : Binds X.K fd ps ds) (hd : Vals dvs ds) (hx : Passes CX X E)
    (ha : PA X (e :: es) t) (hdb : (x == ("__debug__" : Str)) = false := by decide) (he : starEach (e :: es) X.env = (false, eval e X.env) :: starEach es X.env := by rfl) (hpl : (backTo pos (starEach es X.env)).any (·.1) = false := by rfl) :
    PE X (.Call (.Name x p) (e :: es) [] pos) (tCall sp dvs E t) := by
  intro pins s σ H Q I h
  refine wpAny_Call_Name_kw (ld_glob I hg hm ?_ hdb)
  refine PySem.W.callWith_K (h₀ := X.base) I.ok.mod.kin hk (thn (ha pos pins s σ H _ I h) fun us s1 ⟨vs, H1, I1, r, q⟩ => ⟨I1.kIn, ?_⟩) he hpl
  exact run_fn F hr hb hd hx I1 r q



end

/-! ### keywords -/
section
variable {X : Cx} {CX : CXT} {k : Nat} {f C : Addr} {fd : FuncData} {ps ks : List Str} {sp : Sp} {E : XK} {x m : Str} {p pos apos kpos : Pos} {e o : Expr} {es : List Expr} {kws : List Keyword} {te ta : TE} {t tk : TA} {nm : Option Str}

variable {g : List Value → List Value → List Value} {gV : List V → List V → List V}
end

/-! ### a def's body keeps its promise -/
/-- names: the parameters first -/
structure FnScope (N P : List Str) (sc : Scope) : Prop where
  kind : sc.kind = .function
  co : sc.isCoroutine = false
  gen : sc.isGenerator = false
  nd : N.Nodup
  pre : N.take P.length = P
  par : ∀ x ∈ P, sc.names.lookup x = some .local ∨ sc.names.lookup x = some .cell
  nofree : ∀ y ∈ sc.names, y.2 ≠ .free

theorem bindL_out {kindOf : Str → Option NameKind} {x : Str} : ∀ {binds : List (Str × Value)} {m : Str → Option Value}, (∀ v, (x, v) ∉ binds) → bindL kindOf binds m x = m x
  | [], _, _ => rfl
  | (n, v) :: r, m, h => by
    unfold bindL
    rw [bindL_out fun w hw => h w (List.mem_cons_of_mem _ hw)]
    split
    · have : x ≠ n := by rintro rfl; exact h v List.mem_cons_self
      simp [this]
    · rfl
theorem bindC_out {kindOf : Str → Option NameKind} {x : Str} : ∀ {binds : List (Str × Value)} {m : Str → Option Value}, (∀ v, (x, v) ∉ binds) → bindC kindOf binds m x = m x
  | [], _, _ => rfl
  | (n, v) :: r, m, h => by
    unfold bindC
    rw [bindC_out fun w hw => h w (List.mem_cons_of_mem _ hw)]
    split
    · rfl
    · have : x ≠ n := by rintro rfl; exact h v List.mem_cons_self
      simp [this]
theorem bindL_get {kindOf : Str → Option NameKind} {x : Str} {v : Value} : ∀ {P : List Str} {vs : List Value} {i : Nat} {m : Str → Option Value}, P.Nodup → P[i]? = some x → vs[i]? = some v → kindOf x = some .local →
    bindL kindOf (P.zip vs) m x = some v
  | [], _, _, _, _, h, _, _ => by simp at h
  | _ :: _, [], _, _, _, _, h, _ => by simp at h
  | p :: P, w :: vs, 0, m, nd, h1, h2, hk => by
    simp at h1 h2; subst h1; subst h2
    show bindL kindOf ((p, w) :: P.zip vs) m p = _
    unfold bindL
    rw [bindL_out fun v hv => (List.nodup_cons.mp nd).1 (List.of_mem_zip hv).1, if_pos hk]
    simp
  | p :: P, w :: vs, i + 1, m, nd, h1, h2, hk => by
    show bindL kindOf ((p, w) :: P.zip vs) m x = _
    unfold bindL
    exact bindL_get (i := i) (List.nodup_cons.mp nd).2 (by simpa using h1) (by simpa using h2) hk
theorem bindC_get {kindOf : Str → Option NameKind} {x : Str} {v : Value} : ∀ {P : List Str} {vs : List Value} {i : Nat} {m : Str → Option Value}, P.Nodup → P[i]? = some x → vs[i]? = some v → kindOf x ≠ some .local →
    bindC kindOf (P.zip vs) m x = some v
  | [], _, _, _, _, h, _, _ => by simp at h
  | _ :: _, [], _, _, _, _, h, _ => by simp at h
  | p :: P, w :: vs, 0, m, nd, h1, h2, hk => by
    simp at h1 h2; subst h1; subst h2
    show bindC kindOf ((p, w) :: P.zip vs) m p = _
    unfold bindC
    rw [bindC_out fun v hv => (List.nodup_cons.mp nd).1 (List.of_mem_zip hv).1, if_neg hk]
    simp
  | p :: P, w :: vs, i + 1, m, nd, h1, h2, hk => by
    show bindC kindOf ((p, w) :: P.zip vs) m x = _
    unfold bindC
    exact bindC_get (i := i) (List.nodup_cons.mp nd).2 (by simpa using h1) (by simpa using h2) hk

/-- the names' values at the entry -/
def start (N : List Str) (vs : List V) : St := vs.map some ++ List.replicate (N.length - vs.length) none

/-- the context of a def's body, at its entry; an exception leaves the frame, then lies as CX says -/
def cxOf (CX : CXT) (P : Program) (w : World) (K : PySem.W.Frag) (mg : Str → Option Value) (base : Heap) (N : List Str) (qual : Str) (scope : Scope) (f : Addr) (cd : Value) (A : Around) (outer : List Env) (s : Shared) (H : Hp) (E : XK) : Cx where
  prog := P
  w := w
  K := K
  mg := mg
  base := base
  A := A.deeper (envOfC qual scope s.heap.objs.size f cd)
  N := N
  s₀ := s
  H₀ := H
  env := envOfC qual scope s.heap.objs.size f cd
  outer := outer
  stack := envOfC qual scope s.heap.objs.size f cd :: outer
  ex := []
  calm := true
  fn := fun _ => true
  pn := []
  xe := fun e s' => wpAny (model P w) (A.deeper (envOfC qual scope s.heap.objs.size f cd)) (leaving (envOfC qual scope s.heap.objs.size f cd) e) (fun _ s'' => CX outer H s E e s'') (fun e' s'' => CX outer H s E e' s'') s'

theorem cell_has {sc : Scope} {n : Nat} {x : Str} (h : sc.names.lookup x = some .cell) : ∃ c, (cellsFrom n sc.names []).lookup x = some c := by
  have q := PySem.W.cellsFrom_some sc.names n [] (.inl h)
  exact Option.isSome_iff_exists.mp q

theorem inv_start {CX : CXT} {P : Program} {w : World} {K : PySem.W.Frag} {mg : Str → Option Value} {base : Heap} {N ps : List Str} {qual : Str} {scope : Scope} {f : Addr} {cd : Value} {A : Around} {outer : List Env} {s s1 : Shared} {H : Hp} {E : XK} {us : List Value} {vs : List V}
    (S : FnScope N ps scope) (hd : A.handled = none) (e0 : Env0 P w K mg base A outer s H) (hl : vs.length = ps.length) (r : Vals vs us)
    (x : InCallC s s.heap.objs.size (bindL (envOfC qual scope s.heap.objs.size f cd).kindOf (ps.zip us) fun _ => none) (cellsFrom (s.heap.objs.size + 1) scope.names []) (bindC (envOfC qual scope s.heap.objs.size f cd).kindOf (ps.zip us) fun _ => none) s1) :
    Inv (cxOf CX P w K mg base N qual scope f cd A outer s H E) [] (start N vs) H s1 := by
  have hpl : ps.length ≤ N.length := by have := congrArg List.length S.pre; rw [List.length_take] at this; omega
  obtain ⟨h1, tk, rfl, hk⟩ := x.done
  have noA : ∀ b : Addr, b ∉ (cxOf CX P w K mg base N qual scope f cd A outer s H E).ex := fun b z => absurd (show b ∈ ([] : List Addr) from z) (by simp)
  refine ⟨⟨e0.mod, S.kind, rfl, rfl, Nat.le_refl _, fun y z c h1 h2 => ?_, fun y hy => ?_, fun y c _ h => ?_, fun _ => hd, Around.frames_deeper e0.frames, .inr ⟨rfl, rfl⟩, fun b z => absurd z (noA b), e0.bs, e0.bsz, fun b _ _ => noA b, fun b z => absurd z (noA b), e0.funs, e0.frf⟩,
    rfl, e0.bare, Un.kept hk, ⟨_, x.toInCall.ns, fun i y v h1 h2 h3 => ?_⟩, fun y c h => ⟨_, x.cell y c h⟩, e0.hok.fresh (Nat.le_refl _), fun y c h => ?_, fun p hp => absurd (show p ∈ ([] : List (Addr × Obj)) from hp) (by simp), e0.hok.kept hk, ?_⟩
  · exact name_of_addr x.apart (PySem.mem_of_lookup h1) (PySem.mem_of_lookup h2)
  · have hy : scope.names.lookup y = some .cell ∨ scope.names.lookup y = some .free := hy
    rcases hy with hy | hy
    · exact cell_has hy
    · exact absurd rfl (S.nofree _ (PySem.mem_of_lookup hy))
  · exact Nat.le_of_lt (x.above y c (PySem.mem_of_lookup h))
  · have hi : i < vs.length := by
      unfold start at h2
      by_cases hi : i < vs.length
      · exact hi
      · rw [List.getElem?_append_right (by simpa using hi)] at h2
        rw [List.getElem?_replicate] at h2
        split at h2 <;> cases h2
    have ha : vs[i]? = some v := by
      unfold start at h2
      rw [List.getElem?_append_left (by simpa using hi), List.getElem?_map] at h2
      cases e : vs[i]? with
      | none => rw [e] at h2; cases h2
      | some a => rw [e] at h2; cases h2; rfl
    obtain ⟨u, hu, rv⟩ := r.get ha
    have hp : ps[i]? = some y := by
      rw [← S.pre, List.getElem?_take_of_lt (by omega)]; exact h1
    have ndP : ps.Nodup := by rw [← S.pre]; exact S.nd.sublist (List.take_sublist _ _)
    refine ⟨u, rv, ?_⟩
    rcases S.par y (List.mem_of_getElem? hp) with k | k
    · exact .inl ⟨k, bindL_get ndP hp hu k⟩
    · obtain ⟨c, e⟩ := cell_has (n := s.heap.objs.size + 1) k
      refine .inr ⟨.inl k, c, e, ?_⟩
      have q := x.cell y c e
      rw [bindC_get ndP hp hu (by show scope.names.lookup y ≠ _; rw [k]; decide)] at q
      exact q
  · exact e0.hok.fresh (Nat.le_of_lt (x.above y c (PySem.mem_of_lookup h)))
  · unfold start
    show _ = N.length
    rw [List.length_append, List.length_map, List.length_replicate]
    omega

/-- THE RULE: a def (or a method) of the text, by its body. The body's reading t is chosen for each entry; it is run at the parameters' values -/
theorem fn_of {CX : CXT} {P : Program} {w : World} {K : PySem.W.Frag} {mg : Str → Option Value} {base : Heap} {k : Nat} {f : Addr} {name qual : Str} {params : Arguments} {body : List Stmt} {scope : Scope} {dV kV doc pm cdv ct oc : Value} {an od : Option Addr}
    {osl : Array (Option Value)} {N ps : List Str} {sp : Sp} (lk : K.lookup f = some ⟨oc, od, .func (PySem.W.fnOf name qual params body scope dV kV doc pm an cdv ct), osl⟩) (hcd : PySem.W.codeIn K cdv qual = true) (S : FnScope N ps scope)
    (len : ∀ vs H Q E, sp vs H Q E → vs.length = ps.length)
    (hbody : ∀ (A : Around) (outer : List Env) (s : Shared) (H : Hp) (vs : List V) (Q : VK) (E : XK), Room k (A.deeper (envOfC qual scope s.heap.objs.size f cdv)) → sp vs H Q E →
      ∃ t, PSs (cxOf CX P w K mg base N qual scope f cdv A outer s H E) body t ∧ t { nx := fun _ H' => Q .non H', rt := Q } (start N vs) H) :
    FnOk P w K mg base CX (k + 1) f (PySem.W.fnOf name qual params body scope dV kV doc pm an cdv ct) ps sp := by
  refine ⟨len, fun A outer s H args us vs Q E hr e0 hb r hsp => ?_⟩
  have hl := len _ _ _ _ hsp
  have KX : K.In s.heap := e0.mod.kin.keeps fun b o e => (e0.bs b o e).1
  have lim : s.heap.NoLimit := e0.mod.nolimit.keeps fun b o e => (e0.bs b o e).1
  have hkind : ∀ y ∈ ps.zip us, scope.names.lookup y.1 = some .local ∨ (scope.names.lookup y.1 = some .cell ∧ ((cellsFrom (s.heap.objs.size + 1) scope.names []).lookup y.1).isSome = true) := fun ⟨n, v⟩ hy => by
    rcases S.par n (List.of_mem_zip hy).1 with q | q
    · exact .inl q
    · exact .inr ⟨q, PySem.W.cellsFrom_some _ _ _ (.inl q)⟩
  refine codeAny_call_function hr.depth (KX _ _ lk) rfl S.co S.gen rfl (PySem.W.codeRec_of KX hcd) (hb _ _ _ _ ?_)
  refine wpAny_newFunctionEnv_cells S.kind hkind fun env he s1 x => ?_
  subst he
  refine ⟨lim.keeps x.toInCall.keep, codeAny_func ?_⟩
  obtain ⟨t, ht, hq⟩ := hbody A outer s H vs Q E (hr.deeper _) hsp
  have I : Inv (cxOf CX P w K mg base N qual scope f cdv A outer s H E) [] (start N vs) H s1 := inv_start S hr.hd e0 hl r x
  refine wpAny_mono (ht [] s1 (start N vs) H _ I hq) (fun fl s' hs => ?_) fun e s' hs => hs
  have fin : ∀ {σ' : St} {H' : Hp} {v : V} {u : Value}, Inv (cxOf CX P w K mg base N qual scope f cdv A outer s H E) [] σ' H' s' → RelV v u → Q v H' → CE outer P w H s Q u s' :=
    fun {σ' H' v u} J rv q => ⟨v, H', J.os, J.bare, J.base, J.hok, rv, q⟩
  cases fl with
  | ret u =>
    obtain ⟨v, σ', H', J, rv, q⟩ := hs
    exact fin J rv q
  | next =>
    obtain ⟨σ', H', J, q⟩ := hs
    exact fin (v := V.non) (u := Value.none) J rfl q
  | brk =>
    obtain ⟨_, _, _, q⟩ := hs
    exact False.elim q
  | cont =>
    obtain ⟨_, _, _, q⟩ := hs
    exact False.elim q
end L2

namespace L2
open PySem PySem.Spec PyProof.Rows
section
variable {X : Cx} {x : Str} {p pos : Pos} {e : Expr} {es : List Expr} {t : TA} {id T : String} {r : List V → Hp → VK → Prop}

def tCB (r : List V → Hp → VK → Prop) (t : TA) : TE := fun σ H Q => t σ H fun vs H1 => r vs H1 Q
/-- f(e, ..), f a built-in function -/
theorem pe_callB (hc : CallR X (.builtin id) r) (hm : X.mg x = none) (ha : PA X (e :: es) t) (hg : Gl X x := by rfl) (hv : bootBuiltins x = some (.builtin id) := by decide +kernel) (hn : x ≠ "__name__" := by decide) (hdb : (x == ("__debug__" : Str)) = false := by decide)
    (he : starEach (e :: es) X.env = (false, eval e X.env) :: starEach es X.env := by rfl) (hpl : (backTo pos (starEach es X.env)).any (·.1) = false := by rfl) : PE X (.Call (.Name x p) (e :: es) [] pos) (tCB r t) := by
  intro pins s σ H Q I h
  refine wpAny_Call_Name_kw (ld_blt I hg hm hv ?_ hn hdb)
  exact PyProof.Rows.callWith_builtin1 (thn (ha pos pins s σ H _ I h) fun us s1 ⟨vs, H1, I1, r1, q1⟩ => hc pins s1 σ H1 vs us Q I1 r1 q1) he hpl
end
end L2

namespace HT
open PySem PyProof.Rows



section
open PySem.SeqAt
open PySem.AutoSeq1 (wpAny_loadPart')
open PySem.MeetsSeq PySem.MeetsSeq2 PySem.MeetsSeq3

end

section
variable {prog : Program} {w : World} {A : Around} {E : Value → Shared → Prop} {s : Shared}



/-! ### t[a:b], not the whole -/

end
end HT

namespace L2
open PySem PySem.Spec PyProof.Rows

/-! ### the parts of a slice -/
abbrev TO := St → Hp → (Option Int → Hp → Prop) → Prop
/-- a slice's part (left out, or an int) -/
def PO (X : Cx) (e : Option Expr) (t : TO) : Prop :=
  ∀ (pins : List (Addr × Obj)) (s : Shared) (σ : St) (H : Hp) (Q : Option Int → Hp → Prop), Inv X pins σ H s → t σ H Q →
    wpAny (model X.prog X.w) X.A (evalPart e X.env) (fun u s' => ∃ o H', Inv X pins σ H' s' ∧ IsPart u o ∧ Q o H') X.xe s
def tNoPart : TO := fun _ H Q => Q none H
def tPart (t : TE) : TO := fun σ H Q => t σ H fun x H1 => ∃ i, x = .int i ∧ Q (some i) H1


section
variable {X : Cx} {e : Expr} {te : TE} {lo hi : Option Expr} {tl th : TO} {pos p2 : Pos}

theorem po_none : PO X none tNoPart := by
  intro pins s σ H Q I h
  rw [evalPart_none]
  exact wpAny_pure ⟨none, H, I, .none, h⟩
theorem po_some (h : PE X e te) : PO X (some e) (tPart te) := by
  intro pins s σ H Q I hw
  rw [evalPart_some]
  refine thn (h pins s σ H _ I hw) fun u s1 ⟨x, H1, I1, r1, q1⟩ => ?_
  obtain ⟨i, rfl, q⟩ := q1
  obtain ⟨t, rfl⟩ := r1
  exact ⟨some i, H1, I1, .int i t, q⟩

/-- what a slice of a value is, by values: the slice object stands at sl -/
def SlR (X : Cx) (r : V → Option Int → Option Int → Hp → VK → Prop) : Prop :=
  ∀ (pins : List (Addr × Obj)) (s : Shared) (σ : St) (H : Hp) (x : V) (v vl vu : Value) (lo hi : Option Int) (sl : Addr) (Q : VK), Inv X pins σ H s → RelV x v → s.heap.IsSliceOf sl vl vu .none → IsPart vl lo → IsPart vu hi → r x lo hi H Q →
    ∃ T id, typeLookup (.type T) "__getitem__" = pure (some (.builtin id)) ∧ s.TypeIs v T ∧ wpAny (model X.prog X.w) X.A (getItem v (.ref sl)) (EP X pins σ Q) X.xe s
def tSl (r : V → Option Int → Option Int → Hp → VK → Prop) (te : TE) (tl th : TO) : TE := fun σ H Q => te σ H fun x H1 => tl σ H1 fun l H2 => th σ H2 fun u H3 => r x l u H3 Q
/-- a[lo:hi], any a -/
theorem pe_slice {r : V → Option Int → Option Int → Hp → VK → Prop} (hr : SlR X r) (he : PE X e te) (hl : PO X lo tl) (hu : PO X hi th) : PE X (.Subscript e (.Slice lo hi none p2) pos) (tSl r te tl th) := by
  intro pins s σ H Q I h
  refine Subscript_ (thn (he pins s σ H _ I h) fun v s1 ⟨x, H1, I1, r1, q1⟩ => ?_)
  refine wpAny_Slice (thn (hl pins s1 σ H1 _ I1 q1) fun vl s2 ⟨l, H2, I2, pl, q2⟩ => thn (hu pins s2 σ H2 _ I2 q2) fun vu s3 ⟨u, H3, I3, pu, q3⟩ => ?_)
  rw [evalPart_none]
  refine wpAny_pure ?_
  have I4 : Inv X pins σ H3 { s3 with heap := s3.heap.push { cls := .type "slice", data := .fields #[vl, vu, .none] } } := I3.kept (t' := s3.toks) fun b ob q => Heap.get?_push_of_some _ q
  obtain ⟨T, id, hT, ht, hg⟩ := hr pins { s3 with heap := s3.heap.push { cls := .type "slice", data := .fields #[vl, vu, .none] } } σ H3 x v vl vu l u s3.heap.objs.size Q I4 r1 (Heap.IsSliceOf.new ..) pl pu q3
  show wpAny (model X.prog X.w) X.A (subscriptTail e (.Slice lo hi none p2) v (.ref s3.heap.objs.size)) (EP X pins σ Q) X.xe { s3 with heap := s3.heap.push { cls := .type "slice", data := .fields #[vl, vu, .none] } }
  exact tail_any (ops := [.ref s3.heap.objs.size, v]) ht hT hg (by with_unfolding_all rfl)


/-! ### t < u, t + u -/
end
end L2

namespace L2
open PySem PySem.Spec PyProof.Rows

/-! ### places -/
/-- the place that an index of any sign means -/
def ixN (n : Nat) (i : Int) : Option Nat := if 0 ≤ i then (if i < n then some i.toNat else none) else if -(n : Int) ≤ i then some (i + n).toNat else none
def atI {α : Type} (xs : List α) (i : Int) : Option α := (ixN xs.length i).bind fun j => xs[j]?
theorem ixN_seq {n : Nat} {i : Int} {j : Nat} (h : ixN n i = some j) : seqIndex? i n = some j ∧ j < n ∧ -(n : Int) ≤ i ∧ i < n := by
  unfold ixN at h
  by_cases h0 : 0 ≤ i
  · rw [if_pos h0] at h
    by_cases h1 : i < n
    · rw [if_pos h1] at h
      have e : i.toNat = j := Option.some.inj h
      exact ⟨by rw [seqIndex_of h0 h1, e], by omega, by omega, h1⟩
    · rw [if_neg h1] at h; cases h
  · rw [if_neg h0] at h
    by_cases h1 : -(n : Int) ≤ i
    · rw [if_pos h1] at h
      have e : (i + n).toNat = j := Option.some.inj h
      exact ⟨by rw [seqIndex_neg (by omega) h1, e], by omega, h1, by omega⟩
    · rw [if_neg h1] at h; cases h
theorem atI_get {α : Type} {xs : List α} {i : Int} {v : α} (h : atI xs i = some v) : ∃ j, seqIndex? i xs.length = some j ∧ xs[j]? = some v ∧ j < xs.length ∧ -(xs.length : Int) ≤ i ∧ i < xs.length := by
  unfold atI at h
  cases e : ixN xs.length i with
  | none => rw [e] at h; cases h
  | some j =>
    rw [e] at h
    obtain ⟨h1, h2, h3, h4⟩ := ixN_seq e
    exact ⟨j, h1, h, h2, h3, h4⟩
theorem atI_nat {α : Type} {xs : List α} {j : Nat} {v : α} (h : xs[j]? = some v) : atI xs (j : Int) = some v := by
  have hj : j < xs.length := (List.getElem?_eq_some_iff.mp h).1
  have e : ixN xs.length (j : Int) = some j := by
    unfold ixN
    rw [if_pos (by omega), if_pos (by omega)]; simp
  unfold atI; rw [e]; exact h

/-! ### what may be subscripted -/
/-- what stands as an index of a plain subscript -/
def PlainIx (b : Expr) : Prop := ∀ o i, subscripted b false o i = operate [o, i] (getItem o i)
/-- a subscript by values -/
def IxR (X : Cx) (r : R2) : Prop :=
  ∀ (value slice : Expr) (pins : List (Addr × Obj)) (s : Shared) (σ : St) (H : Hp) (x y : V) (v u : Value) (Q : VK), Inv X pins σ H s → RelV x v → RelV y u → r x y H Q →
    subscripted slice false v u = operate [v, u] (getItem v u) → wpAny (model X.prog X.w) X.A (subscriptTail value slice v u) (EP X pins σ Q) X.xe s
/-- a call of a builtin's method by values: the receiver, the arguments -/
def MtR (X : Cx) (id : String) (r : V → List V → Hp → VK → Prop) : Prop :=
  ∀ (pins : List (Addr × Obj)) (s : Shared) (σ : St) (H : Hp) (x : V) (xs : List V) (v : Value) (us : List Value) (Q : VK), Inv X pins σ H s → RelV x v → Vals xs us → r x xs H Q →
    wpAny (model X.prog X.w) X.A (call (.builtin id) (v :: us)) (EP X pins σ Q) X.xe s
section
variable {X : Cx} {a b : Expr} {ta tb : TE} {pos : Pos}
theorem IxR.or {r r' : R2} (h : IxR X r) (h' : IxR X r') : IxR X (fun x y H Q => r x y H Q ∨ r' x y H Q) := by
  intro value slice pins s σ H x y v u Q I rx ry q hs
  rcases q with q | q
  · exact h value slice pins s σ H x y v u Q I rx ry q hs
  · exact h' value slice pins s σ H x y v u Q I rx ry q hs
/-- a[b] -/
theorem pe_ix {r : R2} (hr : IxR X r) (ha : PE X a ta) (hb : PE X b tb) (hs : PlainIx b := by exact fun _ _ => rfl) : PE X (.Subscript a b pos) (tOp r ta tb) := by
  intro pins s σ H Q I h
  exact Subscript_ (binT ha hb I h fun v u s2 x y H2 I2 rx ry q => hr a b pins s2 σ H2 x y v u Q I2 rx ry q (hs _ _))

def rIxL (K : PySem.W.Frag) : R2 := fun x y H Q => ∃ p xs i v, x = .ref p ∧ y = .int i ∧ SqL K H p xs ∧ atI xs i = some v ∧ Q v H
def rIxT (K : PySem.W.Frag) : R2 := fun x y H Q => ∃ p xs i v, x = .ref p ∧ y = .int i ∧ SqT K H p xs ∧ atI xs i = some v ∧ Q v H
def rIxS : R2 := fun x y H Q => ∃ z i c, x = .str z ∧ y = .int i ∧ z.length ≤ sizeLine ∧ atI z.cps.toList i = some c ∧ Q (.str ⟨#[c]⟩) H
theorem ix_list : IxR X (rIxL X.K) := by
  intro value slice pins s σ H x y v u Q I rx ry h hs
  obtain ⟨p, xs, i, z, rfl, rfl, hq, he, q⟩ := h
  cases rx
  obtain ⟨t, rfl⟩ := ry
  obtain ⟨its, r, pl, hz⟩ := I.list hq
  obtain ⟨j, h1, h2, h3, h4, h5⟩ := atI_get he
  obtain ⟨w, ew, rw'⟩ := r.get h2
  have hl := r.length
  have hn := line63
  have fin : EP X pins σ Q w s := ⟨z, H, I, rw', q⟩
  by_cases h0 : 0 ≤ i
  · have hj : i.toNat = j := by
      rw [seqIndex_of h0 h5] at h1
      exact Option.some.inj h1
    exact item_listR pl.isList h0 (by omega) (by rw [hj]; simpa using ew) fin hs
  · have hj : (i + (its.toArray.size : Int)).toNat = j := by
      rw [seqIndex_neg (by omega) h4] at h1
      rw [List.size_toArray, ← hl]
      exact Option.some.inj h1
    exact subscriptTail_builtinR (x := w) pl.isList.typeIs slot_list_getitem.lookup
      (wpAny_getItem_list_neg (Q := fun r s' => r = w ∧ EP X pins σ Q r s') pl.isList (by omega) (by rw [List.size_toArray] <;> omega) (by omega) (by rw [hj]; simpa using ew) ⟨rfl, fin⟩) hs
theorem ix_tup : IxR X (rIxT X.K) := by
  intro value slice pins s σ H x y v u Q I rx ry h hs
  obtain ⟨p, xs, i, z, rfl, rfl, hq, he, q⟩ := h
  cases rx
  obtain ⟨t, rfl⟩ := ry
  obtain ⟨its, r, pl, hz⟩ := I.tuple hq
  obtain ⟨j, h1, h2, h3, h4, h5⟩ := atI_get he
  obtain ⟨w, ew, rw'⟩ := r.get h2
  have hl := r.length
  have hn := line63
  have fin : EP X pins σ Q w s := ⟨z, H, I, rw', q⟩
  exact subscriptTail_builtinR (x := w) pl.typeIs slot_tuple_getitem.lookup
    (getItem_tuple (j := j) (Q := fun r s' => r = w ∧ EP X pins σ Q r s') pl (by omega) (by omega) (by rw [List.size_toArray, ← hl]; exact h1) (by simpa using ew) ⟨rfl, fin⟩) hs
theorem ix_str : IxR X rIxS := by
  intro value slice pins s σ H x y v u Q I rx ry h hs
  obtain ⟨z, i, c, rfl, rfl, hz, he, q⟩ := h
  obtain ⟨t, rfl⟩ := rx
  obtain ⟨t', rfl⟩ := ry
  obtain ⟨j, h1, h2, h3, h4, h5⟩ := atI_get he
  have hl : z.cps.toList.length = z.length := by simp [Str.length]
  rw [hl] at h1 h4 h5
  have hn := line63
  exact tail_any (typeIs_str s z t) slot_str_getitem.lookup (getItem_str (c := c) (by
    have e1 : decide (i < -(2 ^ 63 : Int)) = false := decide_eq_false (by omega)
    have e2 : decide (i ≥ 2 ^ 63) = false := decide_eq_false (by omega)
    rw [e1, e2, Bool.or_false]) (by rw [h1]; simpa using h2) ⟨.str ⟨#[c]⟩, H, I.tok _, ⟨_, rfl⟩, q⟩) hs
/-- list, tuple or str -/
def rIx (K : PySem.W.Frag) : R2 := fun x y H Q => rIxL K x y H Q ∨ rIxT K x y H Q ∨ rIxS x y H Q
theorem ix_seq : IxR X (rIx X.K) := ix_list.or (ix_tup.or ix_str)

/-! ### xs[i] = v, any sign -/

/-! ### slices -/

/-! ### in, not in: flat items -/
def flatV : V → Bool
  | .non => true
  | .bl _ => true
  | .int _ => true
  | .str _ => true
  | _ => false
/-- == of flat values -/
def eqV : V → V → Bool
  | .non, .non => true
  | .bl a, .bl b => a == b
  | .bl a, .int b => (if a then 1 else 0) == b
  | .int a, .bl b => a == (if b then 1 else 0)
  | .int a, .int b => a == b
  | .str a, .str b => a == b
  | _, _ => false
theorem eqAt_V {A : Around} {s : Shared} {y x : V} {u v : Value} (ry : RelV y u) (rx : RelV x v) (fy : flatV y = true) (fx : flatV x = true) : SeqAt.EqAt A s u v (eqV y x) := by
  cases y with
  | non =>
    cases ry
    cases x with
    | non => cases rx; exact SeqAt.EqAt.same _
    | bl b => cases rx; exact SeqAt.EqAt.none_bool b
    | int b => obtain ⟨t, rfl⟩ := rx; exact SeqAt.EqAt.none_int b t
    | str b => obtain ⟨t, rfl⟩ := rx; exact SeqAt.EqAt.none_str b t
    | _ => exact absurd (show false = true from fx) Bool.false_ne_true
  | bl a =>
    cases ry
    cases x with
    | non => cases rx; exact SeqAt.EqAt.bool_none a
    | bl b => cases rx; exact SeqAt.EqAt.bool_bool a b
    | int b => obtain ⟨t, rfl⟩ := rx; exact SeqAt.EqAt.bool_int a b t
    | str b => obtain ⟨t, rfl⟩ := rx; exact SeqAt.EqAt.bool_str a b t
    | _ => exact absurd (show false = true from fx) Bool.false_ne_true
  | int a =>
    obtain ⟨t', rfl⟩ := ry
    cases x with
    | non => cases rx; exact SeqAt.EqAt.int_none a t'
    | bl b => cases rx; exact SeqAt.EqAt.int_bool a t' b
    | int b => obtain ⟨t, rfl⟩ := rx; exact SeqAt.EqAt.int_int a t' b t
    | str b => obtain ⟨t, rfl⟩ := rx; exact SeqAt.EqAt.int_str a t' b t
    | _ => exact absurd (show false = true from fx) Bool.false_ne_true
  | str a =>
    obtain ⟨t', rfl⟩ := ry
    cases x with
    | non => cases rx; exact SeqAt.EqAt.str_none a t'
    | bl b => cases rx; exact SeqAt.EqAt.str_bool a t' b
    | int b => obtain ⟨t, rfl⟩ := rx; exact SeqAt.EqAt.str_int a t' b t
    | str b => obtain ⟨t, rfl⟩ := rx; exact SeqAt.EqAt.str_str a t' b t
    | _ => exact absurd (show false = true from fx) Bool.false_ne_true
  | _ => exact absurd (show false = true from fy) Bool.false_ne_true
/-- the items' answers, read off the values (a value's own answer does not lean on its token) -/
def eqU (x : V) (u : Value) : Bool := match u with
  | .none => eqV .non x
  | .bool b => eqV (.bl b) x
  | .int i _ => eqV (.int i) x
  | .str z _ => eqV (.str z) x
  | _ => false
theorem eqU_of {x y : V} {u : Value} (r : RelV y u) (f : flatV y = true) : eqU x u = eqV y x := by
  cases y with
  | non => cases r; rfl
  | bl b => cases r; rfl
  | int i => obtain ⟨t, rfl⟩ := r; rfl
  | str z => obtain ⟨t, rfl⟩ := r; rfl
  | _ => exact absurd (show false = true from f) Bool.false_ne_true
theorem any_eqU {x : V} : ∀ {xs : List V} {us : List Value}, Vals xs us → xs.all flatV = true → us.any (eqU x) = xs.any fun y => eqV y x
  | _, _, .nil, _ => rfl
  | y :: xs, u :: us, .cons r t, f => by
    rw [List.all_cons, Bool.and_eq_true] at f
    rw [List.any_cons, List.any_cons, eqU_of r f.1, any_eqU t f.2]
theorem mem_eqAt {A : Around} {s : Shared} {x : V} {v : Value} (rx : RelV x v) (fx : flatV x = true) : ∀ {xs : List V} {us : List Value}, Vals xs us → xs.all flatV = true → ∀ u ∈ us, SeqAt.EqAt A s u v (eqU x u)
  | _, _, .nil, _ => fun u hu => by cases hu
  | y :: xs, u :: us, .cons r t, f => fun u' hu => by
    rw [List.all_cons, Bool.and_eq_true] at f
    rcases List.mem_cons.mp hu with rfl | hu
    · rw [eqU_of r f.1]; exact eqAt_V r rx f.1 fx
    · exact mem_eqAt rx fx t f.2 u' hu
def inV (x : V) (xs : List V) : Bool := xs.any fun y => eqV y x
/-- x in a list or tuple of flat items -/
def rIn (K : PySem.W.Frag) (neg : Bool) : R2 := fun x y H Q => ∃ p xs, y = .ref p ∧ (SqL K H p xs ∨ SqT K H p xs) ∧ flatV x = true ∧ xs.all flatV = true ∧ Q (.bl (if neg then !inV x xs else inV x xs)) H
theorem op_in_seq : OpR X (compareOp .In) (rIn X.K false) := by
  intro pins s σ H x y v u Q I rx ry h
  obtain ⟨p, xs, rfl, hq, fx, fs, q⟩ := h
  cases ry
  rcases hq with hq | hq
  · obtain ⟨its, r, pl, hz⟩ := I.list hq
    refine SeqAt.in_listAt (eqU x) pl.isList (fun w hw => mem_eqAt rx fx r fs w (by simpa using hw)) ⟨.bl _, H, I, rfl, ?_⟩
    rw [show its.toArray.any (eqU x) = its.any (eqU x) by simp, any_eqU r fs]
    exact q
  · obtain ⟨its, r, pl, hz⟩ := I.tuple hq
    refine SeqAt.in_tupleAt (eqU x) pl (fun w hw => mem_eqAt rx fx r fs w (by simpa using hw)) ⟨.bl _, H, I, rfl, ?_⟩
    rw [show its.toArray.any (eqU x) = its.any (eqU x) by simp, any_eqU r fs]
    exact q

/-! ### len, list(x), tuple(x) of any list or tuple that is read -/

/-! ### the call of a builtin's method: o.m(..) -/
/-- the value is of that builtin type -/
def tyV (K : PySem.W.Frag) (T : String) (x : V) (H : Hp) : Prop := match x with
  | .str _ => T = "str"
  | .int _ => T = "int"
  | .ref p => (T = "list" ∧ ∃ xs, SqL K H p xs) ∨ (T = "tuple" ∧ ∃ o, K.lookup p = some o ∧ o.cls = .type "tuple" ∧ o.dict = none) ∨
      (T = "dict" ∧ ((∃ kvs, H p = some (.dK kvs)) ∨ ∃ kvs, H p = some (.dT kvs))) ∨ (T = "set" ∧ ∃ S n, H p = some (.set S n))
  | _ => False
theorem tyV_is {pins : List (Addr × Obj)} {σ : St} {H : Hp} {s : Shared} {T : String} {x : V} {v : Value} (I : Inv X pins σ H s) (r : RelV x v) (ty : tyV X.K T x H) :
    s.TypeIs v T ∧ ∀ a, v = .ref a → ∃ ob, s.heap.get? a = some ob ∧ ob.dict = none := by
  cases x with
  | str z =>
    obtain ⟨t, rfl⟩ := r
    cases (show T = "str" from ty)
    exact ⟨typeIs_str s z t, fun _ e => nomatch e⟩
  | int i =>
    obtain ⟨t, rfl⟩ := r
    cases (show T = "int" from ty)
    exact ⟨typeIs_int s i t, fun _ e => nomatch e⟩
  | ref p =>
    cases r
    rcases ty with ⟨rfl, xs, hq⟩ | ⟨rfl, o, hk, hc, hd⟩ | ⟨rfl, hk⟩ | ⟨rfl, S, n, hk⟩
    · obtain ⟨its, _, pl, _⟩ := I.list hq
      refine ⟨pl.isList.typeIs, fun a e => ?_⟩
      cases e
      obtain ⟨o, n, e, c, hd, _⟩ := pl
      exact ⟨o, e, hd⟩
    · refine ⟨⟨o, I.kIn p o hk, hc⟩, fun a e => ?_⟩
      cases e
      exact ⟨o, I.kIn _ o hk, hd⟩
    · have z : ∃ o, s.heap.get? p = some o ∧ o.ExactDict := by
        rcases hk with ⟨kvs, hk⟩ | ⟨kvs, hk⟩
        · obtain ⟨_, _, _, _, o, _, _, e, ex, _⟩ := I.hok p _ hk
          exact ⟨o, e, ex⟩
        · obtain ⟨_, _, _, _, o, _, _, e, ex, _⟩ := I.hok p _ hk
          exact ⟨o, e, ex⟩
      obtain ⟨o, e, ex⟩ := z
      refine ⟨⟨o, e, ex.1⟩, fun a e2 => ?_⟩
      cases e2
      exact ⟨o, e, ex.2.1⟩
    · obtain ⟨o, _, _, _, e, ex, _⟩ := I.hok p _ hk
      refine ⟨⟨o, e, ex.1⟩, fun a e2 => ?_⟩
      cases e2
      exact ⟨o, e, ex.2.1⟩
  | _ => exact False.elim ty
def tBM0 (K : PySem.W.Frag) (T : String) (r : V → List V → Hp → VK → Prop) (to : TE) : TE := fun σ H Q => to σ H fun x H1 => tyV K T x H1 ∧ r x [] H1 Q
def tBM (K : PySem.W.Frag) (T : String) (r : V → List V → Hp → VK → Prop) (to : TE) (t : TA) : TE := fun σ H Q => to σ H fun x H1 => tyV K T x H1 ∧ t σ H1 fun xs H2 => r x xs H2 Q
variable {o e : Expr} {es : List Expr} {to : TE} {t : TA} {name : Str} {apos cpos : Pos} {T id : String} {r : V → List V → Hp → VK → Prop}
theorem pe_bm0 (pa : PlainAttrs T) (slot : Slot T name id) (hty : typeOf (.builtin id) = pure (.type "method_descriptor")) (hm : MtR X id r) (ho : PE X o to)
    (hbase : attributeBase o name X.env (eval o X.env) = eval o X.env := by rfl) (hline : (apos.endLine == cpos.line) = true := by rfl) : PE X (.Call (.Attribute o name apos) [] [] cpos) (tBM0 X.K T r to) := by
  intro pins s σ H Q I h
  refine wpAny_Call_method0_late hbase hline (thn (ho pins s σ H _ I h) fun v s1 ⟨x, H1, I1, r1, ty, q1⟩ => ?_)
  obtain ⟨h1, h2⟩ := tyV_is I1 r1 ty
  exact ⟨T, id, pa, slot, hty, h1, h2, Calls.callWith_builtin rfl (PySem.evalArgs_none (hm pins s1 σ H1 x [] v [] Q I1 r1 .nil q1))⟩
theorem pe_bm (pa : PlainAttrs T) (slot : Slot T name id) (hty : typeOf (.builtin id) = pure (.type "method_descriptor")) (hm : MtR X id r) (ho : PE X o to) (ha : PA X (e :: es) t)
    (hbase : attributeBase o name X.env (eval o X.env) = eval o X.env := by rfl)
    (hfew : ((backTo cpos (starEach (e :: es) X.env)).all (fun x => !x.1) && (backToKw cpos (keywordEach [] X.env)).all (fun x => x.1.isSome)
      && decide ((e :: es).length + ([] : List Keyword).length + (if ([] : List Keyword).isEmpty then 0 else 1) < 30)) = true := by rfl)
    (hline : (apos.endLine == cpos.line) = true := by rfl) (hs : starEach (e :: es) X.env = (false, eval e X.env) :: starEach es X.env := by rfl) (hplain : (backTo cpos (starEach es X.env)).any (·.1) = false := by rfl) :
    PE X (.Call (.Attribute o name apos) (e :: es) [] cpos) (tBM X.K T r to t) := by
  intro pins s σ H Q I h
  refine wpAny_Call_method_late hbase hfew hline rfl (thn (ho pins s σ H _ I h) fun v s1 ⟨x, H1, I1, r1, ty, q1⟩ => ?_)
  obtain ⟨h1, h2⟩ := tyV_is I1 r1 ty
  refine ⟨T, id, pa, slot, hty, h1, h2, ?_⟩
  have hA := ha cpos pins s1 σ H1 _ I1 q1
  rw [hs] at hA ⊢
  refine Calls.callWith_builtin (by show (false || (backTo cpos (starEach es X.env)).any (·.1)) = false; rw [hplain] <;> rfl) (Calls.evalArgs_plain ?_)
  exact thn hA fun us s2 ⟨vs, H2, I2, r2, q2⟩ => hm pins s2 σ H2 x vs v us Q I2 r1 r2 q2
/- xs.append(e), list.index on a module's tuple .. are MtR facts of 06m -/
end
end L2

namespace L2
open PySem PySem.Spec PyProof.Rows

def MtM (X : Cx) (id : String) (r : V → List V → Hp → VK → Prop) : Prop :=
  ∀ (pins : List (Addr × Obj)) (s : Shared) (σ : St) (H : Hp) (x : V) (xs : List V) (v : Value) (us : List Value) (Q : VK), Inv X pins σ H s → RelV x v → Vals xs us → r x xs H Q →
    wpAny (model X.prog X.w) X.A (call (.builtin id) (v :: us)) (EP X pins σ Q) X.xe s

/-! ### lists of values -/
theorem Vals.one : ∀ {x : V} {us : List Value}, Vals [x] us → ∃ u, us = [u] ∧ RelV x u
  | _, _, .cons r .nil => ⟨_, rfl, r⟩
theorem Vals.zero : ∀ {us : List Value}, Vals [] us → us = []
  | _, .nil => rfl

section
variable {X : Cx} {pins : List (Addr × Obj)} {σ : St} {H : Hp} {s : Shared} {l b : Addr} {xs ys zs : List V}

/-! ### the two steps: a tracked list is rewritten, a new list is laid -/
theorem Inv.lset {its its' : List Value} {n : Nat} {f : Array Value → Array Value} {t' : Nat} (I : Inv X pins σ H s) (hH : H l = some (.lst xs))
    (e : s.heap.get? l = some { cls := .type "list", data := .seq its.toArray n }) (hf : f its.toArray = its'.toArray) (hv : Vals ys its') (hz : ys.length ≤ sizeLine) :
    Inv X pins σ (upd H l (.lst ys)) { s with heap := s.heap.update l (Obj.mapSeq f), toks := t' } := by
  have q := PySem.IsL.update e f
  rw [hf] at q
  refine I.write (x := l) (e := l) (by rw [hH]; exact trivial) (.inl rfl) (fun b' u hb hu => (Heap.get?_update_other s.heap (Obj.mapSeq f) (Ne.symm hb)).trans hu) ⟨_, q⟩ ?_
  exact ⟨hz, its', _, hv, q⟩
theorem Inv.lnew {its : List Value} {t' : Nat} (I : Inv X pins σ H s) (hv : Vals ys its) (hz : ys.length ≤ sizeLine) :
    Inv X pins σ (upd H s.heap.objs.size (.lst ys)) { s with heap := s.heap.push { cls := .type "list", data := .seq its.toArray }, toks := t' } :=
  I.laid (fun _ _ q => Heap.get?_push_of_some _ q) (Nat.le_refl _) ⟨hz, its, 0, hv, Heap.get?_push_size _ rfl⟩
theorem Inv.fresh (I : Inv X pins σ H s) : H s.heap.objs.size = none := I.hok.fresh (Nat.le_refl _)
theorem Inv.lstM (I : Inv X pins σ H s) (hH : H l = some (.lst xs)) : xs.length ≤ sizeLine ∧ ∃ (its : List Value) (n : Nat), Vals xs its ∧ xs.length = its.length ∧ s.heap.get? l = some { cls := .type "list", data := .seq its.toArray n } := by
  obtain ⟨z, its, n, r, e⟩ := I.hok l _ hH
  exact ⟨z, its, n, r, r.length, e⟩

theorem notLongL {n : Nat} (h : n ≤ sizeLine) : Builtin.List.listTooLong n = false := by
  unfold Builtin.List.listTooLong
  exact decide_eq_false (by omega)
end

section
variable {X : Cx}

/-! ### methods -/
def rAppend : V → List V → Hp → VK → Prop := fun x vs H Q => ∃ l xs y, x = .ref l ∧ vs = [y] ∧ H l = some (.lst xs) ∧ xs.length < sizeLine ∧ Q .non (upd H l (.lst (xs ++ [y])))
theorem mt_append : MtM X "list.append" rAppend := by
  intro pins s σ H x vs v us Q I rx rv h
  obtain ⟨l, xs, y, rfl, rfl, hH, hz, q⟩ := h
  cases rx
  obtain ⟨u, rfl, ru⟩ := rv.one
  obtain ⟨z, its, n, r, hl, e⟩ := I.lstM hH
  refine call_meets F.slot_list_append ⟨_, e, rfl⟩ F.entry_list_append (F.args_list_append_2 _ _) (PySem.list_append l its.toArray n u (by rw [List.size_toArray]; omega)) ⟨e, ?_⟩
  refine ⟨.non, _, I.lset (its' := its ++ [u]) hH e (by simp) (r.append (.cons ru .nil)) ?_, rfl, q⟩
  rw [List.length_append, List.length_singleton]
  omega

def rExtend : V → List V → Hp → VK → Prop := fun x vs H Q => ∃ l b xs zs, x = .ref l ∧ vs = [.ref b] ∧ H l = some (.lst xs) ∧ H b = some (.lst zs) ∧ xs.length + zs.length ≤ sizeLine ∧ Q .non (upd H l (.lst (xs ++ zs)))
theorem mt_extend : MtM X "list.extend" rExtend := by
  intro pins s σ H x vs v us Q I rx rv h
  obtain ⟨l, b, xs, zs, rfl, rfl, hH, hB, hz, q⟩ := h
  cases rx
  obtain ⟨u, rfl, ru⟩ := rv.one
  cases ru
  obtain ⟨z, its, n, r, hl, e⟩ := I.lstM hH
  obtain ⟨z2, its2, n2, r2, hl2, e2⟩ := I.lstM hB
  have hsz : its.toArray.size + its2.toArray.size ≤ sizeLine := by rw [List.size_toArray, List.size_toArray]; omega
  have hlong : ¬ (!its.toArray.isEmpty && Builtin.List.listTooLong (its.toArray.size + its2.toArray.size)) = true := by
    rw [notLongL hsz, Bool.and_false]
    exact Bool.false_ne_true
  refine call_meets F.slot_list_extend ⟨_, e, rfl⟩ F.entry_list_extend (F.args_list_extend_2 _ _)
    (AutoSeq1.list_extend_list_list_0 l its.toArray n b its2.toArray n2 hlong (by rw [List.size_toArray]; omega) (by omega)) ⟨e, e2, ?_⟩
  refine ⟨.non, _, I.lset (its' := its ++ its2) hH e (by simp) (r.append r2) ?_, rfl, q⟩
  rw [List.length_append]
  omega




def rClear : V → List V → Hp → VK → Prop := fun x vs H Q => ∃ l xs, x = .ref l ∧ vs = [] ∧ H l = some (.lst xs) ∧ Q .non (upd H l (.lst []))
theorem mt_clear : MtM X "list.clear" rClear := by
  intro pins s σ H x vs v us Q I rx rv h
  obtain ⟨l, xs, rfl, rfl, hH, q⟩ := h
  cases rx
  have hus := rv.zero
  subst hus
  obtain ⟨z, its, n, r, hl, e⟩ := I.lstM hH
  refine call_meets F.slot_list_clear ⟨_, e, rfl⟩ F.entry_list_clear (F.args_list_clear_1 _) (AutoSeq1.list_clear_list_0 l its.toArray n (by rw [List.size_toArray]; omega)) ⟨e, ?_⟩
  exact ⟨.non, _, I.lset (its' := []) (ys := []) hH e rfl .nil (Nat.zero_le _), rfl, q⟩

/-! ### list + list, list += list, list * int -/
def rCat : R2 := fun x y H Q => ∃ l b xs zs, x = .ref l ∧ y = .ref b ∧ H l = some (.lst xs) ∧ H b = some (.lst zs) ∧ xs.length + zs.length ≤ sizeLine ∧ ∀ p, H p = none → Q (.ref p) (upd H p (.lst (xs ++ zs)))
theorem op_cat : OpR X (binaryOp .Add) rCat := by
  intro pins s σ H x y v u Q I rx ry h
  obtain ⟨l, b, xs, zs, rfl, rfl, hH, hB, hz, q⟩ := h
  cases rx
  cases ry
  obtain ⟨z, its, n, r, hl, e⟩ := I.lstM hH
  obtain ⟨z2, its2, n2, r2, hl2, e2⟩ := I.lstM hB
  refine PySem.P.add_list e e2 ?_ (by rw [List.size_toArray, List.size_toArray]; omega)
  have ea : its.toArray ++ its2.toArray = (its ++ its2).toArray := by simp
  rw [ea]
  exact ⟨.ref _, _, I.lnew (t' := s.toks) (r.append r2) (by rw [List.length_append]; omega), rfl, q _ I.fresh⟩

/-! ### del xs[i] -/
end

/-! ### xs[a:b] = ys -/
section
variable {prog : Program} {w : World} {A : Around} {E : Value → Shared → Prop} {s : Shared}
end

section
variable {X : Cx}
end
end L2

namespace L2
open PySem PySem.Spec PyProof.Rows

/-! ### lists of pairs as tables -/
section
variable {κ : Type} [DecidableEq κ]



end


/-! ### a tracked dict, its keys ints and texts or tuples of these -/


section
variable {P : Program} {w : World} {H : Hp} {h : Heap} {a : Addr}
end



section
variable {X : Cx} {pins : List (Addr × Obj)} {σ : St} {H : Hp} {s : Shared} {a : Addr} {y v : V} {u r : Value} {o : Option V} {A : Around} {E : Value → Shared → Prop}


end

section
variable {X : Cx} {pins : List (Addr × Obj)} {σ : St} {H : Hp} {s : Shared} {a : Addr} {kvs : List (Key × V)} {k : Key} {u : Value} {A : Around} {E : Value → Shared → Prop}
end


/-! ### readings and rules -/



section
variable {X : Cx} {o i e value : Expr} {pos pos' tpos : Pos} {td ty tv : TE}
end


/-! ### displays -/
section
variable {X : Cx} {pos : Pos}
end




/-! ### methods -/


section
variable {X : Cx} {pins : List (Addr × Obj)} {σ : St} {H : Hp} {s : Shared} {a : Addr} {y d : V} {u r : Value} {o : Option V} {A : Around} {E : Value → Shared → Prop}
end

section
variable {X : Cx} {o e f : Expr} {apos cpos : Pos} {td ty tx : TE}
end

/-! ### dict(d): a copy -/
section
variable {X : Cx} {pins : List (Addr × Obj)} {σ : St} {H : Hp} {s : Shared} {a : Addr} {kvs : List (Key × V)} {A : Around} {E : Value → Shared → Prop}
end


section
variable {X : Cx} {pins : List (Addr × Obj)} {σ : St} {H : Hp} {s : Shared} {a : Addr} {y : V} {u : Value} {A : Around} {E : Value → Shared → Prop}
end
end L2

namespace Att
open PySem PySem.W PySem.Calls PyProof.Rows

/-! ### the script -/
theorem ints_of_wellAll {P : Params} {h : Heap} : ∀ (ns : List Int) (vs : List Value), WellAll P h vs (ns.map WData.int) → IntsAre vs ns := by
  intro ns
  induction ns with
  | nil =>
    intro vs w
    rw [List.map_nil] at w
    cases w
    exact .nil
  | cons n ns ih =>
    intro vs w
    rw [List.map_cons] at w
    cases w with
    | cons a b =>
      cases a
      exact .cons _ _ (ih _ b)

theorem script_of {l : OpenLaw} {n : Nat} (hn : l.most = some n) {P : Params} {h : Heap} {args : List WData} {vals : List Value}
    (hpre : l.row.toRowW.claim.pre args = true) (hwl : WellAll P h vals args) :
    ∃ a vs ns, vals = [Value.ref a] ∧ args = [WData.list (ns.map WData.int)] ∧ h.get? a = some { cls := .type "list", data := .seq vs.toArray } ∧ IntsAre vs ns ∧ ns.length ≤ n := by
  have hsh : WShape.hasAll [] args [.list .int] = true := (pre_splitW hpre).1
  have hc : l.pre.holds [] { args := args } = true := (pre_splitW hpre).2
  obtain ⟨d, r, rfl, h1, h2⟩ := hasAllW_cons hsh
  obtain rfl := hasAllW_nil h2
  obtain ⟨xs, rfl, h3⟩ := hasW_list h1
  obtain ⟨ns, rfl⟩ := items_int h3
  have hlen : ns.length ≤ n := by
    unfold OpenLaw.pre at hc
    have h4 : (WTm.not (.lt (.lit (.int (n : Int))) (.len (.arg 0)))).holds [] { args := [.list (ns.map .int)] } = true := by
      have h4 := (holds_andW hc).1
      rw [hn] at h4
      exact h4
    have h5 := condW_of h4 (w_not (w_lt w_lit (w_len_list (w_arg rfl))))
    rw [List.length_map] at h5
    refine Nat.le_of_not_lt fun q => ?_
    have q' : (n : Int) < ((ns.length : Nat) : Int) := by omega
    first
      | (rw [decide_eq_true q'] at h5; exact absurd h5 (by decide))
      | (simp at h5; omega)
  cases hwl with
  | cons w1 w2 =>
    cases w2
    cases w1 with
    | list ho hall => exact ⟨_, _, ns, rfl, rfl, ho, ints_of_wellAll ns _ hall, hlen⟩

theorem post_true (l : OpenLaw) (args : List WData) : l.row.toRowW.claim.post args (.bool true) args = true :=
  postW_of (r := l.row.toRowW) (X := (true == true))
    (show WShape.has [] (.bool true) .bool = true by first | rfl | decide | simp [WShape.has, WShape.arms, WShape.armsAll])
    (show (WTm.eq .res (.lit (.bool true))).value [] { args := args, res := some (.bool true), after := args } = some (.bool (true == true)) from w_eq_bool (w_res rfl) w_lit) rfl

/-! ### the attachment: holds_open's last premise (the goal 'hc' behind k_head) from a wpAny of the law's body -/

/-- the same from a codeAny of the CALL (for a layer whose function contracts speak of calls) -/
theorem attach_call {l : OpenLaw} {n : Nat} {q : Program} {loose : List Str} {XP : (Str → Option Value) → Heap → Prop} {YP : World → Heap → Prop} {d : DefRec}
    (hn : l.most = some n) (hdf : d.params.defaults = [])
    (call : ∀ (w : World) (s₀ s₁ : Shared) (mg mb : Str → Option Value) (fa : Addr) (o : Obj) (pm cd doc : Value) (a : Addr) (vs : List Value) (ns : List Int),
      Ground q loose [] XP w s₀ mg mb s₁.heap → YP w s₁.heap →
      s₁.heap.get? fa = some o → o.data = .func (docDef d.name d.params d.body d.scope pm cd doc) → s₁.heap.CodeRec cd d.name → mg d.name = some (.ref fa) →
      s₁.heap.get? a = some { cls := .type "list", data := .seq vs.toArray } → IntsAre vs ns → ns.length ≤ n → s₁.gens = #[] →
      codeAny (model l.prog w) callerA (.call (.ref fa) ⟨[.ref a], []⟩) (fun r s' => r = .ok (.ret (.bool true)) ∧ OldK s₁.heap s'.heap ∧ s'.os = s₁.os ∧ AllBare s'.gens) s₁) :
    WalkO q loose XP YP l.row.toRowW d [] (fun f vs => PySem.call f vs) := by
  intro w s₀ s₁ mg mb G Y fa o pm cd doc dV kV ho hd hcd hD hmg hg args vals as hpre hlay hrd hwl hlo
  obtain rfl : dV = .none := Dflts.none hD hdf
  obtain rfl : kV = .none := Dflts.noKw hD
  obtain ⟨a, vs, ns, rfl, rfl, hobj, hints, hlen⟩ := script_of hn hpre hwl
  refine enter_call (codeAny_mono (call w s₀ s₁ mg mb fa o pm cd doc a vs ns G Y ho (fd_plain hd) hcd hmg hobj hints hlen hg) fun r s' hq => ?_)
  obtain ⟨rfl, h2, h3, h4⟩ := hq
  exact ⟨.inl ⟨.bool true, .bool true, [], rfl, fun _ => rfl, .bool true, post_true l _, fun _ => ⟨List.Pairwise.nil, fun _ hm => (nomatch hm)⟩⟩, h2, h3, h4⟩


/-! ### rules over ANY heap (no ledger) from facts about the written part K: the library's own take a ledger (News) for what they write -/
section
variable {prog : Program} {w : World} {A : Around} {E : Value → Shared → Prop} {s : Shared} {K : Frag}





/-! the whole heap as the ledger: makes every rule that writes through a ledger a rule over any heap -/

end
end Att

namespace L2
open PySem PySem.Spec PyProof.Rows

theorem vals_ints : ∀ {vs : List Value} {ns : List Int}, IntsAre vs ns → Vals (ns.map V.int) vs
  | _, _, .nil => .nil
  | _, _, .cons n t h => .cons ⟨t, rfl⟩ (vals_ints h)

/-- nothing is tracked but the script, known to the object (or it is an object of the module) -/
def Only (H : Hp) : Prop := ∀ b, H b = none ∨ ∃ o xs, H b = some (.frz o (.lst xs))

/-- THE HEAD: the law's promise, at the heap behind the top. F, the promise of the law's def, may use that base is part of the heap (so K.In base, base.Ns mainGlobals mg stand in Mod) -/
theorem law_call {P : Program} {w : World} {K : PySem.W.Frag} {mg mb : Str → Option Value} {CX : CXT} {k : Nat} {fa a : Addr} {fd : FuncData} {x : Str} {sp : Sp} {s₁ : Shared} {vs : List Value} {ns : List Int}
    (KX : K.In s₁.heap) (hns : s₁.heap.Ns mainGlobals mg) (hb : s₁.heap.Ns builtinsNs mb) (hbb : ∀ x : Str, x ≠ "__name__" → mb x = bootBuiltins x) (hlim : s₁.heap.NoLimit) (hg : s₁.gens = #[])
    (ha : s₁.heap.get? a = some { cls := .type "list", data := .seq vs.toArray }) (hi : IntsAre vs ns) (hl : ns.length ≤ sizeLine) (hr : Room k callerA)
    (F : ∀ base : Heap, K.In base → base.Ns mainGlobals mg → FnOk P w K mg base CX k fa fd [x] sp) (hbind : ∀ (s : Shared) (u : Value), BindsTo s fd ⟨[u], []⟩ [(x, u)])
    (hsp : ∀ H : Hp, Only H → SqL K H a (ns.map V.int) → sp [.ref a] H (fun v _ => v = .bl true) fun _ _ _ => False)
    (hCX : ∀ H e s', CX [] H s₁ (fun _ _ _ => False) e s' → False) :
    codeAny (model P w) callerA (.call (.ref fa) ⟨[.ref a], []⟩) (fun r s' => r = .ok (.ret (.bool true)) ∧ OldK s₁.heap s'.heap ∧ s'.os = s₁.os ∧ AllBare s'.gens) s₁ := by
  have rv := vals_ints hi
  have lenV := hi.length
  -- from an abstract heap in which nothing but the script may be tracked
  have core : ∀ H : Hp, Only H → SqL K H a (ns.map V.int) → HOk P w H s₁.heap → (∀ b, H b ≠ none → b = a) → (H a ≠ none → K.lookup a = none) →
      codeAny (model P w) callerA (.call (.ref fa) ⟨[.ref a], []⟩) (fun r s' => r = .ok (.ret (.bool true)) ∧ OldK s₁.heap s'.heap ∧ s'.os = s₁.os ∧ AllBare s'.gens) s₁ := by
    intro H hO hS hok hA hK
    have base_of : ∀ {b : Addr} {o : Obj}, s₁.heap.get? b = some o → H b = none → (hidT s₁.heap H).get? b = some o := fun e n => hidT_get e n
    have noA : ∀ {b : Addr} {o : Obj} {es : Array DictEntry} {ep : Nat}, s₁.heap.get? b = some o → o.data = .dict es ep → H b = none := fun {b o es ep} e d => by
      cases q : H b with
      | none => rfl
      | some u =>
        have e' : b = a := hA b (by rw [q]; simp)
        subst e'
        rw [ha] at e; cases e
        have d' : Data.seq vs.toArray _ = Data.dict es ep := d
        cases d'
    have nsK : ∀ {b : Addr} {m : Str → Option Value}, s₁.heap.Ns b m → (hidT s₁.heap H).Ns b m := fun {b m} ⟨o, es, ep, e, d, r⟩ => ⟨o, es, ep, base_of e (noA e d), d, r⟩
    have hKb : K.In (hidT s₁.heap H) := fun b o e => base_of (KX b o e) (by
      cases q : H b with
      | none => rfl
      | some u =>
        have e' : b = a := hA b (by rw [q]; simp)
        subst e'
        rw [hK (by rw [q]; simp)] at e; cases e)
    have hM : Mod K mg (hidT s₁.heap H) := ⟨hKb, nsK hns, ⟨mb, nsK hb, hbb⟩, let ⟨mc, h1, h2⟩ := hlim; ⟨mc, nsK h1, h2⟩⟩
    have e0 : Env0 P w K mg (hidT s₁.heap H) callerA [] s₁ H := ⟨rfl, hM, fun b o e => of_hidT e, Nat.le_of_eq (hidT_size _ _), trivial, fun b hb => absurd (show b ∈ ([] : List Addr) from hb) (by simp), hok, .of_eq hg⟩
    refine codeAny_mono ((F _ hKb (nsK hns)).run callerA [] s₁ H ⟨[.ref a], []⟩ [.ref a] [.ref a] _ _ hr e0 (hbind s₁ (.ref a)) (.cons rfl .nil) (hsp H hO hS)) fun r s' h => ?_
    cases r with
    | error e => exact (hCX H e s' h).elim
    | ok fl =>
      cases fl with
      | next => exact False.elim h
      | brk => exact False.elim h
      | cont => exact False.elim h
      | ret u =>
        obtain ⟨v, H', os, bare, un, hok', r', q⟩ := h
        have q' : v = .bl true := q
        subst q'
        obtain rfl : u = Value.bool true := r'
        refine ⟨rfl, OldK.of_keep fun b o e => ?_, os, bare⟩
        cases q : H b with
        | none => exact un.keep b o e q (by intro z; exact absurd (show b ∈ ([] : List Addr) from z) (by simp)) (by simp)
        | some u =>
          rcases hO b with z | ⟨ob, xs, z⟩
          · rw [q] at z; cases z
          · have z2 := un.frzs b ob _ z
            obtain ⟨e1, _⟩ := hok b _ z
            obtain ⟨e2, _⟩ := hok' b _ z2
            rw [e] at e1; cases e1
            exact e2
  cases hk : K.lookup a with
  | some o =>
    -- the script is one of the module's own objects
    have e := KX a o hk
    rw [ha] at e
    cases e
    refine core (fun _ => none) (fun _ => .inl rfl) (.inr ⟨_, vs.toArray, _, hk, rfl, rfl, rfl, by rw [List.size_toArray, lenV]; exact hl, by simpa using rv⟩) (fun b u z => by have z' : (none : Option HO) = some u := z; cases z') (fun b z => absurd rfl z) fun z => absurd rfl z
  | none =>
    refine core (fun b => if b = a then some (.frz { cls := .type "list", data := .seq vs.toArray } (.lst (ns.map V.int))) else none) (fun b => ?_) (.inl (.inr ⟨{ cls := .type "list", data := .seq vs.toArray }, if_pos rfl⟩)) (fun b u z => ?_) (fun b z => ?_) fun _ => hk
    · by_cases hb : b = a
      · exact .inr ⟨_, _, if_pos hb⟩
      · exact .inl (if_neg hb)
    · by_cases hb : b = a
      · have z' := (if_pos hb).symm.trans z
        cases z'
        subst hb
        exact ⟨ha, by rw [List.length_map]; exact hl, vs, _, rv, ha⟩
      · have z' := (if_neg hb).symm.trans z
        cases z'
    · by_cases hb : b = a
      · exact hb
      · exact absurd (if_neg hb) z
end L2

namespace L2
open PySem PySem.Spec PyProof.Rows


/-- the goal that k_head leaves (case hc), from the law's promise. F gives the function object fd (K's own) once, then the promise over every base -/
theorem walk_of {l : PySem.W.OpenLaw} {n k : Nat} {q : Program} {loose : List Str} {XP : (Str → Option Value) → Heap → Prop} {YP : World → Heap → Prop} {d : DefRec} {K : Params → PySem.W.Frag} {CX : World → CXT} {sp : World → Sp} {x : Str}
    (hn : l.most = some n) (hn2 : n ≤ sizeLine) (hdf : d.params.defaults = []) (hr : Room k callerA)
    (hY : ∀ (w : World) (h : Heap), YP w h → (K w.params).In h)
    (F : ∀ (w : World) (mg : Str → Option Value) (fa : Addr) (h : Heap), (K w.params).In h → h.Ns mainGlobals mg → mg d.name = some (.ref fa) →
      ∃ fd : FuncData, (∀ (s : Shared) (u : Value), BindsTo s fd ⟨[u], []⟩ [(x, u)]) ∧
        ∀ base : Heap, (K w.params).In base → base.Ns mainGlobals mg → FnOk l.prog w (K w.params) mg base (CX w) k fa fd [x] (sp w))
    (hsp : ∀ (w : World) (H : Hp) (a : Addr) (ns : List Int), ns.length ≤ n → Only H → SqL (K w.params) H a (ns.map V.int) → sp w [.ref a] H (fun v _ => v = .bl true) fun _ _ _ => False)
    (hCX : ∀ (w : World) (H : Hp) (s : Shared) (e : Value) (s' : Shared), CX w [] H s (fun _ _ _ => False) e s' → False) :
    PySem.W.WalkO q loose XP YP l.row.toRowW d [] (fun f vs => PySem.call f vs) := by
  refine Att.attach_call hn hdf fun w s₀ s₁ mg mb fa o pm cd doc a vs ns G Y ho hd hcd hmg hobj hints hlen hg => ?_
  have KX := hY w _ Y
  obtain ⟨fd, hb, hF⟩ := F w mg fa _ KX G.T.g hmg
  exact law_call KX G.T.g G.T.b G.T.builtins G.T.nolimit hg hobj hints (Nat.le_trans hlen hn2) hr hF hb (fun H hO hS => hsp w H a ns hlen hO hS) fun H e s' => hCX w H s₁ e s'
end L2

/- THE LAST THEOREM (shape; LID, My.* are yours):
   My.Adr: a structure of the addresses that your layer names (classes, functions); My.Txt K t: a structure (Prop) of the equations over K;
   My.txt_mk : {K} {implicit addresses ..} (e1 : nsIn K mainGlobals "law" = some (some (.ref f))) (e2 : K.lookup f = some ⟨oc, od, .func (fnOf "law" "law" params body scope dV kV doc pm an cdv ct), sl⟩) (e3 : codeIn K cdv "law" = true) .. : ∃ t, My.Txt K t

set_option maxRecDepth 100000 in
set_option maxHeartbeats 0 in
theorem PySem.Challenge.cw_LID_holds : PySem.Challenge.rw_LID.Holds := by
  w_on; o_law; k_head; (case hw => w_witness2)
  k_fill
  refine L2.walk_of (l := PySem.Challenge.rw_LID) (n := 63) (k := 40) (x := "script") (CX := fun w => ..) (sp := fun _ => My.sp_law) rfl (by decide) rfl ⟨rfl, by decide, by decide⟩ (fun w h Y => PySem.W.kIn_of Y) ?F ?S ?C
  case F =>
    intro w mg fa h KX G hmg
    have T : ∃ t, My.Txt (L2.KOf KX) t := by
      dsimp only [L2.KOf]                          -- K must stand as «<heap const> w.params» for k_is
      refine' My.txt_mk ?e1 ?e2 ?e3 ..
      (case e1 => PySem.W.k_is)                    -- in the order: a name -> its address -> its object -> its parts
      (case e2 => PySem.W.k_is)
      ..
    obtain ⟨t, T⟩ := T
    have e0 := hmg.symm.trans (PySem.W.mg_of KX G T.law)
    cases e0                                       -- fa is the law's own address
    exact ⟨_, fun s u => .of_eq rfl, fun base kb nb => My.law_fn T kb nb⟩     -- if «.of_eq rfl» comes too early: refine' ⟨_, ?b, fun base kb nb => My.law_fn T kb nb⟩; exact fun s u => .of_eq rfl
  case S => exact fun w H a ns hl hO hS => ..
  case C => exact ..
(the tactic k_is has no namespace: write k_is) -/

/-! SHORT WORDS over the layer: a def of the text, its body, what a loop and a test want. -/
namespace L2
open PySem PySem.Spec PyProof.Rows

/-! ### the text by places -/
def defArgs (s : Stmt) : Arguments := match s with
  | .FunctionDef _ a _ _ _ _ _ _ _ _ => a
  | _ => { posonlyargs := [], args := [], vararg := none, kwonlyargs := [], kw_defaults := [], kwarg := none, defaults := [] }
def defBody (s : Stmt) : List Stmt := match s with
  | .FunctionDef _ _ b _ _ _ _ _ _ _ => b
  | _ => []
def defScope (s : Stmt) : Scope := match s with
  | .FunctionDef _ _ _ _ _ _ sc _ _ _ => sc
  | _ => { kind := .function, names := [], isGenerator := false, isCoroutine := false }

/-! ### no exception leaves a def -/
abbrev CX0 : CXT := fun _ _ _ _ _ _ => False
abbrev E0 : XK := fun _ _ _ => False
theorem pass0 {X : Cx} : Passes CX0 X E0 := fun _ _ _ _ _ _ _ h => h.elim

/-! ### a def (or method) of the text as it stands behind the top -/
structure Fun (K : PySem.W.Frag) (x qual : Str) (st : Stmt) (f : Addr) (fd : FuncData) : Prop where
  ex : ∃ (oc : Value) (od : Option Addr) (kV doc pm : Value) (an : Option Addr) (cdv ct : Value) (osl : Array (Option Value)),
    fd = PySem.W.fnOf x qual (defArgs st) (defBody st) (defScope st) .none kV doc pm an cdv ct ∧ K.lookup f = some ⟨oc, od, .func fd, osl⟩ ∧ PySem.W.codeIn K cdv qual = true
  kp : PySem.W.keepIn K (.ref f) = true
section
variable {P : Program} {w : World} {K : PySem.W.Frag} {mg : Str → Option Value} {base : Heap}
/-- THE RULE for a def: its body as a term of rules, and the reading of that term -/
theorem Fun.ok {x qual : Str} {st : Stmt} {f : Addr} {fd : FuncData} {N ps : List Str} {k : Nat} {sp : Sp} (F : Fun K x qual st f fd) (S : FnScope N ps (defScope st)) (len : ∀ vs H Q E, sp vs H Q E → vs.length = ps.length)
    (hbody : ∀ (cdv : Value) (A : Around) (outer : List Env) (s : Shared) (H : Hp) (vs : List V) (Q : VK) (E : XK), Room k (A.deeper (envOfC qual (defScope st) s.heap.objs.size f cdv)) → sp vs H Q E →
      ∃ t, PSs (cxOf CX0 P w K mg base N qual (defScope st) f cdv A outer s H E).nox (defBody st) t ∧ t { nx := fun _ H' => Q .non H', rt := Q } (start N vs) H) : FnOk P w K mg base CX0 (k + 1) f fd ps sp := by
  obtain ⟨oc, od, kV, doc, pm, an, cdv, ct, osl, rfl, lk, hcd⟩ := F.ex
  refine fn_of lk hcd S len fun A outer s H vs Q E hr hsp => ?_
  obtain ⟨t, h, q⟩ := hbody cdv A outer s H vs Q E hr hsp
  exact ⟨t, h.nox, q⟩
/-- how its arguments bind (no defaults): h is «fun _ _ _ _ _ _ us hl => match us, hl with | [_, _], _ => rfl», one _ a parameter -/
theorem Fun.binds {x qual : Str} {st : Stmt} {f : Addr} {fd : FuncData} {ps : List Str} (F : Fun K x qual st f fd)
    (h : ∀ (kV doc pm : Value) (an : Option Addr) (cdv ct : Value) (us : List Value), us.length = ps.length → bindArgs (PySem.W.fnOf x qual (defArgs st) (defBody st) (defScope st) .none kV doc pm an cdv ct) ⟨us, []⟩ = pure (ps.zip us)) : Binds K fd ps [] := by
  obtain ⟨oc, od, kV, doc, pm, an, cdv, ct, osl, rfl, lk, hcd⟩ := F.ex
  exact .all (h kV doc pm an cdv ct)
theorem fun_mk {x qual : Str} {st : Stmt} {f : Addr} {oc : Value} {od an : Option Addr} {osl : Array (Option Value)} {kV doc pm cdv ct : Value} (l : K.lookup f = some ⟨oc, od, .func (PySem.W.fnOf x qual (defArgs st) (defBody st) (defScope st) .none kV doc pm an cdv ct), osl⟩)
    (c : PySem.W.codeIn K cdv qual = true) (k : PySem.W.keepIn K (.ref f) = true) : Fun K x qual st f (PySem.W.fnOf x qual (defArgs st) (defBody st) (defScope st) .none kV doc pm an cdv ct) := ⟨⟨oc, od, kV, doc, pm, an, cdv, ct, osl, rfl, l, c⟩, k⟩
end
theorem small1000 {n : Nat} (h : n ≤ 1000) : n < sizeLine := Nat.lt_of_le_of_lt h (by decide)

/-! ### expressions in short: the name that stands in the i-th slot -/
section
variable {X : Cx}
theorem pv (i : Nat) {x : Str} {pos : Pos} (hN : X.N[i]? = some x := by rfl) (hv : Vis X.env.scope x := by first | exact Or.inl rfl | exact Or.inr (Or.inl rfl) | exact Or.inr (Or.inr rfl)) (hd : (x == ("__debug__" : Str)) = false := by decide)
    (hcd : (x == ("__classdict__" : Str)) = false := by decide) : PE X (.Name x pos) (tVar i) := pe_var hN hv hd hcd
end

/-! ### tests -/
theorem iteF {A B : Prop} (h : B) : if false = true then A else B := by
  rw [if_neg Bool.false_ne_true]
  exact h
theorem iteT {A B : Prop} (h : A) : if true = true then A else B := by
  rw [if_pos rfl]
  exact h
theorem ite2 {c A B : Prop} [Decidable c] (h1 : c → A) (h2 : ¬ c → B) : if c then A else B := by
  by_cases h : c
  · rw [if_pos h]
    exact h1 h
  · rw [if_neg h]
    exact h2 h

/-! ### heaps -/
/-- all that was tracked is as it was -/
def Same (H H' : Hp) : Prop := ∀ b o, H b = some o → H' b = some o
theorem Same.refl (H : Hp) : Same H H := fun _ _ h => h
theorem Same.trans {H H1 H2 : Hp} (a : Same H H1) (b : Same H1 H2) : Same H H2 := fun c o h => b c o (a c o h)
theorem Same.free {H H' : Hp} (e : Same H H') {l : Addr} (h : H' l = Option.none) : H l = Option.none := by
  cases q : H l with
  | none => rfl
  | some o =>
    rw [e l o q] at h
    cases h
theorem Same.seq {K : PySem.W.Frag} {H H' : Hp} {a : Addr} {xs : List V} (e : Same H H') (h : SqL K H a xs) : SqL K H' a xs := by
  rcases h with (h | ⟨o, h⟩) | h
  · exact .inl (.inl (e _ _ h))
  · exact .inl (.inr ⟨o, e _ _ h⟩)
  · exact .inr h

/-! ### a dict's pairs: keys that differ -/
section
variable {κ : Type} [DecidableEq κ]
end
end L2


namespace L2
open PySem PySem.Spec PyProof.Rows

/-! ### isinstance -/

/-! ### all, of a list of truths -/
theorem truth_bl {P : Program} {w : World} {A : Around} {bs : List Bool} {its : List Value} (r : Vals (bs.map V.bl) its) : TruthOf P w A (fun i v => its.toArray[i]? = some v) (fun i => bs.getD i false) := by
  intro i v s Q E hv hq
  have hv' : its[i]? = some v := by simpa using hv
  have hl := r.length
  rw [List.length_map] at hl
  have hi : i < its.length := (List.getElem?_eq_some_iff.mp hv').1
  have hb : (bs.map V.bl)[i]? = some (V.bl (bs.getD i false)) := by
    rw [List.getElem?_map, List.getD_eq_getElem?_getD]
    have : bs[i]? = some bs[i] := List.getElem?_eq_getElem (by omega)
    rw [this]; rfl
  obtain ⟨u, hu, ru⟩ := r.get hb
  rw [hv'] at hu
  cases hu
  have e : v = Value.bool (bs.getD i false) := ru
  subst e
  exact wpAny_truthy_bool hq
theorem range_all {bs : List Bool} : (List.range bs.length).all (fun i => bs.getD i false) = bs.all id := by
  rw [Bool.eq_iff_iff, List.all_eq_true, List.all_eq_true]
  constructor
  · intro h b hb
    obtain ⟨i, hi, e⟩ := List.mem_iff_getElem.mp hb
    have := h i (List.mem_range.mpr hi)
    rw [List.getD_eq_getElem?_getD, List.getElem?_eq_getElem hi] at this
    rw [← e]; exact this
  · intro h i hi
    have hi' := List.mem_range.mp hi
    rw [List.getD_eq_getElem?_getD, List.getElem?_eq_getElem hi']
    exact h _ (List.getElem_mem hi')
def rAll (K : PySem.W.Frag) : List V → Hp → VK → Prop := fun vs H Q => ∃ (a : Addr) (bs : List Bool), vs = [.ref a] ∧ SqL K H a (bs.map V.bl) ∧ Q (.bl (bs.all id)) H
theorem call_allL {X : Cx} (hc : X.calm = true) : CallR X (.builtin "all") (rAll X.K) := by
  intro pins s σ H vs us Q I r h
  obtain ⟨a, bs, rfl, hq, q⟩ := h
  obtain ⟨u, rfl, ru⟩ := vals1 r
  obtain rfl : u = Value.ref a := ru
  obtain ⟨its, rv, p, hz⟩ := I.list hq
  have hl := rv.length
  rw [List.length_map] at hl
  have hlt : a < s.heap.objs.size := by obtain ⟨_, e, _⟩ := p.isList; exact Heap.lt_size e
  refine call_all_walk (wpAny_pyIter_list p.isList ?_)
  refine ⟨s.heap.objs.size, [s.heap.objs.size, a], [s.heap.objs.size], its.toArray.size, (fun i v => its.toArray[i]? = some v), (fun i h => h.IsListIter s.heap.objs.size a i ∧ h.IsList a its.toArray), (fun i => bs.getD i false), rfl, Walks.list (A := X.A.in1) (I.ok.hd hc) s.heap.objs.size a (Nat.ne_of_lt hlt) its.toArray, ⟨⟨_, Heap.get?_push_size _ rfl, rfl, rfl⟩, p.isList.push _⟩, truth_bl rv, fun h' tk hk => ?_⟩
  refine ⟨.bl (bs.all id), H, I.kept fun b o e => hk b o (fun z => ?_) (Heap.get?_push_of_some _ e), ?_, q⟩
  · have z' : b = s.heap.objs.size := by simpa using z
    exact absurd (Heap.lt_size e) (by rw [z']; exact Nat.lt_irrefl _)
  · have e : its.toArray.size = bs.length := by rw [List.size_toArray, hl]
    show Value.bool _ = Value.bool _
    rw [e, range_all]

/-! ### texts: <=, join, signs -/

/-! ### a thing of ours that the heap holds comes to be tracked -/
theorem Inv.track {X : Cx} {pins : List (Addr × Obj)} {σ : St} {H : Hp} {s : Shared} {T : Addr} {o : HO} (I : Inv X pins σ H s) (hn : FpOk X pins H T) (hT : ∃ ob, s.heap.get? T = some ob) (new : ObjOk X.prog X.w (upd H T o) s.heap T o) : Inv X pins σ (upd H T o) s := by
  obtain ⟨f0, f1, f2, f3, f4, f5⟩ := hn
  refine I.step (g' := s.gens) (t' := s.toks) (d' := s.drawn) (h' := s.heap) (ch := [T]) (fun b hb => ?_) (fun b ob _ _ _ e _ => e) (fun b ob _ _ _ e _ => ⟨ob.slots, e⟩) (fun b ob hb e n => ?_) (fun b ob _ e => ⟨ob, e⟩) (fun b xs e => ?_) (fun b ob u e => ?_) (fun b ps e => ?_) (fun m hm => hm) (fun b u e => ?_) I.bare
  · have e : b = T := by simpa using hb
    subst e
    exact ⟨f3, f1, f4, f5⟩
  · rw [upd_ne (by simpa using hb)]; exact n
  · rw [upd_ne (ne_of_none e f0)]; exact e
  · rw [upd_ne (ne_of_none e f0)]; exact e
  · exact ⟨#[], by rw [upd_ne (ne_of_none e f0), e]; simp⟩
  · by_cases hb : b = T
    · subst hb; rw [upd_same] at e; cases e; exact new
    · rw [upd_ne hb] at e
      exact (I.hok b u e).stay (fun c v _ q => q) (fun c q => by rw [upd_ne (ne_of_none q f0)]; exact q) fun c xs q => by rw [upd_ne (ne_of_none q f0)]; exact q

/-! ### zip of two lists, with a pair of targets -/
end L2

namespace L2
open PySem PySem.Spec PyProof.Rows

/-! ### what a block closes over -/
def closOf (env : Env) : List (Str × NameKind) → List (Str × Addr) → List (Str × Addr)
  | [], acc => acc
  | (n, k) :: r, acc => if k == .free then closOf env r ((n, (env.cells.lookup n).getD 0) :: acc) else closOf env r acc
theorem forIn_clos {env : Env} (f : Str × NameKind → List (Str × Addr) → Sem (ForInStep (List (Str × Addr))))
    (hf : ∀ n k cs, f (n, k) cs = if (k == NameKind.free) = true then (cellOf env n >>= fun a => pure (.yield ((n, a) :: cs))) else pure (.yield cs)) :
    ∀ (names : List (Str × NameKind)) (acc : List (Str × Addr)), (∀ x ∈ names, x.2 = .free → ∃ c, env.cells.lookup x.1 = some c) → forIn names acc f = pure (closOf env names acc)
  | [], acc, _ => by rw [List.forIn_nil]; rfl
  | (n, k) :: r, acc, h => by
    rw [List.forIn_cons, hf]
    unfold closOf
    by_cases hk : (k == NameKind.free) = true
    · rw [if_pos hk, if_pos hk]
      obtain ⟨c, hc⟩ := h (n, k) List.mem_cons_self (beq_iff_eq.mp hk)
      have e : cellOf env n = pure c := by unfold cellOf; rw [hc]
      rw [e, hc]
      exact forIn_clos f hf r _ fun x hx => h x (List.mem_cons_of_mem _ hx)
    · rw [if_neg hk, if_neg hk]
      exact forIn_clos f hf r _ fun x hx => h x (List.mem_cons_of_mem _ hx)
theorem closureFor_of {scope : Scope} {env : Env} (h : ∀ x ∈ scope.names, x.2 = .free → ∃ c, env.cells.lookup x.1 = some c) : closureFor scope env = pure (closOf env scope.names []) := by
  simp only [closureFor]
  rw [forIn_clos (env := env) _ (fun n k cs => by cases hk : k == NameKind.free <;> simp [hk]) scope.names [] h]
  rfl
theorem closOf_mem {env : Env} : ∀ {names : List (Str × NameKind)} {acc : List (Str × Addr)} {x : Str} {c : Addr}, (x, c) ∈ closOf env names acc → (x, c) ∈ acc ∨ ((x, NameKind.free) ∈ names ∧ c = (env.cells.lookup x).getD 0)
  | [], _, _, _, h => .inl h
  | (n, k) :: r, acc, x, c, h => by
    unfold closOf at h
    by_cases hk : (k == NameKind.free) = true
    · rw [if_pos hk] at h
      rcases closOf_mem h with h | ⟨h, e⟩
      · rcases List.mem_cons.mp h with h | h
        · cases h
          rw [beq_iff_eq.mp hk]
          exact .inr ⟨List.mem_cons_self, rfl⟩
        · exact .inl h
      · exact .inr ⟨List.mem_cons_of_mem _ h, e⟩
    · rw [if_neg hk] at h
      rcases closOf_mem h with h | ⟨h, e⟩
      · exact .inl h
      · exact .inr ⟨List.mem_cons_of_mem _ h, e⟩
theorem closOf_acc {env : Env} : ∀ {names : List (Str × NameKind)} {acc : List (Str × Addr)} {p : Str × Addr}, p ∈ acc → p ∈ closOf env names acc
  | [], _, _, h => h
  | (n, k) :: r, acc, p, h => by
    unfold closOf
    by_cases hk : (k == NameKind.free) = true
    · rw [if_pos hk]; exact closOf_acc (List.mem_cons_of_mem _ h)
    · rw [if_neg hk]; exact closOf_acc h
theorem closOf_has {env : Env} : ∀ {names : List (Str × NameKind)} {acc : List (Str × Addr)} {x : Str}, (x, NameKind.free) ∈ names → ∃ c, (x, c) ∈ closOf env names acc
  | (n, k) :: r, acc, x, h => by
    unfold closOf
    rcases List.mem_cons.mp h with h | h
    · cases h
      rw [if_pos (show (NameKind.free == NameKind.free) = true by rfl)]
      exact ⟨_, closOf_acc List.mem_cons_self⟩
    · by_cases hk : (k == NameKind.free) = true
      · rw [if_pos hk]; exact closOf_has h
      · rw [if_neg hk]; exact closOf_has h
theorem look_of_mem {α : Type} : ∀ {l : List (Str × α)} {x : Str} {c : α}, (x, c) ∈ l → ∃ c', l.lookup x = some c'
  | (n, d) :: r, x, c, h => by
    rw [List.lookup_cons]
    cases hb : x == n with
    | true => exact ⟨d, rfl⟩
    | false =>
      rcases List.mem_cons.mp h with h | h
      · cases h
        simp at hb
      · exact look_of_mem h
theorem cellsFrom_app : ∀ (names : List (Str × NameKind)) (n : Nat) (acc : List (Str × Addr)), cellsFrom n names acc = cellsFrom n names [] ++ acc
  | [], _, _ => rfl
  | (x, k) :: r, n, acc => by
    unfold cellsFrom
    by_cases hk : (k == NameKind.cell) = true
    · rw [if_pos hk, if_pos hk, cellsFrom_app r (n + 1) ((x, n) :: acc), cellsFrom_app r (n + 1) [(x, n)], List.append_assoc]
      rfl
    · rw [if_neg hk, if_neg hk]; exact cellsFrom_app r n acc
theorem cellsFrom_cell : ∀ {names : List (Str × NameKind)} {n : Nat} {acc : List (Str × Addr)} {x : Str} {c : Addr}, (x, c) ∈ cellsFrom n names acc → (x, c) ∈ acc ∨ (x, NameKind.cell) ∈ names
  | [], _, _, _, _, h => .inl h
  | (y, k) :: r, n, acc, x, c, h => by
    unfold cellsFrom at h
    by_cases hk : (k == NameKind.cell) = true
    · rw [if_pos hk] at h
      rcases cellsFrom_cell h with h | h
      · rcases List.mem_cons.mp h with h | h
        · cases h
          rw [beq_iff_eq.mp hk]
          exact .inr List.mem_cons_self
        · exact .inl h
      · exact .inr (List.mem_cons_of_mem _ h)
    · rw [if_neg hk] at h
      rcases cellsFrom_cell h with h | h
      · exact .inl h
      · exact .inr (List.mem_cons_of_mem _ h)

section
variable {M : Model} {A : Around} {E : Value → Shared → Prop} {s : Shared}
theorem nfe_comp {scope : Scope} {env : Env} {cl : List (Str × Addr)} {Q : Env → Shared → Prop}
    (hQ : Q (newEnv scope s.heap.objs.size env.globals (cellsFrom (s.heap.objs.size + 1) scope.names cl) env.qual none .none (some env) builtinsNs) { s with heap := pushCells (s.heap.push { cls := .type "dict", data := .dict #[] }) scope.names }) :
    wpAny M A (newFunctionEnv scope env.globals cl [] env.qual none .none (some env)) Q E s := by
  simp only [newFunctionEnv, Option.isSome_some, if_true]
  refine wpAny_bind (wpAny_alloc ?_)
  refine wpAny_bind (wpAny_layCells _ (fun name kind cells => by cases hkc : kind == NameKind.cell <;> simp [hkc]) _ _ _ _ ?_)
  rw [show ({ s with heap := s.heap.push { cls := .type "dict", data := .dict #[] } } : Shared).heap.objs.size = s.heap.objs.size + 1 from Heap.size_push ..]
  exact wpAny_bind (wpAny_pure (wpAny_pure hQ))
end

/-- the context of a comprehension's block: N its own names, then those that it closes over -/
abbrev cxComp (X : Cx) (N : List Str) (scope : Scope) (cs : List (Str × Addr)) (C : Addr) (s : Shared) (H : Hp) (ex : List Addr) : Cx where
  prog := X.prog
  w := X.w
  K := X.K
  mg := X.mg
  base := X.base
  A := X.A
  N := N
  s₀ := s
  H₀ := H
  env := compEnvC scope cs C X.env
  outer := X.stack
  stack := X.stack
  ex := ex
  fn := fun x => decide (scope.names.lookup x ≠ some .free)
  calm := X.calm
  pn := []
  xe := fun _ _ => False

/-- what is asked of the block's scope: psc, PN the scope and the names of the code around it; k: how many names of N are its own; caps: the places, in PN, of those behind them -/
structure CompScope (psc : Scope) (PN : List Str) (scope : Scope) (N : List Str) (k : Nat) (caps : List Nat) : Prop where
  kind : scope.kind = .function
  loc : ∀ x ∈ scope.names, x.2 = .local → scope.names.lookup x.1 = some .local
  ndn : (scope.names.map (·.1)).Nodup
  nd : N.Nodup
  len : N.length = k + caps.length
  free : ∀ x ∈ scope.names, x.2 = .free → psc.names.lookup x.1 = some .cell ∨ psc.names.lookup x.1 = some .free
  cap : ∀ p ∈ (N.drop k).zip caps, PN[p.2]? = some p.1 ∧ scope.names.lookup p.1 = some .free

/-- the block's slots at each turn's start -/
def compSt (k : Nat) (caps : List Nat) (σ : St) : St := List.replicate k none ++ caps.map fun j => (σ[j]?).getD none
theorem compSt_at {k : Nat} {caps : List Nat} {σ : St} {i : Nat} {v : V} (h : (compSt k caps σ)[i]? = some (some v)) : ∃ j, k ≤ i ∧ caps[i - k]? = some j ∧ σ[j]? = some (some v) := by
  unfold compSt at h
  by_cases hi : i < k
  · rw [List.getElem?_append_left (by simpa using hi), List.getElem?_replicate, if_pos hi] at h
    cases h
  · rw [List.getElem?_append_right (by simpa using hi), List.length_replicate, List.getElem?_map] at h
    cases e : caps[i - k]? with
    | none => rw [e] at h; cases h
    | some j =>
      rw [e] at h
      have h' : (σ[j]?).getD none = some v := Option.some.inj h
      refine ⟨j, by omega, rfl, ?_⟩
      cases q : σ[j]? with
      | none => rw [q] at h'; cases h'
      | some o => rw [q] at h'; exact congrArg some h'

theorem relabel_look {scope : Scope} {env : Env} {x : Str} {k' : NameKind} (h : (relabel scope env).names.lookup x = some k') : ∃ k, (x, k) ∈ scope.names ∧ (k' = k ∨ (k = .free ∧ k' = .cell)) := by
  have hm := PySem.mem_of_lookup h
  have hm' : (x, k') ∈ scope.names.map (fun (n, k) => if (k == NameKind.free && env.scope.kind == .function && env.kindOf n == some .cell) then (n, NameKind.cell) else (n, k)) := hm
  obtain ⟨⟨n, k⟩, h1, h2⟩ := List.mem_map.mp hm'
  dsimp only at h2
  by_cases hc : (k == NameKind.free && env.scope.kind == .function && env.kindOf n == some .cell) = true
  · rw [if_pos hc] at h2
    cases h2
    simp only [Bool.and_eq_true, beq_iff_eq] at hc
    exact ⟨k, h1, .inr ⟨hc.1.1, rfl⟩⟩
  · rw [if_neg hc] at h2
    cases h2
    exact ⟨k', h1, .inl rfl⟩
theorem map_free {f : Str × NameKind → Str × NameKind} (hf : ∀ n k, f (n, k) = (n, k) ∨ (k = .free ∧ f (n, k) = (n, NameKind.cell))) : ∀ {names : List (Str × NameKind)} {x : Str}, names.lookup x = some .free → (names.map f).lookup x = some .cell ∨ (names.map f).lookup x = some .free
  | [], _, h => by simp at h
  | (n, k) :: r, x, h => by
    have ih := @map_free f hf r x
    rw [List.lookup_cons] at h
    rw [List.map_cons]
    cases hx : x == n with
    | true =>
      rw [hx] at h
      cases h
      rcases hf n .free with e | ⟨_, e⟩
      · right; rw [e, List.lookup_cons, hx]
      · left; rw [e, List.lookup_cons, hx]
    | false =>
      rw [hx] at h
      have h' := ih h
      rcases hf n k with e | ⟨_, e⟩
      · rw [e, List.lookup_cons, hx]; exact h'
      · rw [e, List.lookup_cons, hx]; exact h'
theorem relabel_free {scope : Scope} {env : Env} {x : Str} (h : scope.names.lookup x = some .free) : (relabel scope env).names.lookup x = some .cell ∨ (relabel scope env).names.lookup x = some .free := by
  refine map_free (fun n k => ?_) h
  by_cases hc : (k == NameKind.free && env.scope.kind == .function && env.kindOf n == some .cell) = true
  · right
    refine ⟨?_, if_pos hc⟩
    simp only [Bool.and_eq_true, beq_iff_eq] at hc
    exact hc.1.1
  · left; exact if_neg hc
theorem nodup_key {names : List (Str × NameKind)} (h : (names.map (·.1)).Nodup) {x : Str} {k k' : NameKind} (h1 : (x, k) ∈ names) (h2 : (x, k') ∈ names) : k = k' := by
  induction names with
  | nil => simp at h1
  | cons p r ih =>
    rw [List.map_cons] at h
    obtain ⟨ha, hb⟩ := List.nodup_cons.mp h
    rcases List.mem_cons.mp h1 with e1 | h1 <;> rcases List.mem_cons.mp h2 with e2 | h2
    · rw [← e1] at e2; exact (Prod.mk.inj e2).2.symm
    · exact absurd (List.mem_map.mpr ⟨_, h2, by rw [← e1]⟩) ha
    · exact absurd (List.mem_map.mpr ⟨_, h1, by rw [← e2]⟩) ha
    · exact ih hb h1 h2

/-! ### the heap beside one address that is younger -/
theorem Un.but {fs ex : List Addr} {H H' : Hp} {h h1 h2 : Heap} {C : Addr} (u : Un fs ex H H' h h1) (hs : Heap.SameBut C h1 h2) (hC : h.objs.size ≤ C) : Un fs ex H H' h h2 := by
  have ne : ∀ b o, h.get? b = some o → b ≠ C := fun b o e => Nat.ne_of_lt (Nat.lt_of_lt_of_le (Heap.lt_size e) hC)
  refine ⟨fun b o e n hb hx => (hs.2 b (ne b o e)).trans (u.keep b o e n hb hx), fun b o e n hb hx => ?_, u.free, fun b o e hx => ?_, u.tups, u.frzs, u.tbls⟩
  · obtain ⟨sl, q⟩ := u.slot b o e n hb hx
    exact ⟨sl, (hs.2 b (ne b o e)).trans q⟩
  · obtain ⟨o', q⟩ := u.there b o e hx
    exact ⟨o', (hs.2 b (ne b o e)).trans q⟩
theorem HOk.but {P : Program} {w : World} {H : Hp} {h1 h2 : Heap} {C : Addr} (x : HOk P w H h1) (hs : Heap.SameBut C h1 h2) (hn : H C = none) : HOk P w H h2 := fun b u e => by
  refine (x b u e).stay (fun c v hc q => (hs.2 c ?_).trans q) (fun _ q => q) fun _ _ q => q
  rintro rfl
  rcases hc with rfl | hc
  · rw [hn] at e; cases e
  · rw [hn] at hc; cases hc

/-! ### the block -/
section
variable {X : Cx} {scope : Scope} {N : List Str} {k : Nat} {caps : List Nat} {psc : Scope} {PN : List Str} {pins : List (Addr × Obj)} {σ : St} {H : Hp} {s : Shared}
/-- the cells of the block -/
abbrev cellsC (X : Cx) (scope : Scope) (C : Addr) : List (Str × Addr) := cellsFrom (C + 1) scope.names (closOf X.env scope.names [])
theorem cellsC_split {C : Addr} (I : Inv X pins σ H s) (S : CompScope X.env.scope X.N scope N k caps) {x : Str} {c : Addr} (h : (x, c) ∈ cellsC X scope C) :
    (x, c) ∈ cellsFrom (C + 1) scope.names [] ∨ X.env.cells.lookup x = some c := by
  unfold cellsC at h
  rw [cellsFrom_app] at h
  rcases List.mem_append.mp h with h | h
  · exact .inl h
  · rcases closOf_mem h with h | ⟨h, e⟩
    · simp at h
    · obtain ⟨c', hc⟩ := I.ok.has x (S.free _ h rfl)
      rw [hc] at e
      exact .inr (by rw [hc]; exact congrArg some e.symm)
theorem comp_start {fp : List Addr} (I : Inv X pins σ H s) (S : CompScope X.env.scope X.N scope N k caps) (hf : ∀ b ∈ fp, FpOk X pins H b) (hfo : ∀ b ∈ fp, ∃ o, s.heap.get? b = some o) {D C : Nat} {h1 : Heap} {t' : Nat} (hD : D = s.heap.objs.size) (hC : C = D + 1)
    (hh : h1 = pushCells ((s.heap.push { cls := .type "list", data := .seq #[] }).push { cls := .type "dict", data := .dict #[] }) scope.names) :
    Inv (cxComp X N scope (cellsC X scope C) C s H fp) [] (compSt k caps σ) (upd H D (.lst [])) { s with heap := h1, toks := t' } := by
  have hsz1 : (s.heap.push { cls := .type "list", data := .seq #[] }).objs.size = C := by rw [Heap.size_push, hC, hD]
  have hsz2 : ((s.heap.push { cls := .type "list", data := .seq #[] }).push { cls := .type "dict", data := .dict #[] }).objs.size = C + 1 := by rw [Heap.size_push, hsz1]
  have old : ∀ b o, s.heap.get? b = some o → h1.get? b = some o := fun b o e => by
    rw [hh]; exact pushCells_keeps _ _ b o (Heap.get?_push_of_some _ (Heap.get?_push_of_some _ e))
  have hacc : h1.get? D = some { cls := .type "list", data := .seq #[] } := by
    rw [hh, hD]; exact pushCells_keeps _ _ _ _ (Heap.get?_push_of_some _ (Heap.get?_push_size _ rfl))
  have hns : h1.Ns C (fun _ => none) := by
    rw [hh, ← hsz1]
    exact (Heap.Ns.new _ (.type "dict")).keeps (pushCells_keeps _ _)
  have ok := cellsFrom_ok scope.names ((s.heap.push { cls := .type "list", data := .seq #[] }).push { cls := .type "dict", data := .dict #[] }) (C + 1) [] ⟨fun _ _ hm => (nomatch hm), List.Pairwise.nil⟩ (by rw [hsz2]; exact Nat.le_refl _)
  rw [hsz2] at ok
  have own : ∀ x c, (x, c) ∈ cellsFrom (C + 1) scope.names [] → h1.IsCell c none ∧ C + 1 ≤ c := fun x c h => by rw [hh]; exact ok.empty x c h
  have par : ∀ x c, X.env.cells.lookup x = some c → c < D := fun x c e => by
    obtain ⟨v, q⟩ := I.cell x c e
    rw [hD]; exact q.lt
  have fpD : ∀ b ∈ fp, b < D := fun b hb => by
    obtain ⟨o, e⟩ := hfo b hb
    rw [hD]; exact Heap.lt_size e
  have hCfree : H C = none := I.hok.fresh (by rw [hC, hD]; exact Nat.le_succ _)
  have split := fun x c (h : (cellsC X scope C).lookup x = some c) => cellsC_split (C := C) I S (PySem.mem_of_lookup h)
  have updn : ∀ b, b ≠ D → H b = none → (upd H D (.lst [])) b = none := fun b hb e => by rw [upd_ne hb]; exact e
  have capt : ∀ x, scope.names.lookup x = some .free → ∃ c, X.env.cells.lookup x = some c ∧ (cellsC X scope C).lookup x = some c := fun x hx => by
    have hm := PySem.mem_of_lookup hx
    obtain ⟨c0, h0⟩ := closOf_has (env := X.env) (acc := []) hm
    obtain ⟨c, hc⟩ := look_of_mem (l := cellsC X scope C) (x := x) (c := c0) (by unfold cellsC; rw [cellsFrom_app]; exact List.mem_append_right _ h0)
    refine ⟨c, ?_, hc⟩
    rcases split x c hc with q | q
    · rcases cellsFrom_cell q with z | z
      · simp at z
      · have := nodup_key S.ndn hm z; cases this
    · exact q
  have okX : (cxComp X N scope (cellsC X scope C) C s H fp).Ok := by
    refine ⟨I.ok.mod, S.kind, I.ok.glob, I.ok.blt, ?above, ?inj, ?has, ?cab, I.ok.hd, I.ok.frames, .inl rfl, ?exf, fun b o e => I.bs b o e, Nat.le_trans I.ok.bsz I.sz, ?noex, ?exfs, I.stack, I.stkFree⟩
    case above =>
      show s.heap.objs.size ≤ C
      rw [hC, hD]; exact Nat.le_succ _
    case inj =>
      intro x y c e1 e2
      rcases split x c e1 with q1 | q1 <;> rcases split y c e2 with q2 | q2
      · exact name_of_addr ok.apart q1 q2
      · have h1 : @LE.le Nat _ (C + 1) c := (own x c q1).2
        have h2 : @LT.lt Nat _ c D := par y c q2
        exfalso; omega
      · have h1 : @LE.le Nat _ (C + 1) c := (own y c q2).2
        have h2 : @LT.lt Nat _ c D := par x c q1
        exfalso; omega
      · exact I.ok.inj x y c q1 q2
    case has =>
      intro x hx
      have hx' : (relabel scope X.env).names.lookup x = some .cell ∨ (relabel scope X.env).names.lookup x = some .free := hx
      have hk : ∃ k', (x, k') ∈ scope.names ∧ (k' = .cell ∨ k' = .free) := by
        rcases hx' with q | q
        · obtain ⟨k', h1, h2⟩ := relabel_look q
          rcases h2 with h2 | ⟨h2, _⟩
          · exact ⟨k', h1, .inl h2.symm⟩
          · exact ⟨k', h1, .inr h2⟩
        · obtain ⟨k', h1, h2⟩ := relabel_look q
          rcases h2 with h2 | ⟨_, h2⟩
          · exact ⟨k', h1, .inr h2.symm⟩
          · cases h2
      obtain ⟨k', hm, hk | hk⟩ := hk
      · subst hk
        have q := PySem.W.cellsFrom_some scope.names (C + 1) (closOf X.env scope.names []) (x := x) (.inl (by
          obtain ⟨k2, hk2⟩ := look_of_mem hm
          rw [hk2, nodup_key S.ndn (PySem.mem_of_lookup hk2) hm]))
        exact Option.isSome_iff_exists.mp q
      · subst hk
        obtain ⟨c0, h0⟩ := closOf_has (env := X.env) (acc := []) hm
        exact look_of_mem (c := c0) (by show (x, c0) ∈ cellsC X scope C; unfold cellsC; rw [cellsFrom_app]; exact List.mem_append_right _ h0)
    case cab =>
      intro x c hx e
      have hx' : decide (scope.names.lookup x ≠ some .free) = true := hx
      have hx2 := of_decide_eq_true hx'
      show s.heap.objs.size ≤ c
      have e' : (cellsC X scope C).lookup x = some c := e
      have hm := PySem.mem_of_lookup e'
      unfold cellsC at hm
      rw [cellsFrom_app] at hm
      rcases List.mem_append.mp hm with z | z
      · have h1 : @LE.le Nat _ (C + 1) c := (own x c z).2
        have h2 : @LE.le Nat _ s.heap.objs.size c := by omega
        exact h2
      · rcases closOf_mem z with z | ⟨z, _⟩
        · simp at z
        · obtain ⟨k2, hk2⟩ := look_of_mem z
          exact absurd (by rw [hk2, nodup_key S.ndn (PySem.mem_of_lookup hk2) z]) hx2
    case exf =>
      intro b hb
      refine ⟨?_, fun x c e z => ?_⟩
      · have h1 : @LT.lt Nat _ b D := fpD b hb
        exact Nat.ne_of_lt (show @LT.lt Nat _ b C by omega)
      · rcases split x c e with q | q
        · have h1 : @LE.le Nat _ (C + 1) c := (own x c q).2
          have h2 : @LT.lt Nat _ b D := fpD b hb
          have z' : @Eq Nat c b := z
          omega
        · exact (hf b hb).2.2.2.2.1 x c q z
    case noex =>
      intro b o e hb
      rcases (hf b hb).2.2.2.1 with q | q
      · exact I.ok.noex b o e q
      · exact absurd (Nat.lt_of_lt_of_le (Heap.lt_size e) (Nat.le_trans I.ok.bsz q)) (Nat.lt_irrefl _)
    case exfs =>
      intro b hb z
      have z' : b ∈ frs X.stack := z
      rcases List.mem_cons.mp (I.stkSub b z') with q | q
      · exact (hf b hb).2.1 q
      · exact (hf b hb).2.2.1 q
  refine ⟨okX, rfl, I.bare, Un.laid old (by rw [hD]; exact Nat.le_refl _) (I.hok.fresh (by rw [hD]; exact Nat.le_refl _)), ⟨_, hns, ?loc⟩, ?cell, updn _ (show @Ne Nat C D by omega) hCfree, ?freeC, fun p hp => absurd hp (by simp), ?hok, ?len⟩
  case loc =>
    intro i x v e1 e2 e3
    obtain ⟨j, hi, hj, hv⟩ := compSt_at e2
    have hz : (x, j) ∈ (N.drop k).zip caps := by
      refine List.mem_iff_getElem?.mpr ⟨i - k, ?_⟩
      rw [List.getElem?_zip_eq_some]
      refine ⟨?_, hj⟩
      rw [List.getElem?_drop, show k + (i - k) = i by omega]
      exact e1
    obtain ⟨hp, hfr⟩ := S.cap (x, j) hz
    have hk := S.free (x, .free) (PySem.mem_of_lookup hfr) rfl
    obtain ⟨m, hn, hl⟩ := I.loc
    obtain ⟨u, r, l⟩ := hl j x v hp hv (by rcases hk with q | q; exact .inr (.inl q); exact .inr (.inr q))
    refine ⟨u, r, ?_⟩
    obtain ⟨c, hc1, hc2⟩ := capt x hfr
    have hcell : s.heap.IsCell c (some u) := by
      rcases l with ⟨q, _⟩ | ⟨_, c', q1, q2⟩
      · have q' : X.env.scope.names.lookup x = some .local := q
        rcases hk with z | z
        · rw [q'] at z; cases z
        · rw [q'] at z; cases z
      · rw [hc1] at q1; cases q1; exact q2
    exact .inr ⟨relabel_free hfr, c, hc2, hcell.keeps old⟩
  case cell =>
    intro x c e
    rcases split x c e with q | q
    · exact ⟨_, (own x c q).1⟩
    · obtain ⟨v, z⟩ := I.cell x c q
      exact ⟨v, z.keeps old⟩
  case freeC =>
    intro x c e
    rcases split x c e with q | q
    · have h1 : @LE.le Nat _ (C + 1) c := (own x c q).2
      have h2 : @LE.le Nat _ s.heap.objs.size c := by omega
      exact updn c (show @Ne Nat c D by omega) (I.hok.fresh h2)
    · exact updn c (Nat.ne_of_lt (par x c q)) (I.freeC x c q)
  case hok =>
    exact I.hok.laid old (by rw [hD]; exact Nat.le_refl _) ⟨Nat.zero_le _, [], 0, .nil, hacc⟩
  case len =>
    show (compSt k caps σ).length = N.length
    unfold compSt
    rw [List.length_append, List.length_replicate, List.length_map, S.len]

/-- at a turn's start the own names are forgotten, the others read anew: their cells stand as they stood -/
theorem comp_again {fp : List Addr} (I : Inv X pins σ H s) (S : CompScope X.env.scope X.N scope N k caps) {C : Addr} {pins' : List (Addr × Obj)} {σ' : St} {H' : Hp} {s' : Shared} (hfc : ∀ x c, X.env.cells.lookup x = some c → c ∉ fp) (hD : s.heap.objs.size ≤ C)
    (J : Inv (cxComp X N scope (cellsC X scope C) C s H fp) pins' σ' H' s') : Inv (cxComp X N scope (cellsC X scope C) C s H fp) pins' (compSt k caps σ) H' s' := by
  obtain ⟨m, hn, _⟩ := id J.loc
  refine ⟨J.ok, J.os, J.bare, J.base, ⟨m, hn, fun i x v e1 e2 e3 => ?_⟩, J.cell, J.free, J.freeC, J.pin, J.hok, ?_⟩
  · obtain ⟨j, hi, hj, hv⟩ := compSt_at e2
    have hz : (x, j) ∈ (N.drop k).zip caps := by
      refine List.mem_iff_getElem?.mpr ⟨i - k, ?_⟩
      rw [List.getElem?_zip_eq_some]
      refine ⟨?_, hj⟩
      rw [List.getElem?_drop, show k + (i - k) = i by omega]
      exact e1
    obtain ⟨hp, hfr⟩ := S.cap (x, j) hz
    have hk := S.free (x, .free) (PySem.mem_of_lookup hfr) rfl
    obtain ⟨m2, hn2, hl⟩ := I.loc
    obtain ⟨u, r, l⟩ := hl j x v hp hv (by rcases hk with q | q; exact .inr (.inl q); exact .inr (.inr q))
    refine ⟨u, r, ?_⟩
    have hcell : ∃ c, X.env.cells.lookup x = some c ∧ s.heap.IsCell c (some u) := by
      rcases l with ⟨q, _⟩ | ⟨_, c', q1, q2⟩
      · have q' : X.env.scope.names.lookup x = some .local := q
        rcases hk with z | z
        · rw [q'] at z; cases z
        · rw [q'] at z; cases z
      · exact ⟨c', q1, q2⟩
    obtain ⟨c, hc1, o, ho, hd⟩ := hcell
    have hc2 : (cellsC X scope C).lookup x = some c := by
      have hm := PySem.mem_of_lookup hfr
      obtain ⟨c0, h0⟩ := closOf_has (env := X.env) (acc := []) hm
      obtain ⟨c', hc'⟩ := look_of_mem (l := cellsC X scope C) (x := x) (c := c0) (by unfold cellsC; rw [cellsFrom_app]; exact List.mem_append_right _ h0)
      rcases cellsC_split (C := C) I S (PySem.mem_of_lookup hc') with q | q
      · rcases cellsFrom_cell q with z | z
        · simp at z
        · have := nodup_key S.ndn hm z; cases this
      · rw [hc1] at q; cases q; exact hc'
    obtain ⟨sl, q⟩ := J.base.any ho (I.freeC x c hc1) (hfc x c hc1)
    exact .inr ⟨relabel_free hfr, c, hc2, _, q, hd⟩
  · show (compSt k caps σ).length = N.length
    unfold compSt
    rw [List.length_append, List.length_replicate, List.length_map, S.len]
end

/-! ### the tests of a comprehension -/
def PF (X : Cx) (ifs : List Expr) (t : TT) : Prop :=
  ∀ (pins : List (Addr × Obj)) (s : Shared) (σ : St) (H : Hp) (Q : Bool → Hp → Prop), Inv X pins σ H s → t σ H Q →
    wpAny (model X.prog X.w) X.A (forIn ifs true fun c r => if r = true then do let ok ← isTrue c X.env (eval c X.env); pure (ForInStep.yield ok) else pure (ForInStep.yield r)) (TP X pins σ Q) X.xe s
def tYes : TT := fun _ H Q => Q true H
theorem pf_nil {X : Cx} : PF X [] tYes := fun _ _ _ H _ I h => wpAny_tests_nil ⟨H, I, h⟩
theorem pf_one {X : Cx} {c : Expr} {t : TT} (h : PT X c t) : PF X [c] t := fun pins s σ H Q I hw => wpAny_tests_one (h pins s σ H Q I hw)

theorem comp_loop {prog : Program} {w : World} {A : Around} {R : Result → Shared → Prop} {s : Shared} {elt target iter : Expr} {ifs : List Expr} {scope : Scope} {pos : Pos} {it acc : Value} {env : Env} (I : Nat → Shared → Prop)
    (turn : ∀ n s, I n s → wpAny (model prog w) A (pyNext it) (fun r s₁ => match r with
      | none => R (.ok .next) s₁
      | some v => wpAny (model prog w) A (letOwnedTupleGo target it v) (fun _ s₁ => wpAny (model prog w) A (assign target env v) (fun _ s₂ =>
          wpAny (model prog w) A (forIn ifs true fun c r => if r = true then do let ok ← isTrue c env (eval c env); pure (ForInStep.yield ok) else pure (ForInStep.yield r)) (fun ok s₃ =>
            if ok = true then wpAny (model prog w) A (eval elt env) (fun x s₄ =>
              wpAny (model prog w) A (call (.builtin "list.append") [acc, x]) (fun _ s₅ => ∃ m, m < n ∧ I m s₅) (fun _ _ => False) s₄) (fun _ _ => False) s₃
            else ∃ m, m < n ∧ I m s₃) (fun _ _ => False) s₂) (fun _ _ => False) s₁) (fun _ _ => False) s₁) (fun _ _ => False) s)
    (n : Nat) (h : I n s) :
    codeAny (model prog w) A (.compLoop (.ListComp elt [⟨target, iter, ifs, 0⟩] scope pos) 0 it acc env) R s := by
  refine codeAny_loop rfl I (fun n s hI => ?_) n h
  show wpAny _ A ((compTurn (.ListComp elt [⟨target, iter, ifs, 0⟩] scope pos) 0 it acc env).onRaise (fun x => do noteFrame x env; theTreesLotGoes x)) _ _ s
  refine wpAny_noted ?_
  rw [compTurn_list]
  refine wpAny_bind (wpAny_standAt (wpAny_bind (wpAny_mono (turn n s hI) (fun r s₁ h₁ => ?_) fun _ _ h' => h'.elim)))
  cases r with
  | none => exact wpAny_pure h₁
  | some v =>
    refine wpAny_bind (wpAny_mono h₁ (fun _ s₁ h₁ => ?_) fun _ _ h' => h'.elim)
    refine wpAny_bind (wpAny_mono h₁ (fun _ s₂ h₂ => wpAny_bind (wpAny_mono h₂ (fun ok s₃ h₃ => ?_) fun _ _ h' => h'.elim)) fun _ _ h' => h'.elim)
    cases ok with
    | false => exact wpAny_pure ⟨rfl, h₃⟩
    | true =>
      exact wpAny_bind (wpAny_bind (wpAny_mono h₃ (fun x s₄ h₄ => wpAny_bind (wpAny_mono h₄ (fun _ s₅ h₅ => wpAny_pure (wpAny_pure ⟨rfl, h₅⟩)) fun _ _ h' => h'.elim)) fun _ _ h' => h'.elim))

/-- [e for target in iter if c]: the new list at D; W: the invariant by the turn, a measure and the items so far -/
def tComp (k : Nat) (caps : List Nat) (wi : TI) (g : TG) (tc : TT) (te : TE) : TE := fun σ H Q => wi σ H fun J H1 => ∀ D, H1 D = none → ∃ W : Nat → Nat → List V → Hp → Prop, (∃ m, W 0 m [] (upd H1 D (.lst []))) ∧ ∀ i m ys H2, W i m ys H2 →
  (J.stop i H2 ∧ Q (.ref D) H2) ∨ (J.go i H2 ∧ ∀ x H3, J.yld i H2 x H3 → g x (compSt k caps σ) H3 fun σ4 H4 => tc σ4 H4 fun b H5 =>
    if b = true then te σ4 H5 fun y H6 => H6 D = some (.lst ys) ∧ ys.length < sizeLine ∧ ∃ m', m' < m ∧ W (i + 1) m' (ys ++ [y]) (upd H6 D (.lst (ys ++ [y]))) else ∃ m', m' < m ∧ W (i + 1) m' ys H5)

/-- the block runs: the state behind it as the code around sees it -/
theorem comp_block {X : Cx} {elt iter tg : Expr} {ifs : List Expr} {scope : Scope} {pos : Pos} {N : List Str} {k : Nat} {caps : List Nat} {g : TG} {tc : TT} {te : TE} {pins : List (Addr × Obj)} {σ : St} {H : Hp} {s : Shared} {E : Value → Shared → Prop} {Q : VK}
    {it : Addr} {fp : List Addr} {tn : Nat → Heap → Prop} {J : It} {RR : Value → Addr → Result → Shared → Prop} (hc : X.calm = true) (S : CompScope X.env.scope X.N scope N k caps) (I : Inv X pins σ H s)
    (T : Turn X.prog X.w X.K tg J fp it tn) (st : tn 0 s.heap) (hf : ∀ b ∈ fp, FpOk X pins H b)
    (hg : ∀ cs C s H ex, PG (cxComp X N scope cs C s H ex) tg g) (ht : ∀ cs C s H ex, PF (cxComp X N scope cs C s H ex) ifs tc) (he : ∀ cs C s H ex, PE (cxComp X N scope cs C s H ex) elt te)
    (q : ∀ D, H D = none → ∃ W : Nat → Nat → List V → Hp → Prop, (∃ m, W 0 m [] (upd H D (.lst []))) ∧ ∀ i m ys H2, W i m ys H2 →
      (J.stop i H2 ∧ Q (.ref D) H2) ∨ (J.go i H2 ∧ ∀ x H3, J.yld i H2 x H3 → g x (compSt k caps σ) H3 fun σ4 H4 => tc σ4 H4 fun b H5 =>
        if b = true then te σ4 H5 fun y H6 => H6 D = some (.lst ys) ∧ ys.length < sizeLine ∧ ∃ m', m' < m ∧ W (i + 1) m' (ys ++ [y]) (upd H6 D (.lst (ys ++ [y]))) else ∃ m', m' < m ∧ W (i + 1) m' ys H5))
    (hRR : ∀ D C H' s' m, C ≠ X.env.locals → (∀ x c, X.env.cells.lookup x = some c → c ≠ C) → s'.heap.Ns C m → (∀ h', Heap.SameBut C s'.heap h' → Inv X pins σ H' { s' with heap := h' }) → H' C = none → s.heap.objs.size ≤ C → Q (.ref D) H' → RR (.ref D) C (.ok .next) s') :
    wpAny (model X.prog X.w) X.A (newList []) (fun acc s₃ => wpAny (model X.prog X.w) X.A (newFunctionEnv scope X.env.globals (closOf X.env scope.names []) [] X.env.qual none .none (some X.env)) (fun cenv s₄ =>
      codeAny (model X.prog X.w) X.A (.compStart (.ListComp elt [⟨tg, iter, ifs, 0⟩] scope pos) 0 (.ref it) acc { cenv with scope := relabel scope X.env }) (RR acc cenv.locals) s₄) E s₃) E s := by
  refine wpAny_newObj_type (nfe_comp ?_)
  generalize hD : s.heap.objs.size = D
  have hsz1 : (s.heap.push { cls := .type "list", dict := none, data := .seq ([] : List Value).toArray }).objs.size = D + 1 := by rw [Heap.size_push, hD]
  dsimp only
  rw [hsz1]
  have hfo : ∀ b ∈ fp, ∃ o, s.heap.get? b = some o := fun b hb => let ⟨o, e, _⟩ := T.obj 0 _ st b hb; ⟨o, e⟩
  have hHD : H D = none := I.hok.fresh (by rw [hD]; exact Nat.le_refl _)
  have J0 := comp_start (t' := s.toks) I S hf hfo (D := D) (C := D + 1) hD.symm rfl rfl
  have hfc : ∀ x c, X.env.cells.lookup x = some c → c ∉ fp := fun x c e hb => (hf c hb).2.2.2.2.1 x c e rfl
  have fpo : ∀ {pins' : List (Addr × Obj)} {H' : Hp}, (∀ b ∈ fp, H' b = none) → pins' = [] → ∀ b ∈ fp, FpOk (cxComp X N scope (cellsC X scope (D + 1)) (D + 1) s H fp) pins' H' b := fun {pins' H'} hn hp b hb => by
    obtain ⟨o, e⟩ := hfo b hb
    have hlt : @LT.lt Nat _ b D := by rw [← hD]; exact Heap.lt_size e
    subst hp
    refine ⟨hn b hb, ?_, fun z => ?_, .inl hb, fun x c e => (J0.ok.exf b hb).2 x c e, fun p hp => absurd hp (by simp)⟩
    · show @Ne Nat b (D + 1)
      omega
    · have z' : b ∈ frs X.stack := z
      rcases List.mem_cons.mp (I.stkSub b z') with w | w
      · exact (hf b hb).2.1 w
      · exact (hf b hb).2.2.1 w
  obtain ⟨W, ⟨m0, w0⟩, turn⟩ := q D hHD
  have st1 : tn 0 (pushCells ((s.heap.push { cls := .type "list", data := .seq #[] }).push { cls := .type "dict", data := .dict #[] }) scope.names) := T.keep 0 _ _ st fun b hb o e => pushCells_keeps _ _ b o (Heap.get?_push_of_some _ (Heap.get?_push_of_some _ e))
  have fr0 : ∀ b ∈ fp, (upd H D (.lst [])) b = none := fun b hb => by
    obtain ⟨o, e⟩ := hfo b hb
    have hlt : @LT.lt Nat _ b D := by rw [← hD]; exact Heap.lt_size e
    rw [upd_ne (show @Ne Nat b D by omega)]
    exact (hf b hb).1
  have fin : ∀ {H' : Hp} {s' : Shared} {σ' : St} {pins' : List (Addr × Obj)}, Inv (cxComp X N scope (cellsC X scope (D + 1)) (D + 1) s H fp) pins' σ' H' s' → Q (.ref D) H' → RR (.ref D) (D + 1) (.ok .next) s' := fun {H' s' σ' pins'} J q => by
    obtain ⟨m, hn, _⟩ := id J.loc
    refine hRR D (D + 1) H' s' m (fun z => ?_) (fun x c e z => ?_) hn (fun h' hs => ?_) J.free (by rw [hD]; exact Nat.le_succ _) q
    · have h1 : @LT.lt Nat _ X.env.locals D := by rw [← hD]; exact I.lt
      have z' : @Eq Nat (D + 1) X.env.locals := z
      omega
    · obtain ⟨v, y⟩ := I.cell x c e
      have h1 : @LT.lt Nat _ c D := by rw [← hD]; exact y.lt
      have z' : @Eq Nat c (D + 1) := z
      omega
    · refine I.call' (ch := fp) J.os (J.base.but hs (by rw [hD]; exact Nat.le_succ _)) (J.hok.but hs J.free) J.bare fun b hb => ?_
      exact ⟨(hf b hb).2.2.2.1, (hf b hb).2.1, (hf b hb).2.2.2.2.1, (hf b hb).2.2.2.2.2⟩
  have loop : codeAny (model X.prog X.w) X.A (.compLoop (.ListComp elt [⟨tg, iter, ifs, 0⟩] scope pos) 0 (.ref it) (.ref D) (compEnvC scope (cellsC X scope (D + 1)) (D + 1) X.env)) (RR (.ref D) (D + 1))
      { s with heap := pushCells ((s.heap.push { cls := .type "list", data := .seq #[] }).push { cls := .type "dict", data := .dict #[] }) scope.names } := by
    refine comp_loop (fun n s' => ∃ i ys H', Inv (cxComp X N scope (cellsC X scope (D + 1)) (D + 1) s H fp) [] (compSt k caps σ) H' s' ∧ tn i s'.heap ∧ (∀ b ∈ fp, H' b = none) ∧ W i n ys H') ?_ m0 ⟨0, [], _, J0, st1, fr0, w0⟩
    rintro n s3 ⟨i, ys, H3, I3, st3, fr3, w3⟩
    rcases turn i n ys H3 w3 with ⟨stop, qn⟩ | ⟨go, step⟩
    · refine thn (T.done (cxComp X N scope (cellsC X scope (D + 1)) (D + 1) s H fp) rfl rfl rfl hc i [] s3 _ H3 _ I3 (fpo fr3 rfl) st3 stop) fun r s4 ⟨hr, I4⟩ => ?_
      subst hr
      exact fin I4 qn
    · refine thn (T.item (cxComp X N scope (cellsC X scope (D + 1)) (D + 1) s H fp) rfl rfl rfl hc i [] s3 _ H3 _ I3 (fpo fr3 rfl) st3 go) fun r s4 ⟨u, hr, h4⟩ => ?_
      subst hr
      refine thn h4 fun _ s5 ⟨x, H5, I5, r5, y5, st5, fr5⟩ => ?_
      have I5' := I5.pinned (fpo fr5 rfl) (T.obj _ _ st5)
      have again : ∀ {σ7 : St} {H7 : Hp} {s7 : Shared} {m' : Nat} {zs : List V}, Inv (cxComp X N scope (cellsC X scope (D + 1)) (D + 1) s H fp) ([] ++ pinsAt fp s5.heap) σ7 H7 s7 → m' < n → W (i + 1) m' zs H7 →
          ∃ m, m < n ∧ ∃ i ys H', Inv (cxComp X N scope (cellsC X scope (D + 1)) (D + 1) s H fp) [] (compSt k caps σ) H' s7 ∧ tn i s7.heap ∧ (∀ b ∈ fp, H' b = none) ∧ W i m ys H' := fun {σ7 H7 s7 m' zs} I7 hm w7 => by
        refine ⟨m', hm, i + 1, zs, H7, comp_again I S hfc (by rw [hD]; exact Nat.le_succ _) I7.unpinned, T.keep _ _ _ st5 fun b hb o e => (I7.pin (b, o) (List.mem_append_right _ (List.mem_append_right _ (mem_pinsAt hb e)))).1, fun b hb => ?_, w7⟩
        obtain ⟨o, e, d⟩ := T.obj _ _ st5 b hb
        exact (I7.pin (b, o) (List.mem_append_right _ (List.mem_append_right _ (mem_pinsAt hb e)))).2.1
      refine thn (hg _ _ _ _ _ _ s5 _ H5 x u _ I5' r5 (step x H5 y5)) fun _ s6 ⟨σ6, H6, I6, q6⟩ => ?_
      refine thn (ht _ _ _ _ _ _ s6 σ6 H6 _ I6 q6) fun b s7 ⟨H7, I7, q7⟩ => ?_
      cases b with
      | false =>
        rw [if_neg Bool.false_ne_true] at q7 ⊢
        obtain ⟨m', hm, w7⟩ := q7
        exact again I7 hm w7
      | true =>
        rw [if_pos rfl] at q7 ⊢
        refine thn (he _ _ _ _ _ _ s7 σ6 H7 _ I7 q7) fun y s8 ⟨yv, H8, I8, r8, hD8, hz8, m', hm, w8⟩ => ?_
        refine thn (mt_append (X := cxComp X N scope (cellsC X scope (D + 1)) (D + 1) s H fp) _ s8 σ6 H8 (.ref D) [yv] (.ref D) [y] (fun _ H9 => W (i + 1) m' (ys ++ [yv]) H9) I8 rfl (.cons r8 .nil) ⟨D, ys, yv, rfl, rfl, hD8, hz8, w8⟩) fun _ s9 ⟨_, H9, I9, _, w9⟩ => ?_
        exact again I9 hm w9
  exact codeAny_compStart_list loop (T.self _ 0 _ _ _ st1 loop)

theorem pe_comp {X : Cx} {elt iter tg : Expr} {ifs : List Expr} {scope : Scope} {pos : Pos} {N : List Str} {k : Nat} {caps : List Nat} {wi : TI} {g : TG} {tc : TT} {te : TE} (hc : X.calm = true) (S : CompScope X.env.scope X.N scope N k caps) (hi : PI X tg iter wi)
    (hg : ∀ cs C s H ex, PG (cxComp X N scope cs C s H ex) tg g) (ht : ∀ cs C s H ex, PF (cxComp X N scope cs C s H ex) ifs tc) (he : ∀ cs C s H ex, PE (cxComp X N scope cs C s H ex) elt te)
    (hs : ∀ x, foldedSetIterable iter X.env x = pure x := by intro _; rfl) : PE X (.ListComp elt [⟨tg, iter, ifs, 0⟩] scope pos) (tComp k caps wi g tc te) := by
  intro pins s σ H Q I h
  have hcl : closureFor scope X.env = pure (closOf X.env scope.names []) := closureFor_of fun x hx hfr => I.ok.has x.1 (S.free x hx hfr)
  rw [eval_ListComp]
  refine wpAny_comprehension_free (use := none) rfl hs hcl S.kind S.loc (thn (hi pins s σ H _ I h) fun v s1 h1 => thn h1 fun itv s2 h2 => ?_)
  obtain ⟨it, fp, tn, J, H2, e, I2, T, st2, f2, q⟩ := h2
  subst e
  refine comp_block (Q := Q) hc S I2 T st2 f2 hg ht he q ?_
  intro D C H' s' m _ _ hn hI _ _ hq
  exact ⟨m, hn, fun h' hs' => ⟨.ref D, H', hI h' hs', rfl, hq⟩⟩

/-- x = [e for ..], where the store comes ahead of the block's end -/
theorem ps_setC {X : Cx} {elt iter tg : Expr} {ifs : List Expr} {scope : Scope} {pos spos : Pos} {N : List Str} {k i : Nat} {x : Str} {pos' : Pos} {caps : List Nat} {wi : TI} {g : TG} {tc : TT} {te : TE} (hN : X.N.Nodup) (hi' : X.N[i]? = some x) (hx : Loc X.env.scope x)
    (hc : X.calm = true) (S : CompScope X.env.scope X.N scope N k caps) (hi : PI X tg iter wi)
    (hg : ∀ cs C s H ex, PG (cxComp X N scope cs C s H ex) tg g) (ht : ∀ cs C s H ex, PF (cxComp X N scope cs C s H ex) ifs tc) (he : ∀ cs C s H ex, PE (cxComp X N scope cs C s H ex) elt te)
    (hsw : swapsWith (.ListComp elt [⟨tg, iter, ifs, 0⟩] scope pos) (some (.Name x pos')) spos.line X.env = pure true := by rfl)
    (hs : ∀ x, foldedSetIterable iter X.env x = pure x := by intro _; rfl) (hfn : X.fn x = true ∨ X.env.scope.names.lookup x = some .local := by first | exact .inl rfl | exact .inr rfl | assumption) :
    PS X (.Assign [.Name x pos'] (.ListComp elt [⟨tg, iter, ifs, 0⟩] scope pos) spos) (tAsg (tComp k caps wi g tc te) (gName i)) := by
  intro pins s σ H D I h
  have hcl : closureFor scope X.env = pure (closOf X.env scope.names []) := closureFor_of fun x hx hfr => I.ok.has x.1 (S.free x hx hfr)
  rw [exec_Assign_Name_used _ _ _ _ hsw]
  refine wpAny_bind (wpAny_standAt (wpAny_bind ?_))
  show wpAny _ _ (do let _ ← comprehension (.ListComp elt [⟨tg, iter, ifs, 0⟩] scope pos) scope X.env _ (newList []) false (eval iter X.env) (some (assign (.Name x pos') X.env))) _ _ s
  refine wpAny_bind (wpAny_mono (wpAny_comprehension_free (use := some (assign (.Name x pos') X.env)) (Q := fun _ s' => SP X pins D .next s') rfl hs hcl S.kind S.loc
    (thn (hi pins s σ H _ I h) fun v s1 h1 => thn h1 fun itv s2 h2 => ?_)) (fun _ s' hq => wpAny_pure (wpAny_pure hq)) fun _ _ e => e)
  obtain ⟨it, fp, tn, J, H2, e, I2, T, st2, f2, q⟩ := h2
  subst e
  refine comp_block (Q := fun x H1 => gName i x σ H1 D.nx) hc S I2 T st2 f2 hg ht he q ?_
  intro D' C H' s' m hCL hCc hn hI hHC hCs hq
  have I3 := hI s'.heap (.refl ..)
  have I3' : Inv X pins σ H' s' := I3
  refine wpAny_assign_Name (store_ok2 I3' hN hi' hx (show RelV (V.ref D') (.ref D') from rfl) (fun s'' I4 ⟨a, hsb, ha⟩ => ?_) hfn)
  have hCa : C ≠ a := by
    rcases ha with ha | ha
    · rw [ha]; exact hCL
    · exact Ne.symm (hCc x a ha)
  refine ⟨m, hn.sameBut hsb hCa, fun h' hs' => ?_⟩
  refine ⟨_, H', ?_, hq⟩
  exact I4.turned (t' := s''.toks) (fun b o hb e => (hs'.2 b hb).trans e) hHC hCL (.inr (Nat.le_trans I2.sz hCs)) hCc fun p hp z => by
    have := Heap.lt_size (I2.pin p hp).1
    rw [z] at this
    exact absurd (Nat.lt_of_lt_of_le this hCs) (Nat.lt_irrefl _)
end L2

namespace L2
open PySem PySem.Spec PyProof.Rows
/-- a def of the text that may be called by its name: its promise, its address, how it binds -/
def Callee (P : Program) (w : World) (K : PySem.W.Frag) (mg : Str → Option Value) (base : Heap) (x : Str) (k : Nat) (ps : List Str) (sp : Sp) : Prop :=
  ∃ f fd, FnOk P w K mg base CX0 k f fd ps sp ∧ mg x = some (.ref f) ∧ PySem.W.keepIn K (.ref f) = true ∧ Binds K fd ps []
section
variable {X : Cx} {x : Str} {k : Nat} {ps : List Str} {sp : Sp} {e : Expr} {es : List Expr} {t : TA} {p pos : Pos}
theorem pe_fn (C : Callee X.prog X.w X.K X.mg X.base x k ps sp) (ha : PA X (e :: es) t) (hr : Room k X.A := by exact Room.mono (by assumption) (by decide)) (hg : Gl X x := by rfl) (hdb : (x == ("__debug__" : Str)) = false := by decide)
    (he : starEach (e :: es) X.env = (false, eval e X.env) :: starEach es X.env := by rfl) (hpl : (backTo pos (starEach es X.env)).any (·.1) = false := by rfl) : PE X (.Call (.Name x p) (e :: es) [] pos) (tCall sp [] E0 t) := by
  obtain ⟨f, fd, F, hm, hk, hb⟩ := C
  exact pe_call F hr hg hm hk hb .nil pass0 ha hdb he hpl
end
theorem pe_ty {X : Cx} {x : Str} {pos : Pos} (n : String) (hg : Gl X x) (hm : X.mg x = none) (hv : bootBuiltins x = some (.type n)) (hn : x ≠ "__name__" := by decide) (hd : (x == ("__debug__" : Str)) = false := by decide) : PE X (.Name x pos) (tC (.ty n)) := pe_bltn (v := .ty n) hg hm hv rfl hn hd
/-! ### comprehensions whose element leaves what was tracked -/
theorem Same.upd {H H' : Hp} {D : Addr} {o : HO} (h : Same H H') (hn : H D = none) : Same H (upd H' D o) := fun b u e => by
  rw [upd_ne (ne_of_none e hn)]; exact h b u e
/-- over a range, no test: the items are f 0, f 1, .. -/
theorem comp_range {k : Nat} {caps : List Nat} {g : TG} {te : TE} {σ : St} {H1 : Hp} {Q : Addr → Hp → Prop} {lo : Int} {n : Nat} (f : Nat → V) (hn : n ≤ sizeLine)
    (hs : ∀ (i : Nat) (H2 : Hp) (D : Addr) (R : VK), i < n → Same H1 H2 → H1 D = none → (∀ H3, Same H2 H3 → R (f i) H3) → g (.int (lo + i)) (compSt k caps σ) H2 fun σ4 H4 => te σ4 H4 R)
    (hd : ∀ (H2 : Hp) (D : Addr), Same H1 H2 → H1 D = none → H2 D = some (.lst ((List.range n).map f)) → Q D H2) :
    ∀ D, H1 D = none → ∃ W : Nat → Nat → List V → Hp → Prop, (∃ m, W 0 m [] (upd H1 D (.lst []))) ∧ ∀ i m ys H2, W i m ys H2 →
      ((Itr lo n).stop i H2 ∧ Q D H2) ∨ ((Itr lo n).go i H2 ∧ ∀ x H3, (Itr lo n).yld i H2 x H3 → g x (compSt k caps σ) H3 fun σ4 H4 => tYes σ4 H4 fun b H5 =>
        if b = true then te σ4 H5 fun y H6 => H6 D = some (.lst ys) ∧ ys.length < sizeLine ∧ ∃ m', m' < m ∧ W (i + 1) m' (ys ++ [y]) (upd H6 D (.lst (ys ++ [y]))) else ∃ m', m' < m ∧ W (i + 1) m' ys H5) := by
  intro D hD
  refine ⟨fun i m ys H2 => m = n - i ∧ i ≤ n ∧ ys = (List.range i).map f ∧ Same H1 H2 ∧ H2 D = some (.lst ys), ⟨n, rfl, Nat.zero_le _, rfl, (Same.refl _).upd hD, upd_same⟩, ?_⟩
  rintro i m ys H2 ⟨rfl, hi, rfl, s2, e2⟩
  by_cases hlt : i < n
  · refine .inr ⟨hlt, fun x H3 y => ?_⟩
    obtain ⟨rfl, rfl⟩ := y
    refine hs i H3 D _ hlt s2 hD fun H4 s4 => ?_
    refine ⟨s4 _ _ e2, by rw [List.length_map, List.length_range]; omega, n - (i + 1), by omega, rfl, hlt, ?_, (s2.trans s4).upd hD, upd_same⟩
    rw [List.range_succ, List.map_append]
    rfl
  · have e : i = n := by omega
    subst e
    exact .inl ⟨Nat.le_refl _, hd H2 D s2 hD e2⟩
end L2

namespace L2
open PySem PySem.Spec PyProof.Rows
/-- a cell of the script, 0 where there is none -/
def cellAt (ns : List Int) (k : Int) : Int := (ns[k.toNat]?).getD 0
theorem seq_setC {v : V} {i : Nat} {u : TS} {D : Ends} {σ : St} {H : Hp} (h : u D (σ.set i (some v)) H) : tSeq (tAsg (tC v) (gName i)) u D σ H := h
end L2
namespace L2
open PySem PySem.Spec PyProof.Rows
theorem same_new {H : Hp} {p : Addr} {o : HO} (h : H p = none) : Same H (upd H p o) := (Same.refl H).upd h
end L2

namespace L2
open PySem PySem.Spec PyProof.Rows
theorem g_in {i : Nat} {v : V} {σ : L2.St} {H : Hp} {N : L2.St → Hp → Prop} (h : N (σ.set i (some v)) H) : gName i v σ H N := h
section
variable {X : Cx}
theorem mr_append : MtR X "list.append" rAppend := mt_append
theorem mr_extend : MtR X "list.extend" rExtend := mt_extend
theorem mr_clear : MtR X "list.clear" rClear := mt_clear
end
end L2

namespace L2
open PySem PySem.Spec PyProof.Rows
section
variable {X : Cx}
end
end L2

namespace L2
open PySem PySem.Spec PyProof.Rows
/-! ### set(xs) of a list of texts, its length -/
section
variable {prog : Program} {w : World} {A : Around} {R : Result → Shared → Prop} {It : Addr} {fp wr : List Addr} {G : Array GenState → Array GenState → Prop} {n : Nat} {Pn : Nat → Value → Prop} {Sn : Nat → Shared → Prop}
end
section
variable {prog : Program} {w : World} {A : Around} {E : Value → Shared → Prop} {s : Shared}
end
end L2

namespace L2
open PySem PySem.Spec PyProof.Rows
section
variable {X : Cx}
end
end L2

namespace L2
open PySem PySem.Spec PyProof.Rows PySem.SeqAt

/-! ### deep data: what == tells apart -/
inductive Dt where
  | non | bl (b : Bool) | int (i : Int) | str (x : Str) | tup (l : List Dt) | lst (l : List Dt)
mutual
/-- v stands for d in the abstract heap H -/
inductive IsDt (K : PySem.W.Frag) (H : Hp) : V → Dt → Prop where
  | non : IsDt K H .non .non
  | bl (b : Bool) : IsDt K H (.bl b) (.bl b)
  | int (i : Int) : IsDt K H (.int i) (.int i)
  | str (x : Str) : IsDt K H (.str x) (.str x)
  | tup {a : Addr} {vs : List V} {ds : List Dt} (h : SqT K H a vs) (t : IsDts K H vs ds) : IsDt K H (.ref a) (.tup ds)
  | lst {a : Addr} {vs : List V} {ds : List Dt} (h : SqL K H a vs) (t : IsDts K H vs ds) : IsDt K H (.ref a) (.lst ds)
inductive IsDts (K : PySem.W.Frag) (H : Hp) : List V → List Dt → Prop where
  | nil : IsDts K H [] []
  | cons {v : V} {d : Dt} {vs : List V} {ds : List Dt} (h : IsDt K H v d) (t : IsDts K H vs ds) : IsDts K H (v :: vs) (d :: ds)
end
theorem IsDts.length {K : PySem.W.Frag} {H : Hp} : ∀ {vs : List V} {ds : List Dt}, IsDts K H vs ds → vs.length = ds.length
  | _, _, .nil => rfl
  | _, _, .cons _ t => congrArg (· + 1) t.length
theorem IsDts.get {K : PySem.W.Frag} {H : Hp} : ∀ {vs : List V} {ds : List Dt} {i : Nat} {v : V}, IsDts K H vs ds → vs[i]? = some v → ∃ d, ds[i]? = some d ∧ IsDt K H v d
  | _, _, _, _, .nil, e => by simp at e
  | _, _, 0, _, .cons h _, e => by simp at e; subst e; exact ⟨_, rfl, h⟩
  | _, _, i + 1, v, .cons _ t, e => by
    obtain ⟨d, h1, h2⟩ := IsDts.get (i := i) (v := v) t (by simpa using e)
    exact ⟨d, by simpa using h1, h2⟩
theorem IsDts.get' {K : PySem.W.Frag} {H : Hp} : ∀ {vs : List V} {ds : List Dt} {i : Nat} {d : Dt}, IsDts K H vs ds → ds[i]? = some d → ∃ v, vs[i]? = some v ∧ IsDt K H v d
  | _, _, _, _, .nil, e => by simp at e
  | _, _, 0, _, .cons h _, e => by simp at e; subst e; exact ⟨_, rfl, h⟩
  | _, _, i + 1, v, .cons _ t, e => by
    obtain ⟨d, h1, h2⟩ := IsDts.get' (i := i) (d := v) t (by simpa using e)
    exact ⟨d, by simpa using h1, h2⟩
section
variable {X : Cx} {pins : List (Addr × Obj)} {σ : St} {H : Hp} {s : Shared}
theorem Inv.not_both (I : Inv X pins σ H s) {a : Addr} {xs ys : List V} (h : SqL X.K H a xs) (h' : SqT X.K H a ys) : False := by
  obtain ⟨_, _, ⟨o, n, e, c, _⟩, _⟩ := I.list h
  obtain ⟨_, _, ⟨o', e', c', _⟩, _⟩ := I.tuple h'
  rw [e] at e'; cases e'
  rw [c] at c'
  exact absurd c' (by decide)
mutual
theorem IsDt.inj (I : Inv X pins σ H s) {v : V} {d e : Dt} (h : IsDt X.K H v d) (h' : IsDt X.K H v e) : d = e := by
  cases h with
  | non => cases h'; rfl
  | bl _ => cases h'; rfl
  | int _ => cases h'; rfl
  | str _ => cases h'; rfl
  | tup h t => cases h' with
    | tup h' t' =>
      have e := I.tuple_inj h h'
      subst e
      rw [IsDts.inj I t t']
    | lst h' _ => exact (I.not_both h' h).elim
  | lst h t => cases h' with
    | lst h' t' =>
      have e := I.list_inj h h'
      subst e
      rw [IsDts.inj I t t']
    | tup h' _ => exact (I.not_both h h').elim
theorem IsDts.inj (I : Inv X pins σ H s) {vs : List V} {ds es : List Dt} (h : IsDts X.K H vs ds) (h' : IsDts X.K H vs es) : ds = es := by
  cases h with
  | nil => cases h'; rfl
  | cons h t => cases h' with
    | cons h' t' => rw [IsDt.inj I h h', IsDts.inj I t t']
end
end
/-! ### comparable to a depth -/
def Dt.kd : Dt → Nat
  | .non => 0 | .bl _ => 1 | .int _ => 2 | .str _ => 3 | .tup _ => 4 | .lst _ => 5
/-- of unlike kinds, and not a truth and an int -/
def Apart (a b : Nat) : Bool := a != b && !(a == 1 && b == 2) && !(a == 2 && b == 1)
mutual
inductive Cmp : Nat → Dt → Dt → Prop where
  | non {n : Nat} : Cmp n .non .non
  | bl {n : Nat} (a b : Bool) : Cmp n (.bl a) (.bl b)
  | int {n : Nat} (a b : Int) : Cmp n (.int a) (.int b)
  | str {n : Nat} (a b : Str) : Cmp n (.str a) (.str b)
  | tup {n : Nat} {ds es : List Dt} (t : Cmps n ds es) : Cmp (n + 1) (.tup ds) (.tup es)
  | lst {n : Nat} {ds es : List Dt} (t : Cmps n ds es) : Cmp (n + 1) (.lst ds) (.lst es)
  | apart {n : Nat} {d e : Dt} (h : Apart d.kd e.kd = true) : Cmp (n + 1) d e
inductive Cmps : Nat → List Dt → List Dt → Prop where
  | nil {n : Nat} (es : List Dt) : Cmps n [] es
  | nil' {n : Nat} (ds : List Dt) : Cmps n ds []
  | cons {n : Nat} {d e : Dt} {ds es : List Dt} (h : Cmp n d e) (t : Cmps n ds es) : Cmps n (d :: ds) (e :: es)
end
theorem Cmps.of {n : Nat} : ∀ {ds es : List Dt}, (∀ d ∈ ds, ∀ e ∈ es, Cmp n d e) → Cmps n ds es
  | [], es, _ => .nil es
  | d :: ds, [], _ => .nil' _
  | d :: ds, e :: es, h => .cons (h d (by simp) e (by simp)) (Cmps.of fun x hx y hy => h x (by simp [hx]) y (by simp [hy]))
open Classical in
/-- the truth of a proposition -/
noncomputable def dec (p : Prop) : Bool := decide p
theorem dec_true {p : Prop} (h : p) : dec p = true := @decide_eq_true p (Classical.propDecidable p) h
theorem dec_false {p : Prop} (h : ¬ p) : dec p = false := @decide_eq_false p (Classical.propDecidable p) h
theorem dec_iff {p : Prop} : dec p = true ↔ p := ⟨fun h => @of_decide_eq_true p (Classical.propDecidable p) h, dec_true⟩
theorem dec_congr {p q : Prop} (h : p ↔ q) : dec p = dec q := by rw [propext h]
theorem dec_beq {α : Type} [BEq α] [LawfulBEq α] {a b : α} {p : Prop} (h : p ↔ a = b) : (a == b) = dec p := by
  by_cases e : a = b
  · subst e; rw [dec_true (h.mpr rfl)]; exact beq_self_eq_true _
  · rw [dec_false fun q => e (h.mp q)]; exact beq_false_of_ne e
theorem list_ext_iff {ds es : List Dt} (hl : ds.length = es.length) (h : ∀ i, i < ds.length → ds[i]? = es[i]?) : ds = es := List.ext_getElem? fun i => by
  by_cases hi : i < ds.length
  · exact h i hi
  · rw [List.getElem?_eq_none (by omega), List.getElem?_eq_none (by omega)]
section
variable {X : Cx} {pins : List (Addr × Obj)} {σ : St} {H : Hp} {s : Shared}
theorem in1_units (A : Around) : A.in1.units = A.units + 1 := rfl
/-- items compared one by one -/
theorem eq_items (I : Inv X pins σ H s) {A : Around} {vs us : List V} {ds es : List Dt} {ivs ius : List Value} (rv : Vals vs ivs) (ru : Vals us ius) (tv : IsDts X.K H vs ds) (tu : IsDts X.K H us es)
    (hc : ∀ (i : Nat) (d e : Dt) (v u : V) (x y : Value), ds[i]? = some d → es[i]? = some e → RelV v x → RelV u y → IsDt X.K H v d → IsDt X.K H u e → EqAt A s x y (dec (d = e))) :
    ∀ j (h1 : j < ivs.toArray.size) (h2 : j < ius.toArray.size), EqAt A s ivs.toArray[j] ius.toArray[j] (dec (ds[j]? = es[j]?)) := by
  intro j h1 h2
  have l1 := rv.length
  have l2 := ru.length
  have h1' : j < ivs.length := by simpa using h1
  have h2' : j < ius.length := by simpa using h2
  obtain ⟨x, hx, rx⟩ := rv.get (i := j) (x := vs[j]'(by omega)) (List.getElem?_eq_getElem (by omega))
  obtain ⟨y, hy, ry⟩ := ru.get (i := j) (x := us[j]'(by omega)) (List.getElem?_eq_getElem (by omega))
  obtain ⟨d, hd, td⟩ := tv.get (i := j) (v := vs[j]'(by omega)) (List.getElem?_eq_getElem (by omega))
  obtain ⟨e, he, te⟩ := tu.get (i := j) (v := us[j]'(by omega)) (List.getElem?_eq_getElem (by omega))
  have ex : ivs.toArray[j] = x := by
    rw [List.getElem?_eq_getElem h1'] at hx
    simpa using hx
  have ey : ius.toArray[j] = y := by
    rw [List.getElem?_eq_getElem h2'] at hy
    simpa using hy
  rw [ex, ey, hd, he]
  have := hc j d e _ _ x y hd he rx ry td te
  rw [dec_congr (p := some d = some e) (q := d = e) (by simp)]
  exact this
theorem range_dec {ds es : List Dt} {n : Nat} (hn : n = ds.length) (hl : ds.length = es.length) : (List.range n).all (fun j => dec (ds[j]? = es[j]?)) = dec (ds = es) := by
  subst hn
  by_cases h : ds = es
  · subst h
    rw [dec_true rfl, List.all_eq_true]
    exact fun i _ => dec_true rfl
  · rw [dec_false h, Bool.eq_false_iff]
    intro q
    rw [List.all_eq_true] at q
    exact h (list_ext_iff hl fun i hi => dec_iff.mp (q i (List.mem_range.mpr hi)))
theorem apart_all (I : Inv X pins σ H s) {d e : Dt} {v u : V} {x y : Value} {A : Around} (h : Apart d.kd e.kd = true) (td : IsDt X.K H v d) (te : IsDt X.K H u e) (rx : RelV v x) (ry : RelV u y) (hu : A.units < cLine) : EqAt A s x y false ∧ RcAt A s x y false ∧ RcNeAt A s x y true := by
  cases td with
  | non =>
    cases rx
    cases te with
    | non => exact absurd h (by simp [Apart, Dt.kd])
    | bl b =>
      cases ry
      exact ⟨EqAt.none_bool _, RcAt.none_bool _, RcNeAt.none_bool _⟩
    | int b =>
      obtain ⟨t2, rfl⟩ := ry
      exact ⟨EqAt.none_int _ _, RcAt.none_int _ _, RcNeAt.none_int _ _⟩
    | str b =>
      obtain ⟨t2, rfl⟩ := ry
      exact ⟨EqAt.none_str _ _, RcAt.none_str _ _, RcNeAt.none_str _ _⟩
    | tup h2 t2 =>
      cases ry
      obtain ⟨_, _, p2, _⟩ := I.tuple h2
      exact ⟨EqAt.none_tuple  p2 hu, RcAt.none_tuple  p2 hu, RcNeAt.none_tuple  p2 hu⟩
    | lst h2 t2 =>
      cases ry
      obtain ⟨_, _, p2, _⟩ := I.list h2
      have p2 := p2.isList
      exact ⟨EqAt.none_list  p2 hu, RcAt.none_list  p2 hu, RcNeAt.none_list  p2 hu⟩
  | bl a =>
    cases rx
    cases te with
    | non =>
      cases ry
      exact ⟨EqAt.bool_none _, RcAt.bool_none _, RcNeAt.bool_none _⟩
    | bl b => exact absurd h (by simp [Apart, Dt.kd])
    | int b => exact absurd h (by simp [Apart, Dt.kd])
    | str b =>
      obtain ⟨t2, rfl⟩ := ry
      exact ⟨EqAt.bool_str _ _ _, RcAt.bool_str _ _ _, RcNeAt.bool_str _ _ _⟩
    | tup h2 t2 =>
      cases ry
      obtain ⟨_, _, p2, _⟩ := I.tuple h2
      exact ⟨EqAt.bool_tuple _ p2 hu, RcAt.bool_tuple _ p2 hu, RcNeAt.bool_tuple _ p2 hu⟩
    | lst h2 t2 =>
      cases ry
      obtain ⟨_, _, p2, _⟩ := I.list h2
      have p2 := p2.isList
      exact ⟨EqAt.bool_list _ p2 hu, RcAt.bool_list _ p2 hu, RcNeAt.bool_list _ p2 hu⟩
  | int a =>
    obtain ⟨t, rfl⟩ := rx
    cases te with
    | non =>
      cases ry
      exact ⟨EqAt.int_none _ _, RcAt.int_none _ _, RcNeAt.int_none _ _⟩
    | bl b => exact absurd h (by simp [Apart, Dt.kd])
    | int b => exact absurd h (by simp [Apart, Dt.kd])
    | str b =>
      obtain ⟨t2, rfl⟩ := ry
      exact ⟨EqAt.int_str _ _ _ _, RcAt.int_str _ _ _ _, RcNeAt.int_str _ _ _ _⟩
    | tup h2 t2 =>
      cases ry
      obtain ⟨_, _, p2, _⟩ := I.tuple h2
      exact ⟨EqAt.int_tuple _ _ p2 hu, RcAt.int_tuple _ _ p2 hu, RcNeAt.int_tuple _ _ p2 hu⟩
    | lst h2 t2 =>
      cases ry
      obtain ⟨_, _, p2, _⟩ := I.list h2
      have p2 := p2.isList
      exact ⟨EqAt.int_list _ _ p2 hu, RcAt.int_list _ _ p2 hu, RcNeAt.int_list _ _ p2 hu⟩
  | str a =>
    obtain ⟨t, rfl⟩ := rx
    cases te with
    | non =>
      cases ry
      exact ⟨EqAt.str_none _ _, RcAt.str_none _ _, RcNeAt.str_none _ _⟩
    | bl b =>
      cases ry
      exact ⟨EqAt.str_bool _ _ _, RcAt.str_bool _ _ _, RcNeAt.str_bool _ _ _⟩
    | int b =>
      obtain ⟨t2, rfl⟩ := ry
      exact ⟨EqAt.str_int _ _ _ _, RcAt.str_int _ _ _ _, RcNeAt.str_int _ _ _ _⟩
    | str b => exact absurd h (by simp [Apart, Dt.kd])
    | tup h2 t2 =>
      cases ry
      obtain ⟨_, _, p2, _⟩ := I.tuple h2
      exact ⟨EqAt.str_tuple _ _ p2 hu, RcAt.str_tuple _ _ p2 hu, RcNeAt.str_tuple _ _ p2 hu⟩
    | lst h2 t2 =>
      cases ry
      obtain ⟨_, _, p2, _⟩ := I.list h2
      have p2 := p2.isList
      exact ⟨EqAt.str_list _ _ p2 hu, RcAt.str_list _ _ p2 hu, RcNeAt.str_list _ _ p2 hu⟩
  | tup h1 t1 =>
    cases rx
    obtain ⟨_, _, p, _⟩ := I.tuple h1
    cases te with
    | non =>
      cases ry
      exact ⟨EqAt.tuple_none  p hu, RcAt.tuple_none  p hu, RcNeAt.tuple_none  p hu⟩
    | bl b =>
      cases ry
      exact ⟨EqAt.tuple_bool _ p hu, RcAt.tuple_bool _ p hu, RcNeAt.tuple_bool _ p hu⟩
    | int b =>
      obtain ⟨t2, rfl⟩ := ry
      exact ⟨EqAt.tuple_int _ _ p hu, RcAt.tuple_int _ _ p hu, RcNeAt.tuple_int _ _ p hu⟩
    | str b =>
      obtain ⟨t2, rfl⟩ := ry
      exact ⟨EqAt.tuple_str _ _ p hu, RcAt.tuple_str _ _ p hu, RcNeAt.tuple_str _ _ p hu⟩
    | tup h2 t2 => exact absurd h (by simp [Apart, Dt.kd])
    | lst h2 t2 =>
      cases ry
      obtain ⟨_, _, p2, _⟩ := I.list h2
      have p2 := p2.isList
      exact ⟨EqAt.tuple_list p p2 hu, RcAt.tuple_list p p2 hu, RcNeAt.tuple_list p p2 hu⟩
  | lst h1 t1 =>
    cases rx
    obtain ⟨_, _, p, _⟩ := I.list h1
    have p := p.isList
    cases te with
    | non =>
      cases ry
      exact ⟨EqAt.list_none  p hu, RcAt.list_none  p hu, RcNeAt.list_none  p hu⟩
    | bl b =>
      cases ry
      exact ⟨EqAt.list_bool _ p hu, RcAt.list_bool _ p hu, RcNeAt.list_bool _ p hu⟩
    | int b =>
      obtain ⟨t2, rfl⟩ := ry
      exact ⟨EqAt.list_int _ _ p hu, RcAt.list_int _ _ p hu, RcNeAt.list_int _ _ p hu⟩
    | str b =>
      obtain ⟨t2, rfl⟩ := ry
      exact ⟨EqAt.list_str _ _ p hu, RcAt.list_str _ _ p hu, RcNeAt.list_str _ _ p hu⟩
    | tup h2 t2 =>
      cases ry
      obtain ⟨_, _, p2, _⟩ := I.tuple h2
      exact ⟨EqAt.list_tuple p p2 hu, RcAt.list_tuple p p2 hu, RcNeAt.list_tuple p p2 hu⟩
    | lst h2 t2 => exact absurd h (by simp [Apart, Dt.kd])
theorem eq_of_rc (I : Inv X pins σ H s) {d e : Dt} {v u : V} {x y : Value} {A : Around} (td : IsDt X.K H v d) (te : IsDt X.K H u e) (rx : RelV v x) (ry : RelV u y) (h : RcAt A s x y (dec (d = e))) : EqAt A s x y (dec (d = e)) := by
  by_cases hxy : x = y
  · subst hxy
    have e1 := rx.inj ry
    subst e1
    rw [dec_true (IsDt.inj I td te)]
    exact EqAt.same _
  · intro prog w E Q hq
    unfold eqBool
    refine wpAny_holding ?_
    refine wpAny_ite_split (fun hab => absurd (eq_of_beq hab) hxy) (fun _ => ?_)
    cases td with
    | non => cases rx; exact wpAny_bind (h prog w E _ (wpAny_truthy_bool hq))
    | bl a => cases rx; exact wpAny_bind (h prog w E _ (wpAny_truthy_bool hq))
    | int a => obtain ⟨t, rfl⟩ := rx; exact wpAny_bind (h prog w E _ (wpAny_truthy_bool hq))
    | str a => obtain ⟨t, rfl⟩ := rx; exact wpAny_bind (h prog w E _ (wpAny_truthy_bool hq))
    | tup _ _ => cases rx; exact wpAny_bind (h prog w E _ (wpAny_truthy_bool hq))
    | lst _ _ => cases rx; exact wpAny_bind (h prog w E _ (wpAny_truthy_bool hq))
theorem kd_ne {d e : Dt} (h : Apart d.kd e.kd = true) : ¬ d = e := fun z => by
  subst z
  simp [Apart] at h
mutual
theorem rcD (I : Inv X pins σ H s) {n : Nat} {d e : Dt} {v u : V} {x y : Value} {A : Around} (c : Cmp n d e) (td : IsDt X.K H v d) (te : IsDt X.K H u e) (rx : RelV v x) (ry : RelV u y) (hu : A.units + n < cLine) : RcAt A s x y (dec (d = e)) ∧ RcNeAt A s x y (!dec (d = e)) := by
  cases c with
  | non =>
    cases td; cases te
    cases rx; cases ry
    rw [dec_true rfl]
    exact ⟨RcAt.none_none, RcNeAt.none_none⟩
  | bl a b =>
    cases td; cases te
    cases rx; cases ry
    rw [← dec_beq (a := a) (b := b) (by simp)]
    exact ⟨RcAt.bool_bool a b, RcNeAt.bool_bool a b⟩
  | int a b =>
    cases td; cases te
    obtain ⟨t, rfl⟩ := rx
    obtain ⟨t', rfl⟩ := ry
    rw [← dec_beq (a := a) (b := b) (by simp)]
    exact ⟨RcAt.int_int a t b t', RcNeAt.int_int a t b t'⟩
  | str a b =>
    cases td; cases te
    obtain ⟨t, rfl⟩ := rx
    obtain ⟨t', rfl⟩ := ry
    rw [← dec_beq (a := a) (b := b) (by simp)]
    exact ⟨RcAt.str_str a t b t', RcNeAt.str_str a t b t'⟩
  | @tup n ds es c =>
    cases td; cases te
    rename_i a vs h t b us h' t'
    cases rx; cases ry
    obtain ⟨its, r, p, _⟩ := I.tuple h
    obtain ⟨its', r', p', _⟩ := I.tuple h'
    have l1 := r.length
    have l2 := r'.length
    have l3 := t.length
    have l4 := t'.length
    have he := eq_items (A := A.in1) I r r' t t' (eqDs I c (by rw [in1_units]; omega))
    have e : dec (Dt.tup ds = Dt.tup es) = ((List.range (min its.toArray.size its'.toArray.size)).all (fun j => dec (ds[j]? = es[j]?)) && its.toArray.size == its'.toArray.size) := by
      rw [dec_congr (p := Dt.tup ds = Dt.tup es) (q := ds = es) (by simp)]
      simp only [List.size_toArray]
      by_cases hl : ds.length = es.length
      · rw [show (its.length == its'.length) = true from beq_iff_eq.mpr (by omega), Bool.and_true, range_dec (by omega) hl]
      · rw [show (its.length == its'.length) = false from beq_false_of_ne (by omega), Bool.and_false, dec_false fun z => hl (by rw [z])]
    rw [e]
    exact ⟨RcAt.tuples (A := A) p p' (by omega) he, RcNeAt.tuples (A := A) p p' (by omega) he⟩
  | @lst n ds es c =>
    cases td; cases te
    rename_i a vs h t b us h' t'
    cases rx; cases ry
    obtain ⟨its, r, p, _⟩ := I.list h
    obtain ⟨its', r', p', _⟩ := I.list h'
    have l1 := r.length
    have l2 := r'.length
    have l3 := t.length
    have l4 := t'.length
    by_cases hl : ds.length = es.length
    · have he := eq_items (A := A.in1) I r r' t t' (eqDs I c (by rw [in1_units]; omega))
      rw [dec_congr (p := Dt.lst ds = Dt.lst es) (q := ds = es) (by simp), ← range_dec (n := its.toArray.size) (by simp only [List.size_toArray]; omega) hl]
      exact ⟨RcAt.lists (A := A) p.isList p'.isList (by simp only [List.size_toArray]; omega) (by omega) he, RcNeAt.lists (A := A) p.isList p'.isList (by simp only [List.size_toArray]; omega) (by omega) he⟩
    · rw [dec_false (show ¬ Dt.lst ds = Dt.lst es from fun z => hl (by cases z; rfl))]
      have hz : (its.toArray.size != its'.toArray.size) = true := by simp only [List.size_toArray]; rw [bne_iff_ne]; omega
      exact ⟨RcAt.lists_lengths p.isList p'.isList hz (by omega), RcNeAt.lists_lengths p.isList p'.isList hz (by omega)⟩
  | apart h =>
    obtain ⟨_, h1, h2⟩ := apart_all (A := A) I h td te rx ry (by omega)
    rw [dec_false (kd_ne h)]
    exact ⟨h1, h2⟩
theorem eqDs (I : Inv X pins σ H s) {n : Nat} {ds es : List Dt} {A : Around} (c : Cmps n ds es) (hu : A.units + n < cLine)
    (i : Nat) (d e : Dt) (v u : V) (x y : Value) (h : ds[i]? = some d) (h' : es[i]? = some e) (rx : RelV v x) (ry : RelV u y) (td : IsDt X.K H v d) (te : IsDt X.K H u e) : EqAt A s x y (dec (d = e)) := by
  cases c with
  | nil => simp at h
  | nil' => simp at h'
  | cons c t => cases i with
    | zero =>
      simp at h h'; subst h; subst h'
      have hrc := rcD (A := A) I c td te rx ry hu
      exact eq_of_rc I td te rx ry hrc.1
    | succ i => exact eqDs I t hu i d e v u x y (by simpa using h) (by simpa using h') rx ry td te
end
theorem eqD (I : Inv X pins σ H s) {n : Nat} {d e : Dt} {v u : V} {x y : Value} {A : Around} (c : Cmp n d e) (td : IsDt X.K H v d) (te : IsDt X.K H u e) (rx : RelV v x) (ry : RelV u y) (hu : A.units + n < cLine) : EqAt A s x y (dec (d = e)) :=
  eq_of_rc I td te rx ry (rcD I c td te rx ry hu).1
end
section
variable {X : Cx}
/-- == and != of deep data; in, not in a list of them -/
def rEqD (K : PySem.W.Frag) : R2 := fun x y H Q => ∃ n d e, Cmp n d e ∧ n ≤ 60 ∧ IsDt K H x d ∧ IsDt K H y e ∧ Q (.bl (dec (d = e))) H
theorem op_eqD (hu : X.A.units + 64 < cLine) : OpR X (compareOp .Eq) (rEqD X.K) := by
  intro pins s σ H x y v u Q I rx ry h
  obtain ⟨n, d, e, c, hn, td, te, q⟩ := h
  exact (rcD (A := X.A) I c td te rx ry (by omega)).1 _ _ _ _ ⟨.bl _, H, I, rfl, q⟩
def rNotInD (K : PySem.W.Frag) : R2 := fun x y H Q => ∃ n d ds a vs, (∀ e ∈ ds, Cmp n e d) ∧ n ≤ 60 ∧ IsDt K H x d ∧ y = .ref a ∧ SqL K H a vs ∧ IsDts K H vs ds ∧ Q (.bl (!dec (d ∈ ds))) H
theorem in_items {pins : List (Addr × Obj)} {σ : St} {H : Hp} {s : Shared} (I : Inv X pins σ H s) {n : Nat} {d : Dt} {ds : List Dt} {vs : List V} {its : List Value} {v : V} {x : Value} {A : Around} (r : Vals vs its) (t : IsDts X.K H vs ds) (hc : ∀ e ∈ ds, Cmp n e d) (td : IsDt X.K H v d) (rx : RelV v x) (hu : A.units + n < cLine) :
    (∀ y, y ∈ its.toArray → EqAt A s y x (dec (∃ u, RelV u y ∧ IsDt X.K H u d))) ∧ its.toArray.any (fun y => dec (∃ u, RelV u y ∧ IsDt X.K H u d)) = dec (d ∈ ds) := by
  have ll := r.length
  have lt := t.length
  have one : ∀ y, y ∈ its → ∃ e ∈ ds, ∃ u, RelV u y ∧ IsDt X.K H u e := fun y hy => by
    obtain ⟨i, hi, e⟩ := List.mem_iff_getElem.mp hy
    obtain ⟨y', hy', ry⟩ := r.get (i := i) (x := vs[i]'(by omega)) (List.getElem?_eq_getElem (by omega))
    obtain ⟨e', he, te⟩ := t.get (i := i) (v := vs[i]'(by omega)) (List.getElem?_eq_getElem (by omega))
    rw [List.getElem?_eq_getElem hi, e] at hy'
    cases hy'
    exact ⟨e', List.mem_of_getElem? he, _, ry, te⟩
  refine ⟨fun y hy => ?_, ?_⟩
  · obtain ⟨e, he, u, ru, te⟩ := one y (by simpa using hy)
    have := eqD (A := A) I (hc e he) te td ru rx hu
    rw [dec_congr (p := ∃ u, RelV u y ∧ IsDt X.K H u d) (q := e = d) ⟨fun ⟨u', ru', te'⟩ => by
      have e1 := ru.inj ru'
      subst e1
      exact IsDt.inj I te te', fun z => ⟨u, ru, by rw [← z]; exact te⟩⟩]
    exact this
  · by_cases hm : d ∈ ds
    · rw [dec_true hm, Array.any_eq_true]
      obtain ⟨i, hi, e⟩ := List.mem_iff_getElem.mp hm
      obtain ⟨u, hu', te⟩ := t.get' (i := i) (d := d) (by rw [List.getElem?_eq_getElem hi, e])
      obtain ⟨y, hy, ry⟩ := r.get hu'
      have hi' : i < its.length := (List.getElem?_eq_some_iff.mp hy).1
      refine ⟨i, by simpa using hi', ?_⟩
      have : its.toArray[i]'(by simpa using hi') = y := by
        rw [List.getElem?_eq_getElem hi'] at hy
        simpa using hy
      rw [this]
      exact dec_true ⟨u, ry, te⟩
    · rw [dec_false hm, Bool.eq_false_iff]
      intro q
      obtain ⟨i, hi, q⟩ := Array.any_eq_true.mp q
      obtain ⟨u, ru, te⟩ := dec_iff.mp q
      obtain ⟨e, he, u', ru', te'⟩ := one (its.toArray[i]) (by simp)
      have e1 := ru.inj ru'
      subst e1
      have e2 := IsDt.inj I te te'
      subst e2
      exact hm he
theorem op_notinD (hu : X.A.units + 64 < cLine) : OpR X (compareOp .NotIn) (rNotInD X.K) := by
  intro pins s σ H x y v u Q I rx ry h
  obtain ⟨n, d, ds, a, vs, hc, hn, td, rfl, hq, t, q⟩ := h
  cases ry
  obtain ⟨its, r, p, _⟩ := I.list hq
  obtain ⟨h1, h2⟩ := in_items (A := X.A.in1) I r t hc td rx (by rw [in1_units]; omega)
  exact notIn_listAt _ p.isList h1 (by rw [h2]; exact ⟨.bl _, H, I, rfl, q⟩)
end
end L2

namespace Ord
variable {α : Type} [DecidableEq α]









theorem nodup_snoc {l : List α} {x : α} (h : l.Nodup) (hx : x ∉ l) : (l ++ [x]).Nodup := by
  rw [List.nodup_append]
  refine ⟨h, by simp, ?_⟩
  intro a ha b hb e
  rw [List.mem_singleton] at hb
  subst hb; subst e
  exact hx ha






theorem nodup_sub_length {l m : List α} (h : l.Nodup) (hs : ∀ x ∈ l, x ∈ m) : l.length ≤ m.length := by
  induction l generalizing m with
  | nil => simp
  | cons x r ih =>
    have hx := hs x (by simp)
    have hn := (List.nodup_cons.mp h)
    have : r.length ≤ (m.erase x).length := ih hn.2 (fun y hy => by
      have hy' := hs y (by simp [hy])
      have ne : y ≠ x := fun e => hn.1 (e ▸ hy)
      exact (List.mem_erase_of_ne ne).mpr hy')
    rw [List.length_erase_of_mem hx] at this
    have hp : 0 < m.length := List.length_pos_of_mem hx
    simp; omega


/-! ### the loop by layers: layer = those whose worse labels were not looked at yet -/

/-! ### a chain back along came_from -/
end Ord

namespace War
end War

namespace Ord
variable {α : Type} [DecidableEq α]
end Ord

namespace L2
open PySem PySem.Spec PyProof.Rows Ord
/-! ### pairs of texts, dicts of texts -/
theorem two_le : ([] : List V).length + 1 + 1 ≤ sizeLine := by decide
end L2
namespace L2
open PySem PySem.Spec PyProof.Rows Ord
theorem IsDts.of_get {K : PySem.W.Frag} {H : Hp} : ∀ {vs : List V} {ds : List Dt}, vs.length = ds.length → (∀ (n : Nat) v d, vs[n]? = some v → ds[n]? = some d → IsDt K H v d) → IsDts K H vs ds
  | [], [], _, _ => .nil
  | v :: vs, d :: ds, hl, h => .cons (h 0 v d rfl rfl) (IsDts.of_get (by simpa using hl) fun n x y e1 e2 => h (n + 1) x y (by simpa using e1) (by simpa using e2))
end L2

namespace L2
open PySem PySem.Spec PyProof.Rows
/-- over a list that stays, no test, by an invariant of the items so far -/
theorem comp_listI {K : PySem.W.Frag} {a : Addr} {xs : List V} {k : Nat} {caps : List Nat} {g : TG} {te : TE} {σ : St} {H1 : Hp} {Q : Addr → Hp → Prop} (Pv : Addr → Nat → List V → Hp → Prop)
    (h0 : ∀ D, H1 D = none → Pv D 0 [] (upd H1 D (.lst []))) (hq : ∀ D i ys H2, Pv D i ys H2 → SqL K H2 a xs)
    (hs : ∀ D i x ys H2 (R : VK), H1 D = none → xs[i]? = some x → Pv D i ys H2 → (∀ y H6, H6 D = some (.lst ys) → ys.length < sizeLine → Pv D (i + 1) (ys ++ [y]) (upd H6 D (.lst (ys ++ [y]))) → R y H6) → g x (compSt k caps σ) H2 fun σ4 H4 => te σ4 H4 R)
    (hd : ∀ D ys H2, H1 D = none → Pv D xs.length ys H2 → Q D H2) :
    ∀ D, H1 D = none → ∃ W : Nat → Nat → List V → Hp → Prop, (∃ m, W 0 m [] (upd H1 D (.lst []))) ∧ ∀ i m ys H2, W i m ys H2 →
      ((Itl K a).stop i H2 ∧ Q D H2) ∨ ((Itl K a).go i H2 ∧ ∀ x H3, (Itl K a).yld i H2 x H3 → g x (compSt k caps σ) H3 fun σ4 H4 => tYes σ4 H4 fun b H5 =>
        if b = true then te σ4 H5 fun y H6 => H6 D = some (.lst ys) ∧ ys.length < sizeLine ∧ ∃ m', m' < m ∧ W (i + 1) m' (ys ++ [y]) (upd H6 D (.lst (ys ++ [y]))) else ∃ m', m' < m ∧ W (i + 1) m' ys H5) := by
  intro D hD
  refine ⟨fun i m ys H2 => m = xs.length - i ∧ i ≤ xs.length ∧ Pv D i ys H2, ⟨xs.length, rfl, Nat.zero_le _, h0 D hD⟩, ?_⟩
  rintro i m ys H2 ⟨rfl, hi, p⟩
  have q2 := hq D i ys H2 p
  by_cases hlt : i < xs.length
  · refine .inr ⟨⟨xs, xs[i], q2, by simp [hlt]⟩, fun x H3 y => ?_⟩
    obtain ⟨rfl, y⟩ := y
    have hx := y xs q2
    refine hs D i x ys H3 _ hD hx p fun v H6 e6 hz p6 => ?_
    exact ⟨e6, hz, xs.length - (i + 1), by omega, rfl, hlt, p6⟩
  · have e : i = xs.length := by omega
    subst e
    exact .inl ⟨⟨xs, q2, Nat.le_refl _⟩, hd D ys H2 hD p⟩
end L2

namespace L2
open PySem PySem.Spec PyProof.Rows
theorem ObjOk.ex {P : Program} {w : World} {H : Hp} {h : Heap} {a : Addr} {o : HO} (x : ObjOk P w H h a o) : ∃ u, h.get? a = some u := by
  cases o with
  | lst xs => obtain ⟨_, _, _, _, e⟩ := x; exact ⟨_, e⟩
  | tup xs => obtain ⟨_, _, _, u, e, _⟩ := x; exact ⟨u, e⟩
  | dK kvs => obtain ⟨_, _, _, _, u, _, _, e, _⟩ := x; exact ⟨u, e⟩
  | dT kvs => obtain ⟨_, _, _, _, u, _, _, e, _⟩ := x; exact ⟨u, e⟩
  | set S n => obtain ⟨u, _, _, _, e, _⟩ := x; exact ⟨u, e⟩
  | ins C dx fs => obtain ⟨_, _, _, e, _⟩ := x; exact ⟨_, e⟩
  | own y => exact x
  | xd fs => obtain ⟨_, ⟨u, _, _, e, _⟩, _⟩ := x; exact ⟨u, e⟩
  | rng lo hi => obtain ⟨_, _, _, e⟩ := x; exact ⟨_, e⟩
  | frz ob u => obtain ⟨e, _⟩ := x; exact ⟨_, e⟩
  | tbl ps => exact ⟨_, (show h.get? a = some _ from x)⟩
  | met f y => exact ⟨_, (show h.get? a = some _ from x)⟩
  | ext φ => exact x.2.1
theorem Inv.freshN {X : Cx} {pins : List (Addr × Obj)} {σ : L2.St} {H : Hp} {s : Shared} {a : Addr} (I : Inv X pins σ H s) (hne : ∀ b u, s.heap.get? b = some u → b ≠ a) : H a = none := by
  cases e : H a with
  | none => rfl
  | some o =>
    obtain ⟨u, hu⟩ := (I.hok a o e).ex
    exact absurd rfl (hne a u hu)
/-- a new object laid at an address where nothing stood -/
theorem Inv.laidN {X : Cx} {pins : List (Addr × Obj)} {σ : L2.St} {H : Hp} {s : Shared} {h' : Heap} {a : Addr} {o : HO} {t' : Nat} (I : Inv X pins σ H s) (k : ∀ b u, s.heap.get? b = some u → h'.get? b = some u) (hne : ∀ b u, s.heap.get? b = some u → b ≠ a) (new : ObjOk X.prog X.w (upd H a o) h' a o) :
    Inv X pins σ (upd H a o) { s with heap := h', toks := t' } := by
  have hn := I.freshN hne
  refine I.un ⟨fun b u q _ _ _ => k b u q, fun b u q _ _ _ => ⟨u.slots, k b u q⟩, fun b u q n _ => by rw [upd_ne (hne b u q)]; exact n, fun b u q _ => ⟨u, k b u q⟩, fun b xs q => by rw [upd_ne (ne_of_none q hn)]; exact q, fun b u xs q => by rw [upd_ne (ne_of_none q hn)]; exact q, fun b ps q => ⟨#[], by rw [upd_ne (ne_of_none q hn), q]; simp⟩⟩ fun b u e => ?_
  by_cases hb : b = a
  · subst hb; rw [upd_same] at e; cases e; exact new
  · rw [upd_ne hb] at e
    exact (I.hok b u e).stay (fun c v _ q => k c v q) (fun c q => by rw [upd_ne (ne_of_none q hn)]; exact q) fun c xs q => by rw [upd_ne (ne_of_none q hn)]; exact q
/-! ### sorted(d) of a dict whose keys are texts -/
section
variable {prog : Program} {w : World} {A : Around} {E : Value → Shared → Prop} {s : Shared}
end
section
variable {X : Cx}
end
end L2

namespace HT
open PySem PyProof.Rows



section
open PySem.SeqAt
open PySem.AutoSeq1 (wpAny_loadPart')
open PySem.MeetsSeq PySem.MeetsSeq2 PySem.MeetsSeq3

end

section
variable {prog : Program} {w : World} {A : Around} {E : Value → Shared → Prop} {s : Shared}


end
end HT
namespace L2
open PySem PySem.Spec PyProof.Rows
section
variable {X : Cx}
end
end L2

namespace L2
end L2

namespace KasM
open PySem PySem.W PyProof.Rows
set_option autoImplicit false

section
variable {O : KeyOrd} {key : Nat → O.α} {n : Nat}
def K (key : Nat → O.α) (p : Array Nat) (i : Nat) : O.α := key (p.getD i 0)
def Asc (key : Nat → O.α) (p : Array Nat) (k : Nat) : Prop := ∀ i, i + 1 < k → O.kle (K key p i) (K key p (i + 1))
def Pm (n : Nat) (p : Array Nat) : Prop := p.Perm (List.range n).toArray
theorem Pm.size {p : Array Nat} (h : Pm n p) : p.size = n := by have := h.size_eq; simpa using this
theorem Pm.lt {p : Array Nat} (h : Pm n p) (hn : 0 < n) (i : Nat) : p.getD i 0 < n := by
  by_cases hi : i < p.size
  · have e : p.getD i 0 = p[i] := by simp [Array.getD, hi]
    rw [e]
    have : p[i] ∈ p := Array.getElem_mem hi
    have h2 := h.mem_iff.mp this
    simpa using h2
  · have e : p.getD i 0 = 0 := by simp [Array.getD, hi]
    rw [e]; exact hn
theorem getD_rev {p : Array Nat} {i j : Nat} (hj : j ≤ p.size) (k : Nat) : (kas_rev p i j).getD k 0 = if i ≤ k ∧ k < j then p.getD (i + j - 1 - k) 0 else p.getD k 0 := by
  unfold kas_rev
  simp only [Array.getD_eq_getD_getElem?]
  rw [getElem?_mirror_all hj]
  split <;> rfl
theorem getD_bub {p : Array Nat} {k l : Nat} (hk : k < p.size) (hl : l ≤ k) (t : Nat) : (bubble p k (k - l)).getD t 0 = if t = l then p.getD k 0 else if l < t ∧ t ≤ k then p.getD (t - 1) 0 else p.getD t 0 := by
  simp only [Array.getD_eq_getD_getElem?]
  rw [getElem?_bubble hk _ (by omega)]
  rw [show k - (k - l) = l by omega]
  split
  · rfl
  · split <;> rfl
theorem Pm.rev {p : Array Nat} (h : Pm n p) (i j : Nat) : Pm n (kas_rev p i j) := (mirror_perm _ _ _ _).trans h
theorem Pm.bub {p : Array Nat} (h : Pm n p) (i j : Nat) : Pm n (bubble p i j) := (bubble_perm _ _ _).trans h
theorem K_rev {p : Array Nat} {i j : Nat} (hj : j ≤ p.size) (k : Nat) : K key (kas_rev p i j) k = if i ≤ k ∧ k < j then K key p (i + j - 1 - k) else K key p k := by
  unfold K; rw [getD_rev hj]; split <;> rfl
theorem K_rev_eq {p : Array Nat} {i j : Nat} (hj : j ≤ p.size) (he : ∀ k, i ≤ k → k < j → K key p k = K key p (j - 1)) (k : Nat) : K key (kas_rev p i j) k = K key p k := by
  rw [K_rev hj]
  split
  · rw [he _ (by omega) (by omega), he k (by omega) (by omega)]
  · rfl
theorem K_bub {p : Array Nat} {k l : Nat} (hk : k < p.size) (hl : l ≤ k) (t : Nat) : K key (bubble p k (k - l)) t = if t = l then K key p k else if l < t ∧ t ≤ k then K key p (t - 1) else K key p t := by
  unfold K; rw [getD_bub hk hl]; split
  · rfl
  · split <;> rfl





end
end KasM

namespace L2
open PySem PySem.Spec PyProof.Rows
section
variable {prog : Program} {w : World} {A : Around} {E : Value → Shared → Prop} {s : Shared}

end
end L2

namespace L2
open PySem PySem.Spec PyProof.Rows
/-- the order of pairs -/
@[reducible] def lexO (O P : KeyOrd) : KeyOrd where
  α := O.α × P.α
  blt x y := O.blt x.1 y.1 || (!O.blt y.1 x.1 && P.blt x.2 y.2)
  irrefl x := by simp [O.irrefl, P.irrefl]
  trans x y z h1 h2 := by
    simp only [Bool.or_eq_true, Bool.and_eq_true, Bool.not_eq_true'] at h1 h2 ⊢
    rcases h1 with h1 | ⟨h1, k1⟩ <;> rcases h2 with h2 | ⟨h2, k2⟩
    · exact .inl (O.trans _ _ _ h1 h2)
    · exact .inl (KeyOrd.klt_of_klt_of_kle h1 h2)
    · exact .inl (KeyOrd.klt_of_kle_of_klt h1 h2)
    · exact .inr ⟨KeyOrd.kle_trans (O := O) h1 h2, P.trans _ _ _ k1 k2⟩
  negTrans x y z h := by
    simp only [Bool.or_eq_true, Bool.and_eq_true, Bool.not_eq_true'] at h ⊢
    rcases h with h | ⟨h, k⟩
    · rcases O.negTrans _ y.1 _ h with h | h
      · exact .inl (.inl h)
      · exact .inr (.inl h)
    · cases e1 : O.blt x.1 y.1 with
      | true => exact .inl (.inl rfl)
      | false =>
        cases e2 : O.blt y.1 z.1 with
        | true => exact .inr (.inl rfl)
        | false =>
          have a1 : O.kle y.1 x.1 := e1
          have a2 : O.kle z.1 y.1 := e2
          have a3 : O.kle x.1 z.1 := h
          have b1 : O.blt y.1 x.1 = false := KeyOrd.kle_trans (O := O) a3 a2
          have b2 : O.blt z.1 y.1 = false := KeyOrd.kle_trans (O := O) a1 a3
          rcases P.negTrans _ y.2 _ k with k | k
          · exact .inl (.inr ⟨b1, k⟩)
          · exact .inr (.inr ⟨b2, k⟩)
  total x y h1 h2 := by
    simp only [Bool.or_eq_false_iff, Bool.and_eq_false_iff, Bool.not_eq_false'] at h1 h2
    have e1 : x.1 = y.1 := O.total _ _ h1.1 h2.1
    have e2 : x.2 = y.2 := P.total _ _ (by rcases h1.2 with z | z; exact absurd (h2.1.symm.trans z) (by simp); exact z) (by rcases h2.2 with z | z; exact absurd (h1.1.symm.trans z) (by simp); exact z)
    exact Prod.ext e1 e2
@[reducible] def strO : KeyOrd where
  α := Str
  blt a b := decide (a.cps.toList < b.cps.toList)
  irrefl a := by simpa using List.lt_irrefl a.cps.toList
  trans a b c h1 h2 := by simp only [decide_eq_true_eq] at *; exact List.lt_trans h1 h2
  negTrans a b c h := by
    simp only [decide_eq_true_eq] at *
    by_cases hab : a.cps.toList < b.cps.toList
    · exact .inl hab
    · exact .inr (List.lt_of_le_of_lt (List.not_lt.mp hab) h)
  total a b h1 h2 := by simp only [decide_eq_false_iff_not] at *; exact ext_toList (List.le_antisymm (List.not_lt.mp h2) (List.not_lt.mp h1))
@[reducible] def intO : KeyOrd where
  α := Int
  blt a b := decide (a < b)
  irrefl a := by simp
  trans a b c h1 h2 := by simp only [decide_eq_true_eq] at *; omega
  negTrans a b c h := by simp only [decide_eq_true_eq] at *; omega
  total a b h1 h2 := by simp only [decide_eq_false_iff_not] at *; omega

section
variable {prog : Program} {w : World} {A : Around} {E : Value → Shared → Prop} {s : Shared}
end
theorem pairwise_of_steps {α : Type} {R : α → α → Prop} (tr : ∀ a b c, R a b → R b c → R a c) : ∀ (l : List α), (∀ i a b, l[i]? = some a → l[i + 1]? = some b → R a b) → l.Pairwise R
  | [], _ => .nil
  | [x], _ => by simp
  | x :: y :: r, h => by
    have ih := pairwise_of_steps tr (y :: r) fun i a b h1 h2 => h (i + 1) a b (by simpa using h1) (by simpa using h2)
    have hxy : R x y := h 0 x y rfl rfl
    refine List.pairwise_cons.mpr ⟨fun z hz => ?_, ih⟩
    rcases List.mem_cons.mp hz with e | hz
    · rw [e]; exact hxy
    · exact tr _ _ _ hxy ((List.pairwise_cons.mp ih).1 z hz)
section
variable {X : Cx}

theorem paired_at {α β : Type} {R : α → β → Prop} {xs : List α} {ys : List β} (h : Paired R xs ys) : ∀ (i : Nat) (dx : α) (dy : β), i < xs.length → R (xs.getD i dx) (ys.getD i dy) := by
  induction h with
  | nil => intro i dx dy h; simp at h
  | cons a r ih =>
    intro i dx dy h
    cases i with
    | zero => exact a
    | succ i => simpa using ih i dx dy (by simpa using h)
theorem paired_map {α β γ : Type} {R : α → β → Prop} {f : γ → α} {g : γ → β} : ∀ (l : List γ), (∀ x ∈ l, R (f x) (g x)) → Paired R (l.map f) (l.map g)
  | [], _ => .nil
  | x :: l, h => .cons (h x List.mem_cons_self) (paired_map l fun y hy => h y (List.mem_cons_of_mem _ hy))
end
end L2

namespace L2
open PySem PySem.Spec PyProof.Rows Ord
/-! ### states of tables -/

section
variable {X : Cx}
end


theorem three_le : ([] : List V).length + 1 + 1 + 1 ≤ sizeLine := by decide




/-- over a range, no test, by an invariant of the items so far -/
theorem comp_rangeI {k : Nat} {caps : List Nat} {g : TG} {te : TE} {σ : St} {H1 : Hp} {Q : Addr → Hp → Prop} {lo : Int} {n : Nat} (Pv : Addr → Nat → List V → Hp → Prop)
    (h0 : ∀ D, H1 D = none → Pv D 0 [] (upd H1 D (.lst [])))
    (hs : ∀ (D : Addr) (i : Nat) (ys : List V) (H2 : Hp) (R : VK), H1 D = none → i < n → Pv D i ys H2 → (∀ y H6, H6 D = some (.lst ys) → ys.length < sizeLine → Pv D (i + 1) (ys ++ [y]) (upd H6 D (.lst (ys ++ [y]))) → R y H6) → g (.int (lo + i)) (compSt k caps σ) H2 fun σ4 H4 => te σ4 H4 R)
    (hd : ∀ D ys H2, H1 D = none → Pv D n ys H2 → Q D H2) :
    ∀ D, H1 D = none → ∃ W : Nat → Nat → List V → Hp → Prop, (∃ m, W 0 m [] (upd H1 D (.lst []))) ∧ ∀ i m ys H2, W i m ys H2 →
      ((Itr lo n).stop i H2 ∧ Q D H2) ∨ ((Itr lo n).go i H2 ∧ ∀ x H3, (Itr lo n).yld i H2 x H3 → g x (compSt k caps σ) H3 fun σ4 H4 => tYes σ4 H4 fun b H5 =>
        if b = true then te σ4 H5 fun y H6 => H6 D = some (.lst ys) ∧ ys.length < sizeLine ∧ ∃ m', m' < m ∧ W (i + 1) m' (ys ++ [y]) (upd H6 D (.lst (ys ++ [y]))) else ∃ m', m' < m ∧ W (i + 1) m' ys H5) := by
  intro D hD
  refine ⟨fun i m ys H2 => m = n - i ∧ i ≤ n ∧ Pv D i ys H2, ⟨n, rfl, Nat.zero_le _, h0 D hD⟩, ?_⟩
  rintro i m ys H2 ⟨rfl, hi, p⟩
  by_cases hlt : i < n
  · refine .inr ⟨hlt, fun x H3 y => ?_⟩
    obtain ⟨rfl, rfl⟩ := y
    refine hs D i ys H3 _ hD hlt p fun v H6 e6 hz p6 => ?_
    exact ⟨e6, hz, n - (i + 1), by omega, rfl, hlt, p6⟩
  · have e : i = n := by omega
    subst e
    exact .inl ⟨Nat.le_refl _, hd D ys H2 hD p⟩
end L2

namespace L2
open PySem PySem.Spec PyProof.Rows Ord
/-! ### what stays where only some lists are changed -/
section
variable {K : PySem.W.Frag} {M : Addr → Prop} {H H' : Hp}
end
/-! ### the usual table -/
end L2

namespace L2
open PySem PySem.Spec PyProof.Rows
/-! ### enumerate of a list, with a pair of targets -/
def Ite (K : PySem.W.Frag) (l : Addr) : It :=
  ⟨fun i H => ∃ xs x, SqL K H l xs ∧ xs[i]? = some x,
   fun i H v H' => ∃ T x, H T = none ∧ v = .ref T ∧ H' = upd H T (.tup [.int i, x]) ∧ ∀ xs, SqL K H l xs → xs[i]? = some x,
   fun i H => ∃ xs, SqL K H l xs ∧ xs.length ≤ i⟩
def EnumSt (e it l : Addr) (i : Nat) (h : Heap) : Prop := (∃ old, IsEnum h e it i old) ∧ h.IsListIter it l i
theorem turn_enum {P : Program} {w : World} {K : PySem.W.Frag} {es : List Expr} {k : Nat} {pos : Pos} {e it l : Addr} (hei : e ≠ it) :
    Turn P w K (.Tuple es k pos) (Ite K l) [e, it] e (EnumSt e it l) where
  mem := by simp
  obj := fun i h st b hb => by
    obtain ⟨⟨old, he⟩, ⟨o1, e1, c1, d1⟩⟩ := st
    simp at hb
    rcases hb with rfl | rfl
    · exact ⟨_, he, fun v q => by cases q⟩
    · exact ⟨_, e1, fun v q => by rw [d1] at q; cases q⟩
  keep := fun i h h' st kk => by
    obtain ⟨⟨old, he⟩, h1⟩ := st
    exact ⟨⟨old, kk e (by simp) _ he⟩, h1.at fun o x => kk it (by simp) o x⟩
  item := by
    intro X hP hw hK hc i pins s σ H E I hf st hg
    subst hP hw hK
    obtain ⟨xs, x, hq1, hx⟩ := hg
    obtain ⟨⟨old, he⟩, h1⟩ := st
    obtain ⟨its1, rv1, p1, hz1⟩ := I.list hq1
    obtain ⟨u1, hu1, ru1⟩ := rv1.get hx
    refine wpAny_pyNext_enum_item he h1 p1.isList (x := u1) (by simpa using hu1) hei fun h' a1 a2 a3 a4 hk => ?_
    refine ⟨_, rfl, wpAny_letOwnedTupleGo_enum (s := { s with heap := h', toks := s.toks + 1 }) a1 fun h'' hz'' hs'' => ?_⟩
    have fe := hf e (by simp)
    have fi := hf it (by simp)
    have trk : ∀ b u, H b = some u → b ≠ e ∧ b ≠ it := fun b u z => ⟨ne_of_none z fe.1, ne_of_none z fi.1⟩
    have keep : ∀ b o, b ≠ e → b ≠ it → s.heap.get? b = some o → h''.get? b = some o := fun b o n1 n2 z => (hs''.2 b n1).trans (hk b o n1 n2 z)
    have nch : ∀ {b : Addr}, b ∉ [e, it] → b ≠ e ∧ b ≠ it := fun {b} hb => by simpa using hb
    have I1 : Inv X pins σ H { s with heap := h'', toks := s.toks + 1 } := by
      refine I.step (g' := s.gens) (t' := s.toks + 1) (d' := s.drawn) (h' := h'') (ch := [e, it]) (fun b hb => ?_) (fun b ob _ _ hb z _ => keep b ob (nch hb).1 (nch hb).2 z) (fun b ob _ _ hb z _ => ⟨ob.slots, keep b ob (nch hb).1 (nch hb).2 z⟩)
        (fun _ _ _ _ n => n) (fun b ob hb z => ⟨ob, keep b ob (nch hb).1 (nch hb).2 z⟩) (fun _ _ z => z) (fun _ _ _ z => z) (fun b ps z => ⟨#[], by rw [z]; simp⟩) (fun m hm => ?_) (fun b u z => ?_) I.bare
      · have : b = e ∨ b = it := by simpa using hb
        rcases this with rfl | rfl
        · exact ⟨fe.2.2.2.1, fe.2.1, fe.2.2.2.2.1, fe.2.2.2.2.2⟩
        · exact ⟨fi.2.2.2.1, fi.2.1, fi.2.2.2.2.1, fi.2.2.2.2.2⟩
      · obtain ⟨o, es, ep, ho, r⟩ := hm
        exact ⟨o, es, ep, keep _ o (Ne.symm fe.2.1) (Ne.symm fi.2.1) ho, r⟩
      · refine (I.hok b u z).stay (fun c v hc q => ?_) (fun _ q => q) fun _ _ q => q
        have hc' : ∃ u', H c = some u' := by
          rcases hc with rfl | hc
          · exact ⟨_, z⟩
          · exact ⟨_, hc⟩
        obtain ⟨u', e'⟩ := hc'
        obtain ⟨n1, n2⟩ := trk c u' e'
        exact keep c v n1 n2 q
    have hTz : s.heap.objs.size ≠ e := Nat.ne_of_gt (Heap.lt_size he)
    have hT0 : H s.heap.objs.size = none := I.hok.fresh (Nat.le_refl _)
    have hTget : h''.get? s.heap.objs.size = some { cls := .type "tuple", data := .seq #[.int i s.toks, u1] } := (hs''.2 _ hTz).trans a3
    have I2 : Inv X pins σ (upd H s.heap.objs.size (.tup [.int i, x])) { s with heap := h'', toks := s.toks + 1 } := by
      refine I1.track (I.fpOk (Nat.le_refl _) hT0) ⟨_, hTget⟩ ?_
      exact ⟨by show 2 ≤ sizeLine; decide, [.int i s.toks, u1], .cons ⟨_, rfl⟩ (.cons ru1 .nil), ⟨_, hTget, rfl, _, rfl⟩⟩
    refine ⟨.ref s.heap.objs.size, _, I2, rfl, ⟨s.heap.objs.size, x, hT0, rfl, rfl, fun zs hzs => by rw [I.list_inj hzs hq1]; exact hx⟩, ?_, fun b hb => ?_⟩
    · refine ⟨⟨u1, by simpa using hz''⟩, a2.extBut hs''.extBut (Ne.symm hei)⟩
    · have hb' := (hf b hb).1
      rw [upd_ne (fun q => ?_)]
      · exact hb'
      · have hb2 : b = e ∨ b = it := by simpa using hb
        obtain ⟨o1, e1, _⟩ := h1
        have lt : b < s.heap.objs.size := by
          rcases hb2 with rfl | rfl
          · exact Heap.lt_size he
          · exact Heap.lt_size e1
        rw [q] at lt
        exact absurd lt (Nat.lt_irrefl _)
  done := by
    intro X hP hw hK hc i pins s σ H E I hf st hg
    subst hP hw hK
    obtain ⟨xs, hq1, hend⟩ := hg
    obtain ⟨⟨old, he⟩, h1⟩ := st
    obtain ⟨its1, rv1, p1, hz1⟩ := I.list hq1
    have l1' := rv1.length
    obtain ⟨f0, f1, f2, f3, f4, f5⟩ := hf it (by simp)
    exact wpAny_pyNext_enum_end (I.ok.hd hc) he h1 p1.isList (by simp; omega) fun h' eb => ⟨rfl, I.turned (t' := s.toks) (fun b o hb z => eb b o hb z) f0 f1 f3 f4 f5⟩
  self := fun _ _ _ _ _ st h => by
    obtain ⟨⟨old, he⟩, _⟩ := st
    exact wpAny_pyIter_enum he h
def iEnum (K : PySem.W.Frag) (ta : TA) : TI := fun σ H R => ta σ H fun vs H1 => ∃ l, vs = [.ref l] ∧ (∃ xs, H1 l = some (.lst xs)) ∧ R (Ite K l) H1
theorem pi_enum {X : Cx} {es : List Expr} {k : Nat} {tpos : Pos} {a : Expr} {ta : TA} {p pos : Pos} (hg : Gl X "enumerate") (hm : X.mg "enumerate" = none) (ha : PA X [a] ta) (hs : starEach [a] X.env = [(false, eval a X.env)] := by rfl) :
    PI X (.Tuple es k tpos) (.Call (.Name "enumerate" p) [a] [] pos) (iEnum X.K ta) := by
  intro pins s σ H R I h
  refine Call_ (ld_blt I hg hm (u := .type "enumerate") (by decide +kernel) (PyProof.Rows.callWith_type1 (thn (ha pos pins s σ H _ I h) fun us s1 ⟨vs, H1, I1, r1, q1⟩ => ?_) (by rw [hs]; rfl) (by rfl)))
  obtain ⟨l, rfl, ⟨xs, hq⟩, q⟩ := q1
  obtain ⟨u1, rfl, ru1⟩ := vals1 r1
  obtain rfl : u1 = Value.ref l := ru1
  obtain ⟨z, its, n, rv, e⟩ := I1.hok l _ hq
  have a1 : l < s1.heap.objs.size := Heap.lt_size e
  refine call_enumerate_1 e fun h' he hi hsz hk => ?_
  refine wpAny_pyIter_enum (s := { s1 with heap := h' }) he ?_
  refine ⟨_, [s1.heap.objs.size + 1, s1.heap.objs.size], _, _, H1, rfl, I1.kept (t' := s1.toks) hk, turn_enum (Nat.succ_ne_self _), ⟨⟨_, he⟩, hi⟩, fun b hb => ?_, q⟩
  have hb' : s1.heap.objs.size ≤ b := by
    have hb2 : b = s1.heap.objs.size + 1 ∨ b = s1.heap.objs.size := by simpa using hb
    rcases hb2 with rfl | rfl
    · exact Nat.le_add_right _ _
    · exact Nat.le_refl _
  exact I1.fpOk hb' (I1.hok.fresh hb')
theorem for_enum {K : PySem.W.Frag} {l : Addr} {xs : List V} {g : TG} {tb : TS} {D : Ends} {σ : St} {H : Hp} (Pv : Nat → St → Hp → Prop) (h0 : Pv 0 σ H) (hl : ∀ i σ H, Pv i σ H → SqL K H l xs)
    (hs : ∀ i x T σ H, xs[i]? = some x → H T = none → Pv i σ H → g (.ref T) σ (upd H T (.tup [.int i, x])) fun σ2 H2 => tb { D with nx := Pv (i + 1), ct := Pv (i + 1), bk := D.nx } σ2 H2) (hd : ∀ σ H, Pv xs.length σ H → D.nx σ H) :
    ∃ W : Nat → Nat → St → Hp → Prop, (∃ m, W 0 m σ H) ∧ ∀ i m σ H, W i m σ H →
      ((Ite K l).stop i H ∧ D.nx σ H) ∨ ((Ite K l).go i H ∧ ∃ N : St → Hp → Prop, (∀ σ' H', N σ' H' → ∃ m', m' < m ∧ W (i + 1) m' σ' H') ∧ ∀ x H', (Ite K l).yld i H x H' → g x σ H' fun σ2 H2 => tb { D with nx := N, ct := N, bk := D.nx } σ2 H2) := by
  refine ⟨fun i m σ H => m = xs.length - i ∧ i ≤ xs.length ∧ Pv i σ H, ⟨_, rfl, Nat.zero_le _, h0⟩, ?_⟩
  rintro i m σ H ⟨rfl, hi, p⟩
  have q1 := hl i σ H p
  by_cases hlt : i < xs.length
  · refine .inr ⟨⟨xs, xs[i], q1, by simp [hlt]⟩, Pv (i + 1), fun σ' H' p' => ⟨xs.length - (i + 1), by omega, rfl, hlt, p'⟩, fun v H' y => ?_⟩
    obtain ⟨T, x, hT, rfl, rfl, e1⟩ := y
    exact hs i x T σ H (e1 xs q1) hT p
  · have e : i = xs.length := by omega
    refine .inl ⟨⟨xs, q1, by omega⟩, ?_⟩
    rw [e] at p
    exact hd σ H p
end L2

namespace L2
open PySem PySem.Spec PyProof.Rows
/-! ### an exception that leaves frames -/
/-- an exception under way: its object, the last entry of its trace, and which frame looks on it -/
def FlyAt (h : Heap) (e T : Addr) (cls fl : Value) : Prop :=
  ∃ oe vs oT ts, h.get? e = some oe ∧ oe.cls = cls ∧ oe.dict = none ∧ oe.data = .fields vs ∧ vs[1]? = some (.ref T) ∧ T ≠ e ∧ h.get? T = some oT ∧ oT.data = .fields ts ∧ ts[3]? = some fl
abbrev Fly (h : Heap) (e T : Addr) (cls : Value) : Prop := FlyAt h e T cls .none
/-- what is so behind a frame that has looked on an exception -/
structure GoneAt (l : List Env) (e T T' : Addr) (cls fl : Value) (h h' : Heap) : Prop where
  fly : FlyAt h' e T' cls fl
  tr : T' = T ∨ h.get? T' = none
  keep : ∀ b o, h.get? b = some o → b ≠ e → b ≠ T → b ∉ frs l → h'.get? b = some o
  slot : ∀ b o, h.get? b = some o → b ∈ frs l → ∃ sl, h'.get? b = some { o with slots := sl }
abbrev Gone (l : List Env) (e T T' : Addr) (cls : Value) (h h' : Heap) : Prop := GoneAt l e T T' cls .none h h'
section
variable {M : Model} {A : Around} {E : Value → Shared → Prop} {s : Shared} {base : Heap} {env : Env} {outer : List Env} {L e T : Addr} {cls fl : Value} {Q : Unit → Shared → Prop}
/-- a new entry of the trace -/
theorem entry_ok {oe : Obj} {vs : Array Value} {head : Value} {hadNext : Bool} (hfr : A.frames = some (env :: outer)) (hl : s.heap.FunFrames base (env :: outer)) (hf : env.frame = some L) (he : s.heap.get? e = some oe) (hd : oe.data = .fields vs) (hsz : 1 < vs.size)
    (h : ∀ h' T', (∀ b o, s.heap.get? b = some o → b ≠ e → b ∉ frs (env :: outer) → h'.get? b = some o) → (∀ b o, s.heap.get? b = some o → b ∈ frs (env :: outer) → ∃ sl, h'.get? b = some { o with slots := sl }) → s.heap.get? T' = none → T' ≠ e →
      (∃ oe', h'.get? e = some oe' ∧ oe'.cls = oe.cls ∧ oe'.dict = oe.dict ∧ oe'.data = .fields (vs.setIfInBounds 1 (.ref T'))) → (∃ oT ts, h'.get? T' = some oT ∧ oT.data = .fields ts ∧ ts[3]? = some (rawInt L)) → Q () { s with heap := h' }) :
    wpAny M A (do let a ← frameOf env; let pl ← entryPlaceOf L hadNext; let b ← EntryCells.newEntry head a .none (rawInt L) .none pl; setField (.ref e) 1 b) Q E s := by
  have ne : e ∉ frs (env :: outer) := fun m => by
    obtain ⟨_, o, ho, nf⟩ := hl.mem m
    rw [he] at ho; cases ho
    exact nf vs hd
  refine wpAny_bind (wpAny_frameOf_fun hfr hl hf fun g1 so => ?_)
  refine wpAny_bind (wpAny_entryPlaceOf fun pl hpl => ?_)
  unfold EntryCells.newEntry newFields
  refine wpAny_bind (wpAny_newObj_type ?_ (hpl.sizeOk5 _ _ _ _ _))
  generalize hob : ({ cls := .type "traceback", dict := none, data := .fields ([head, .ref L, .none, rawInt L, .none] ++ (if pl.isEmpty then List.replicate 6 Value.none else pl)).toArray } : Obj) = ob
  have q1 : g1.get? e = some oe := (so.2.1 e ne).trans he
  have q2 : (g1.push ob).get? e = some oe := Heap.get?_push_of_some _ q1
  have nz : g1.objs.size ≠ e := Nat.ne_of_gt (Heap.lt_size q1)
  refine wpAny_setField q2 hd hsz (h _ g1.objs.size (fun b o q n m => ?_) (fun b o q m => ?_) ?_ nz ?_ ?_)
  · rw [Heap.get?_update_other _ _ (Ne.symm n)]
    exact Heap.get?_push_of_some _ ((so.2.1 b m).trans q)
  · obtain ⟨sl, q'⟩ := so.2.2 b o q
    refine ⟨sl, ?_⟩
    rw [Heap.get?_update_other _ _ (fun z => ne (by rw [z]; exact m))]
    exact Heap.get?_push_of_some _ q'
  · exact Heap.get?_none_of_le (by rw [so.1]; exact Nat.le_refl _)
  · have d3 := Obj.data_mapFields hd (·.setIfInBounds 1 (Value.ref g1.objs.size))
    refine ⟨_, Heap.get?_update_self _ q2 (Obj.isFreed_of_fields d3), Obj.cls_mapFields _ _, ?_, d3⟩
    obtain ⟨c, dd, dt, sl⟩ := oe
    cases dt <;> first | rfl | (simp at hd)
  · have q4 : (g1.push ob).get? g1.objs.size = some ob := Heap.get?_push_size _ (by rw [← hob]; rfl)
    refine ⟨ob, _, (Heap.get?_update_other _ _ (Ne.symm nz)).trans q4, by rw [← hob], ?_⟩
    first | (simp; done) | (rcases hpl with rfl | ⟨_, _, _, _, _, _, _, rfl⟩ <;> simp)
/-- the frame looks on an exception that comes by -/
theorem note_next (hfr : A.frames = some (env :: outer)) (hl : s.heap.FunFrames base (env :: outer)) (hf : env.frame = some L) (ht : Fly s.heap e T cls)
    (h : ∀ h' T', GoneAt (env :: outer) e T T' cls (rawInt L) s.heap h' → Q () { s with heap := h' }) : wpAny M A (noteFrame (.ref e) env) Q E s := by
  obtain ⟨oe, vs, oT, ts, e1, e2, e2d, e3, e4, e5, e6, e7, e8⟩ := ht
  have hz : 3 < ts.size := (Array.getElem?_eq_some_iff.mp e8).1
  have oth : ∀ b, b ≠ T → (s.heap.update T (Obj.mapFields (·.setIfInBounds 3 Value.none))).get? b = s.heap.get? b := fun b hb => Heap.get?_update_other _ _ (Ne.symm hb)
  have nf : ∀ b o, s.heap.get? b = some o → (∀ vs, o.data ≠ .fields vs) → b ≠ T := fun b o q n z => by
    rw [z, e6] at q; cases q
    exact n ts e7
  unfold noteFrame
  simp only [hf]
  refine wpAny_bind (wpAny_field e1 e3 e4 ?_)
  rw [if_pos (show (Value.ref T != Value.none) = true from by simp)]
  refine wpAny_bind (wpAny_field e6 e7 e8 ?_)
  rw [if_neg (show ¬ ((Value.none == rawInt L) = true) from by simp [rawInt])]
  refine wpAny_bind (wpAny_setField e6 e7 hz ?_)
  refine entry_ok (base := base) hfr (hl.of_keeps fun b o q n => ⟨o, (oth b (nf b o q n)).trans q, rfl⟩) hf ((oth e (Ne.symm e5)).trans e1) e3 (Array.getElem?_eq_some_iff.mp e4).1 fun h' T' k1 k2 k3 k4 ⟨oe', y1, y2, y3, y4⟩ ⟨oT', ts', z1, z2, z3⟩ => ?_
  have nT : T' ≠ T := fun z => by
    have := Heap.get?_update_self (Obj.mapFields (·.setIfInBounds 3 Value.none)) e6 (Obj.isFreed_of_fields (Obj.data_mapFields e7 _))
    rw [← z] at this
    rw [z] at k3 this
    rw [k3] at this; cases this
  refine h h' T' ⟨⟨oe', _, oT', ts', y1, y2.trans e2, y3.trans e2d, y4, ?_, k4, z1, z2, z3⟩, .inr ((oth T' nT).symm.trans k3), fun b o q n1 n2 n3 => k1 b o ((oth b n2).trans q) n1 n3, fun b o q m => ?_⟩
  · simp [(Array.getElem?_eq_some_iff.mp e4).1]
  · obtain ⟨_, o', q', n⟩ := hl.mem m
    rw [q] at q'; cases q'
    exact k2 b o ((oth b (nf b o q n)).trans q) m
/-- the frame in which it was made looks on it -/
theorem note_first {oe : Obj} {vs : Array Value} (hfr : A.frames = some (env :: outer)) (hl : s.heap.FunFrames base (env :: outer)) (hf : env.frame = some L) (he : s.heap.get? e = some oe) (hdi : oe.dict = none) (hd : oe.data = .fields vs) (h1 : vs[1]? = some .none)
    (h : ∀ h' T', GoneAt (env :: outer) e e T' oe.cls (rawInt L) s.heap h' → Q () { s with heap := h' }) : wpAny M A (noteFrame (.ref e) env) Q E s := by
  unfold noteFrame
  simp only [hf]
  refine wpAny_bind (wpAny_field he hd h1 ?_)
  rw [if_neg (by decide)]
  refine entry_ok (base := base) hfr hl hf he hd (Array.getElem?_eq_some_iff.mp h1).1 fun h' T' k1 k2 k3 k4 ⟨oe', y1, y2, y3, y4⟩ ⟨oT', ts', z1, z2, z3⟩ => ?_
  refine h h' T' ⟨⟨oe', _, oT', ts', y1, y2, y3.trans hdi, y4, ?_, k4, z1, z2, z3⟩, .inr k3, fun b o q n1 _ n3 => k1 b o q n1 n3, k2⟩
  simp [(Array.getElem?_eq_some_iff.mp h1).1]
/-- no frame looks on it any more -/
theorem flight_off (ht : FlyAt s.heap e T cls fl) (h : ∀ h', Fly h' e T cls → (∀ b o, s.heap.get? b = some o → b ≠ T → h'.get? b = some o) → Q () { s with heap := h' }) : wpAny M A (setFlight (.ref e) none) Q E s := by
  obtain ⟨oe, vs, oT, ts, e1, e2, e2d, e3, e4, e5, e6, e7, e8⟩ := ht
  have hz : 3 < ts.size := (Array.getElem?_eq_some_iff.mp e8).1
  have oth : ∀ b, b ≠ T → (s.heap.update T (Obj.mapFields (·.setIfInBounds 3 ((none : Option Addr).elim Value.none fun f => rawInt f)))).get? b = s.heap.get? b := fun b hb => Heap.get?_update_other _ _ (Ne.symm hb)
  unfold setFlight
  refine wpAny_bind (wpAny_field e1 e3 e4 ?_)
  rw [if_pos (show (Value.ref T != Value.none) = true from by simp)]
  refine wpAny_setField e6 e7 hz (h _ ?_ fun b o q n => (oth b n).trans q)
  exact ⟨oe, vs, _, _, (oth e (Ne.symm e5)).trans e1, e2, e2d, e3, e4, e5, Heap.get?_update_self _ e6 (Obj.isFreed_of_fields (Obj.data_mapFields e7 _)), Obj.data_mapFields e7 _, by simp [hz]⟩
theorem gone_off {T' : Addr} {h1 h2 : Heap} (hl : s.heap.FunFrames base (env :: outer)) (hT : ∀ b ∈ frs (env :: outer), b ≠ T) (g : GoneAt (env :: outer) e T T' cls fl s.heap h1) (f : Fly h2 e T' cls) (k : ∀ b o, h1.get? b = some o → b ≠ T' → h2.get? b = some o) : Gone (env :: outer) e T T' cls s.heap h2 := by
  have nn : ∀ b o, s.heap.get? b = some o → b ≠ T → b ≠ T' := fun b o q n z => by
    rcases g.tr with y | y
    · exact n (z.trans y)
    · rw [z, y] at q; cases q
  refine ⟨f, g.tr, fun b o q n1 n2 n3 => k b o (g.keep b o q n1 n2 n3) (nn b o q n2), fun b o q m => ?_⟩
  obtain ⟨sl, q'⟩ := g.slot b o q m
  exact ⟨sl, k b _ q' (nn b o q (hT b m))⟩
/-- it goes on through a frame -/
theorem leave_next (hfr : A.frames = some (env :: outer)) (hl : s.heap.FunFrames base (env :: outer)) (hf : env.frame = some L) (ht : Fly s.heap e T cls)
    (h : ∀ h' T', Gone (env :: outer) e T T' cls s.heap h' → Q () { s with heap := h' }) : wpAny M A (leaving env (.ref e)) Q E s := by
  unfold leaving
  refine wpAny_bind (note_next hfr hl hf ht fun h1 T1 g1 => flight_off g1.fly fun h2 f2 k2 => h h2 T1 (gone_off hl (fun b m z => ?_) g1 f2 k2))
  obtain ⟨oe, vs, oT, ts, _, _, _, _, _, _, e6, e7, _⟩ := ht
  obtain ⟨_, o, ho, n⟩ := hl.mem m
  rw [z, e6] at ho; cases ho
  exact n ts e7
/-- it leaves the frame in which it was made -/
theorem leave_first {oe : Obj} {vs : Array Value} (hfr : A.frames = some (env :: outer)) (hl : s.heap.FunFrames base (env :: outer)) (hf : env.frame = some L) (he : s.heap.get? e = some oe) (hdi : oe.dict = none) (hd : oe.data = .fields vs) (h1 : vs[1]? = some .none)
    (h : ∀ h' T', Gone (env :: outer) e e T' oe.cls s.heap h' → Q () { s with heap := h' }) : wpAny M A (leaving env (.ref e)) Q E s := by
  unfold leaving
  refine wpAny_bind (note_first hfr hl hf he hdi hd h1 fun h1 T1 g1 => flight_off g1.fly fun h2 f2 k2 => h h2 T1 (gone_off hl (fun b m z => ?_) g1 f2 k2))
  obtain ⟨_, o, ho, n⟩ := hl.mem m
  rw [z, he] at ho; cases ho
  exact n vs hd
end
theorem ObjOk.there {P : Program} {w : World} {H : Hp} {h : Heap} {a : Addr} {o : HO} (x : ObjOk P w H h a o) : ∃ u, h.get? a = some u := by
  cases o with
  | lst xs => obtain ⟨_, _, _, _, e⟩ := x; exact ⟨_, e⟩
  | tup xs => obtain ⟨_, _, _, u, e, _⟩ := x; exact ⟨u, e⟩
  | dK kvs => obtain ⟨_, _, _, _, u, _, _, e, _⟩ := x; exact ⟨u, e⟩
  | dT kvs => obtain ⟨_, _, _, _, u, _, _, e, _⟩ := x; exact ⟨u, e⟩
  | set S n => obtain ⟨u, _, _, _, e, _⟩ := x; exact ⟨u, e⟩
  | ins C dx fs => obtain ⟨_, _, _, e, _⟩ := x; exact ⟨_, e⟩
  | own y => exact x
  | xd fs => obtain ⟨_, ⟨u, _, _, e, _⟩, _⟩ := x; exact ⟨u, e⟩
  | rng lo hi => obtain ⟨_, _, _, e⟩ := x; exact ⟨_, e⟩
  | frz ob u => obtain ⟨e, _⟩ := x; exact ⟨_, e⟩
  | tbl ps => exact ⟨_, (show h.get? a = some _ from x)⟩
  | met f y => exact ⟨_, (show h.get? a = some _ from x)⟩
  | ext φ => obtain ⟨_, e, _⟩ := x; exact e
/-- an exception that was made or came by: its class, the last entry of its trace (if any) is none of H -/
def Thr (h0 h : Heap) (H' : Hp) (a : Addr) (cls : Value) : Prop :=
  (∃ oe vs, h.get? a = some oe ∧ oe.cls = cls ∧ oe.dict = none ∧ oe.data = .fields vs ∧ vs[1]? = some .none) ∨ ∃ T, Fly h a T cls ∧ h0.get? T = none ∧ H' T = none
/-- what is behind an exception: the state, the abstract heap, the exception's object and class -/
structure Th (P : Program) (w : World) (stack : List Env) (H : Hp) (s : Shared) (H' : Hp) (s' : Shared) (a C : Addr) : Prop where
  os : s'.os = s.os
  bare : AllBare s'.gens
  un : Un (frs stack) [] H H' s.heap s'.heap
  hok : HOk P w H' s'.heap
  new : s.heap.get? a = none
  free : H' a = none
  thr : Thr s.heap s'.heap H' a (.ref C)
/-- how an exception lies behind a call -/
def CXE (P : Program) (w : World) : CXT := fun outer H s E e s' => ∃ a C H', e = .ref a ∧ Th P w outer H s H' s' a C ∧ (∃ T, Fly s'.heap a T (.ref C) ∧ s.heap.get? T = none ∧ H' T = none) ∧ E (.ref C) none H'
/-- an exception that is made here, or that a callee lets by, is as wanted -/
def Throws (X : Cx) (E : XK) : Prop := ∀ (pins : List (Addr × Obj)) (σ : St) (H : Hp) (s : Shared) (H' : Hp) (s' : Shared) (a C : Addr), Inv X pins σ H s → Th X.prog X.w X.stack H s H' s' a C → E (.ref C) none H' → X.xe (.ref a) s'
theorem Throws.passes {X : Cx} {E : XK} (h : Throws X E) : Passes (CXE X.prog X.w) X E := fun pins σ H s e s' I hx => by
  obtain ⟨a, C, H', rfl, t, _, q⟩ := hx
  exact h pins σ H s H' s' a C I t q
theorem ff_un {h h' base : Heap} {H H' : Hp} : ∀ {l : List Env} {fs : List Addr}, (∀ b ∈ frs l, b ∈ fs) → (∀ b ∈ frs l, H b = none) → Un fs [] H H' h h' → h.FunFrames base l → h'.FunFrames base l
  | [], _, _, _, _, _ => trivial
  | env :: rest, fs, hs, hn, u, ⟨k, ⟨L, o, hf, hb, ho, hd⟩, hr⟩ => by
    have mL : L ∈ frs (env :: rest) := by simp [frs, hf]
    have sub : ∀ b ∈ frs rest, b ∈ frs (env :: rest) := fun b m => by
      simp only [frs, List.filterMap_cons, hf]
      exact List.mem_cons_of_mem _ m
    obtain ⟨sl, e⟩ := u.slot L o ho (hn L mL) (hs L mL) (by simp)
    exact ⟨k, ⟨L, _, hf, hb, e, hd⟩, ff_un (fun b m => hs b (sub b m)) (fun b m => hn b (sub b m)) u hr⟩
section
variable {P : Program} {w : World} {K : PySem.W.Frag} {mg : Str → Option Value} {base : Heap} {N : List Str} {qual : Str} {scope : Scope} {f : Addr} {cd : Value} {A : Around} {outer : List Env} {s : Shared} {H : Hp} {E : XK}
/-- out of a def -/
theorem throws_cx : Throws (cxOf (CXE P w) P w K mg base N qual scope f cd A outer s H E) E := by
  intro pins σ H1 s1 H' s' a C I t q
  obtain ⟨X, hX⟩ : ∃ X, X = cxOf (CXE P w) P w K mg base N qual scope f cd A outer s H E := ⟨_, rfl⟩
  have tk := t.hok
  rw [← hX] at I t ⊢
  have e1 : X.stack = X.env :: outer := by rw [hX]; rfl
  have e2 : X.env.frame = some X.env.locals := by rw [hX]; rfl
  have e3 : X.s₀ = s := by rw [hX]; rfl
  have e4 : X.H₀ = H := by rw [hX]; rfl
  have e5 : X.fs = frs outer := by rw [hX]; rfl
  have e6 : X.ex = [] := by rw [hX]; rfl
  have e7 : X.env.locals = s.heap.objs.size := by rw [hX]; rfl
  have hfr := I.ok.frames
  have hff := ff_un (fun b m => m) I.stkFree t.un I.stack
  rw [e1] at hfr hff
  have hfrN : ∀ b ∈ frs (X.env :: outer), H' b = none := fun b m => by
    rw [← e1] at m
    obtain ⟨_, o, ho, _⟩ := I.stack.mem m
    exact t.un.free b o ho (I.stkFree b m) (by simp)
  have hb := I.base
  rw [e3, e4, e5, e6] at hb
  have big : ∀ T T' h', (T = a ∨ (s1.heap.get? T = none ∧ H' T = none)) → Gone (X.env :: outer) a T T' (.ref C) s'.heap h' → CXE P w outer H s E (.ref a) { s' with heap := h' } := fun T T' h' hT g => by
    have nT : ∀ b o, s1.heap.get? b = some o → b ≠ T := fun b o e z => by
      rcases hT with y | y
      · rw [z, y, t.new] at e; cases e
      · rw [z, y.1] at e; cases e
    have nA : ∀ b o, s1.heap.get? b = some o → b ≠ a := fun b o e z => by rw [z, t.new] at e; cases e
    have H'T : H' T = none := by
      rcases hT with y | y
      · rw [y]; exact t.free
      · exact y.2
    have H'T' : H' T' = none := by
      rcases g.tr with y | y
      · rw [y]; exact H'T
      · cases z : H' T' with
        | none => rfl
        | some o => obtain ⟨u, e⟩ := (t.hok T' o z).there; rw [y] at e; cases e
    have up : ∀ b o, s.heap.get? b = some o → ∃ o', s1.heap.get? b = some o' := fun b o e => hb.there b o e (by simp)
    have loc : ∀ b o, s.heap.get? b = some o → b ∉ frs outer → b ∉ frs (X.env :: outer) := fun b o e n m => by
      simp only [frs, List.filterMap_cons, e2] at m
      rcases List.mem_cons.mp m with z | z
      · rw [z, e7] at e; exact Nat.lt_irrefl _ (Heap.lt_size e)
      · exact n z
    have out : ∀ b, b ∈ frs outer → b ∈ frs (X.env :: outer) := fun b m => by
      simp only [frs, List.filterMap_cons, e2]
      exact List.mem_cons_of_mem _ m
    have one : ∀ b, s1.heap.get? b = none → s.heap.get? b = none := fun b e => by
      cases z : s.heap.get? b with
      | none => rfl
      | some o => obtain ⟨o', e'⟩ := up b o z; rw [e] at e'; cases e'
    have hT' : s.heap.get? T' = none := by
      rcases g.tr with y | y
      · rw [y]
        rcases hT with z | z
        · rw [z]; exact one a t.new
        · exact one T z.1
      · cases z : s.heap.get? T' with
        | none => rfl
        | some o =>
          obtain ⟨o1, z1⟩ := up T' o z
          obtain ⟨o2, z2⟩ := t.un.there T' o1 z1 (by simp)
          rw [y] at z2; cases z2
    refine ⟨a, C, H', rfl, ⟨t.os.trans (I.os.trans (by rw [e3])), t.bare, ⟨fun b o e n m _ => ?_, fun b o e n m _ => ?_, fun b o e n _ => ?_, fun b o e _ => ?_, fun b xs e => t.un.tups b xs (hb.tups b xs e), fun b o u e => t.un.frzs b o u (hb.frzs b o u e), fun b ps e => ?_⟩, fun b o e => ?_, one a t.new, t.free, .inr ⟨T', g.fly, hT', H'T'⟩⟩, ⟨T', g.fly, hT', H'T'⟩, q⟩
    · have k1 := hb.keep b o e n m (by simp)
      have k2 := t.un.keep b o k1 (hb.free b o e n (by simp)) (by rw [e1]; exact loc b o e m) (by simp)
      exact g.keep b o k2 (nA b o k1) (nT b o k1) (loc b o e m)
    · obtain ⟨sl, k1⟩ := hb.slot b o e n m (by simp)
      obtain ⟨sl2, k2⟩ := t.un.slot b _ k1 (hb.free b o e n (by simp)) (by rw [e1]; exact out b m) (by simp)
      obtain ⟨sl3, k3⟩ := g.slot b _ k2 (out b m)
      exact ⟨sl3, k3⟩
    · obtain ⟨o1, k1⟩ := up b o e
      exact t.un.free b o1 k1 (hb.free b o e n (by simp)) (by simp)
    · obtain ⟨o1, k1⟩ := up b o e
      obtain ⟨o2, k2⟩ := t.un.there b o1 k1 (by simp)
      by_cases m : b ∈ frs (X.env :: outer)
      · obtain ⟨sl, k3⟩ := g.slot b o2 k2 m
        exact ⟨_, k3⟩
      · exact ⟨_, g.keep b o2 k2 (nA b o1 k1) (nT b o1 k1) m⟩
    · obtain ⟨more, k1⟩ := hb.tbls b ps e
      obtain ⟨more2, k2⟩ := t.un.tbls b _ k1
      exact ⟨more ++ more2, by rw [k2, Array.append_assoc]⟩
    · refine (show ObjOk P w H' h' b o from (tk b o e).stay (fun c u hc k => g.keep c u k ?_ ?_ ?_) (fun _ z => z) fun _ _ z => z)
      all_goals
        intro z
        rcases hc with y | y
        · first
            | (rw [← y, z, t.free] at e; cases e)
            | (rw [← y, z, H'T] at e; cases e)
            | (rw [← y, hfrN c z] at e; cases e)
        · first
            | (rw [z, t.free] at y; cases y)
            | (rw [z, H'T] at y; cases y)
            | (rw [hfrN c z] at y; cases y)
  have hxe : X.xe (.ref a) s' = wpAny (model P w) X.A (leaving X.env (.ref a)) (fun _ s'' => CXE P w outer H s E (.ref a) s'') (fun e' s'' => CXE P w outer H s E e' s'') s' := by rw [hX]; rfl
  rw [hxe]
  rcases t.thr with ⟨oe, vs, h1, h2, hdi, h3, h4⟩ | ⟨T, h1, h2, h3⟩
  · refine leave_first hfr hff e2 h1 hdi h3 h4 fun h' T' g => ?_
    rw [h2] at g
    exact big a T' h' (.inl rfl) g
  · exact leave_next hfr hff e2 h1 fun h' T' g => big T T' h' (.inr ⟨h2, h3⟩) g
end

/-- a class of exceptions of the text's own without an __init__ of its own, as it lies behind the top -/
structure Exk (K : PySem.W.Frag) (mg : Str → Option Value) (x : Str) (C : Addr) : Prop where
  at_ : mg x = some (.ref C)
  ok : PySem.W.excIn K C [.type "ValueError", .type "Exception", .type "BaseException", .type "object"] "ValueError.__new__" = true
/-- C is a class below Cp -/
def subIn (K : PySem.W.Frag) (C Cp : Addr) : Bool := match K.lookup C with
  | some ⟨_, _, .cls cd, _⟩ => cd.mro.contains (.ref Cp)
  | _ => false
theorem exk_obj {K : PySem.W.Frag} {C : Addr} {bmB : List Value} {newId : String} (q : PySem.W.excIn K C bmB newId = true) :
    ∃ nm qn N bs bm hdct sn sub ab col dd k0 k1 k2 k3 k5, (∀ h : Heap, K.In h → h.get? C = some (excClassObj nm qn C N bs bm hdct sn sub ab col dd k0 k1 k2 k3 k5 newId)) ∧ PySem.W.nsOkIn K N = true ∧ PySem.W.nsIn K N "__init__" = some none ∧ PySem.W.tailIn K bmB bm = true ∧ ∀ Cp, subIn K C Cp = (Value.ref C :: bm).contains (.ref Cp) := by
  unfold PySem.W.excIn at q
  split at q
  next dd cd sl look =>
    split at q
    next C' bm k0 k1 k2 k3 n k5 em es =>
      simp only [Bool.and_eq_true, beq_iff_eq, Bool.not_eq_true'] at q
      rcases q with ⟨⟨⟨⟨⟨eC, en⟩, ed⟩, et⟩, ek⟩, ei⟩
      subst eC
      subst en
      refine ⟨cd.name, cd.qualname, cd.ns, cd.bases, bm, cd.hasDict, cd.slotNames, cd.subclasses, cd.abstract, cd.collection, dd, k0, k1, k2, k3, k5, fun h I => ?_, ek, ei, et, fun Cp => by unfold subIn; rw [look]; simp only [em]⟩
      rw [I _ _ look]
      have e1 : sl = #[k0, k1, k2, k3, some (.builtin n), k5] := by cases sl; simp only at es; rw [es]
      rw [e1]
      cases cd
      simp only at em ed
      rw [em, ed]
    next => cases q
  next => cases q
/-- raise C(..): E tells what is wanted -/
def tRaise (C : Addr) (E : XK) (t : TA) : TS := fun _ σ H => t σ H fun vs H1 => vs.length ≤ sizeLine ∧ E (.ref C) none H1
theorem ps_raise {X : Cx} {E : XK} {C : Addr} {x : Str} {np cpos pos : Pos} {e0 : Expr} {es : List Expr} {t : TA} (hT : Throws X E) (hc : X.calm = true) (k : Exk X.K X.mg x C) (hg : Gl X x) (ha : PA X (e0 :: es) t)
    (hdb : (x == ("__debug__" : Str)) = false := by decide) (he : starEach (e0 :: es) X.env = (false, eval e0 X.env) :: starEach es X.env := by rfl) (hpl : (backTo cpos (starEach es X.env)).any (·.1) = false := by rfl) :
    PS X (.Raise (some (.Call (.Name x np) (e0 :: es) [] cpos)) none pos) (tRaise C E t) := by
  intro pins s σ H D I h
  obtain ⟨nm, qn, N, bs, bm, hdct, sn, sub, ab, col, dd, k0, k1, k2, k3, k5, hC, hok, hni, htl, _⟩ := exk_obj k.ok
  have hB : X.base.Ns N (X.base.nsMap N) := .of_isNs (PySem.W.isNs_of_in I.mod.kin hok)
  refine wpAny_Raise_call_subT (nm := nm) (q := qn) (N := N) (bs := bs) (bm := bm) (hdct := hdct) (sn := sn) (sub := sub) (ab := ab) (col := col) (dd := dd) (k0 := k0) (k1 := k1) (k2 := k2) (k3 := k3) (k5 := k5) (mN := X.base.nsMap N) PySem.F.excBase_ValueError (OwnTail.hasType (PySem.W.tail_of_in I.kIn htl) (X := "BaseException") (by decide)) (I.ok.hd hc) ?_ (PySem.W.nsMap_none_of_in I.mod.kin hok hni) (ld_glob I hg k.at_ ⟨rfl, ?_⟩ hdb)
  · rw [he]
    show (false || (backTo cpos (starEach es X.env)).any (·.1)) = false
    rw [hpl]; rfl
  · have h1 := ha cpos pins s σ H _ I h
    rw [he] at h1 ⊢
    refine Calls.evalArgs_plain (thn h1 fun us s2 ⟨vs, H2, I2, r, q⟩ => ⟨rfl, ?_, hC _ I2.kIn, hB.keeps I2.bk, PySem.W.tail_of_in I2.kIn htl, fun h' e m => ?_⟩)
    · show us.length ≤ sizeLine
      rw [← r.length]; exact q.1
    · obtain ⟨tp, t1, t2, t3⟩ := m.there
      refine hT pins σ H2 s2 H2 _ e C I2 ⟨rfl, I2.bare, Un.kept m.keeps, I2.hok.kept m.keeps, m.new, ?_, .inl ⟨_, _, t1, rfl, rfl, rfl, rfl⟩⟩ q.2
      cases z : H2 e with
      | none => rfl
      | some o =>
        obtain ⟨u, y⟩ := (I2.hok e o z).there
        rw [m.new] at y; cases y
end L2

namespace L2
open PySem PySem.Spec PyProof.Rows
/-! ### an exception that is caught -/
section
variable {M : Model} {A : Around} {E : Value → Shared → Prop}
variable {nm q nm2 q2 : Str} {C N C2 N2 : Addr} {bs bm bs2 bm2 : List Value} {hdct hdct2 : Bool} {sn sn2 : List Str} {sub sub2 : List Value} {ab ab2 : Bool} {col col2 : Option Bool} {dd dd2 : Option Addr} {k0 k1 k2 k3 k5 j0 j1 j2 j3 j5 : Option Value} {newId newId2 : String}
/-- an exception of the own class C against the own class C2 -/
theorem match_own {h : Heap} {g : Array GenState} {d : Drawn} {t : Nat} {os : OsState} {e : Addr} {oe : Obj} {b : Bool} {Q : Bool → Shared → Prop}
    (hC : h.get? C = some (excClassObj nm q C N bs bm hdct sn sub ab col dd k0 k1 k2 k3 k5 newId)) (hC2 : h.get? C2 = some (excClassObj nm2 q2 C2 N2 bs2 bm2 hdct2 sn2 sub2 ab2 col2 dd2 j0 j1 j2 j3 j5 newId2))
    (he : h.get? e = some oe) (hcls : oe.cls = .ref C) (hbase : bm2.contains (.type "BaseException") = true) (hb : (Value.ref C :: bm).contains (.ref C2) = b)
    (hq : Q b ⟨h, g, d, t, os⟩) : wpAny M A (excMatches (.ref e) (.ref C2)) Q E ⟨h, g, d, t, os⟩ := by
  have hcB : (Value.ref C2 :: bm2).contains (.type "BaseException") = true := by rw [List.contains_cons, hbase, Bool.or_true]
  have f := tc_notTuple
  unfold excMatches
  repeat (first | (with_reducible refine wpAny_loadPart_at he ?_; rw [hcls]) | with_reducible refine wpAny_loadPart_at hC2 ?_ | (with_reducible refine wpAny_isSubtype_exc hC2 ?_; rw [hcB]) | (with_reducible refine wpAny_isSubtype_exc hC ?_; rw [hb]) | wp_step)
  cases b <;> (wp_walk; exact hq)
end

section
variable {X : Cx} {pins : List (Addr × Obj)} {σ : St} {H : Hp} {s : Shared}
/-- a frame's own dict is changed at the name x alone -/
theorem Inv.unset {i : Nat} {x : Str} {m : Str → Option Value} {u : Option Value} {h' : Heap} (I : Inv X pins σ H s) (hN : X.N.Nodup) (hi : X.N[i]? = some x) (hm : ∀ (j : Nat) (y : Str) (v : V), X.N[j]? = some y → σ[j]? = some (some v) → Vis X.env.scope y → ∃ u, RelV v u ∧ Look X.env s.heap m y u)
    (hn' : h'.Ns X.env.locals (fun y => if y = x then u else m y)) (hs : Heap.SameBut X.env.locals s.heap h') : Inv X pins (σ.set i none) H { s with heap := h' } := by
  obtain ⟨m0, ⟨oL, _, _, hoL, _⟩, _⟩ := id I.loc
  have lo : ∀ b o, X.s₀.heap.get? b = some o → b ≠ X.env.locals := fun b o e => Nat.ne_of_lt (Nat.lt_of_lt_of_le (Heap.lt_size e) I.ok.above)
  have iL : i < σ.length := by rw [I.len]; exact (List.getElem?_eq_some_iff.mp hi).1
  refine ⟨I.ok, I.os, I.bare, ⟨fun b o e n hb hx => (hs.2 b (lo b o e)).trans (I.base.keep b o e n hb hx), fun b o e n hb hx => ?_, I.base.free, fun b o e hx => ?_, I.base.tups, I.base.frzs, I.base.tbls⟩, ⟨_, hn', fun j y v e1 e2 e3 => ?_⟩, fun y c e => ?_, I.free, I.freeC, fun p hp => ?_, fun b o e => ?_, by simpa using I.len⟩
  · obtain ⟨sl, q⟩ := I.base.slot b o e n hb hx
    exact ⟨sl, (hs.2 b (lo b o e)).trans q⟩
  · obtain ⟨o', q⟩ := I.base.there b o e hx
    exact ⟨o', (hs.2 b (lo b o e)).trans q⟩
  · by_cases hj : i = j
    · subst hj
      rw [List.getElem?_set_self iL] at e2
      cases e2
    · rw [List.getElem?_set_ne hj] at e2
      obtain ⟨u', r', q⟩ := hm j y v e1 e2 e3
      have ny : y ≠ x := fun z => hj (nodup_ix hN hi (z ▸ e1))
      refine ⟨u', r', ?_⟩
      rcases q with ⟨k, z⟩ | ⟨k, c, z, z'⟩
      · exact .inl ⟨k, (if_neg ny).trans z⟩
      · exact .inr ⟨k, c, z, z'.sameBut hs (I.cne y c z)⟩
  · obtain ⟨w', z⟩ := I.cell y c e
    exact ⟨w', z.sameBut hs (I.cne y c e)⟩
  · obtain ⟨q, n, ne, nf, d⟩ := I.pin p hp
    exact ⟨(hs.2 p.1 ne).trans q, n, ne, nf, d⟩
  · refine (I.hok b o e).stay (fun c w' hc q => (hs.2 c fun z => ?_).trans q) (fun _ q => q) fun _ _ q => q
    rcases hc with y | y
    · rw [← y, z, I.free] at e; cases e
    · rw [z, I.free] at y; cases y
/-- behind an except suite the name is unbound -/
theorem unbind_ok {M : Model} {A : Around} {E : Value → Shared → Prop} {i : Nat} {x : Str} {pos : Pos} {Q : Unit → Shared → Prop} (I : Inv X pins σ H s) (hN : X.N.Nodup) (hi : X.N[i]? = some x) (hx : X.env.scope.names.lookup x = some .local)
    (h : ∀ s', Inv X pins (σ.set i none) H s' → Q () s') : wpAny M A (do bindName X.env x .none; unbindBehindTheSuite X.env x pos) Q E s := by
  refine wpAny_bind (wpAny_bindName (store_ok I hN hi (.inl hx) (v := .non) (u := .none) rfl (fun s1 I1 => ?_) (.inr hx)))
  obtain ⟨m, hn, hl⟩ := id I1.loc
  have iL : i < σ.length := by rw [I.len]; exact (List.getElem?_eq_some_iff.mp hi).1
  obtain ⟨u, ru, q⟩ := hl i x .non hi (List.getElem?_set_self iL) (.inl hx)
  have hk : X.env.kindOf x = some .local := hx
  have hv : m x = some u := by
    rcases q with ⟨_, z⟩ | ⟨z, _⟩
    · exact z
    · rw [hk] at z
      rcases z with z | z <;> cases z
  unfold unbindBehindTheSuite
  refine wpAny_onRaise (wpAny_unbindName_local hk hn hv (by rw [I.ok.kind]; rfl) fun h' u' hn' hs => ?_)
  have I2 := I1.unset hN hi hl hn' hs
  rw [List.set_set] at I2
  exact h _ I2
end

/-! ### the suite -/
/-- the exception's object, of the class at C -/
def ExcO (a C : Addr) : HO := .ext fun h => ∃ oe vs, h.get? a = some oe ∧ oe.cls = .ref C ∧ oe.dict = none ∧ oe.data = .fields vs
/-- the context of an except suite that lets nothing out -/
abbrev Cx.held (X : Cx) (v : Value) : Cx := { X with A := X.A.mark (some v), calm := false, xe := fun _ _ => False }
section
variable {X : Cx} {pins : List (Addr × Obj)} {σ : St} {H H' : Hp} {s s' : Shared} {v : Value}
theorem Cx.Ok.held (ok : X.Ok) : (X.held v).Ok :=
  ⟨ok.mod, ok.kind, ok.glob, ok.blt, ok.above, ok.inj, ok.has, ok.cab, fun z => (by cases z), ok.frames, ok.stk, ok.exf, ok.bs, ok.bsz, ok.noex, ok.exfs, ok.funs, ok.frf⟩
theorem Inv.held (I : Inv X pins σ H s) : Inv (X.held v) pins σ H s := ⟨I.ok.held, I.os, I.bare, I.base, I.loc, I.cell, I.free, I.freeC, I.pin, I.hok, I.len⟩
theorem Inv.unheld (ok : X.Ok) (I : Inv (X.held v) pins σ H s) : Inv X pins σ H s := ⟨ok, I.os, I.bare, I.base, I.loc, I.cell, I.free, I.freeC, I.pin, I.hok, I.len⟩
/-- the exception's object and its trace are changed, the frames' slots too -/
theorem th_step {P : Program} {w : World} {stack : List Env} {h0 h1 h2 : Heap} {a T : Addr} (un : Un (frs stack) [] H H' h0 h1) (hok : HOk P w H' h1) (na : h0.get? a = none) (nT : h0.get? T = none) (fa : H' a = none) (fT : H' T = none) (ff : ∀ b ∈ frs stack, H' b = none)
    (k : ∀ b o, h1.get? b = some o → b ≠ a → b ≠ T → b ∉ frs stack → h2.get? b = some o) (sl : ∀ b o, h1.get? b = some o → b ∈ frs stack → ∃ sl, h2.get? b = some { o with slots := sl }) : Un (frs stack) [] H H' h0 h2 ∧ HOk P w H' h2 := by
  have n1 : ∀ b o, h0.get? b = some o → b ≠ a ∧ b ≠ T := fun b o e => ⟨fun z => (by rw [z, na] at e; cases e), fun z => (by rw [z, nT] at e; cases e)⟩
  refine ⟨⟨fun b o e n m _ => k b o (un.keep b o e n m (by simp)) (n1 b o e).1 (n1 b o e).2 m, fun b o e n m _ => ?_, un.free, fun b o e _ => ?_, un.tups, un.frzs, un.tbls⟩, fun b o e => (hok b o e).stay (fun c u hc q => k c u q (fun z => ?_) (fun z => ?_) fun z => ?_) (fun _ z => z) fun _ _ z => z⟩
  · obtain ⟨s1, q1⟩ := un.slot b o e n m (by simp)
    obtain ⟨s2, q2⟩ := sl b _ q1 m
    exact ⟨s2, q2⟩
  · obtain ⟨o1, q1⟩ := un.there b o e (by simp)
    by_cases m : b ∈ frs stack
    · obtain ⟨s2, q2⟩ := sl b o1 q1 m
      exact ⟨_, q2⟩
    · exact ⟨o1, k b o1 q1 (n1 b o e).1 (n1 b o e).2 m⟩
  · rcases hc with y | y
    · rw [← y, z, fa] at e; cases e
    · rw [z, fa] at y; cases y
  · rcases hc with y | y
    · rw [← y, z, fT] at e; cases e
    · rw [z, fT] at y; cases y
  · rcases hc with y | y
    · rw [← y, ff c z] at e; cases e
    · rw [ff c z] at y; cases y
/-- it is caught, and the suite runs -/
theorem handled {i : Nat} {x n : Str} {np hpos : Pos} {b₀ : Stmt} {suite : List Stmt} {a C Cp : Addr} {D : Ends} {ts : TS} {bmB bmP : List Value} {newId newP : String} (I : Inv X pins σ H s) (hst : X.stack = X.env :: X.outer) (hfm : X.env.frame = some X.env.locals)
    (t : Th X.prog X.w X.stack H s H' s' a C) (hfly : ∃ T, Fly s'.heap a T (.ref C) ∧ s.heap.get? T = none ∧ H' T = none) (kC : PySem.W.excIn X.K C bmB newId = true) (kP : PySem.W.excIn X.K Cp bmP newP = true) (hbP : bmP.contains (.type "BaseException") = true) (hsub : subIn X.K C Cp = true)
    (hgx : Gl X x) (hmx : X.mg x = some (.ref Cp)) (hdx : (x == ("__debug__" : Str)) = false) (hN : X.N.Nodup) (hi : X.N[i]? = some n) (hln : X.env.scope.names.lookup n = some .local)
    (hs : PSs (X.held (.ref a)) (b₀ :: suite) ts) (q : ts { nx := fun σ' H' => D.nx (σ'.set i none) H', rt := D.rt } (σ.set i (some (.ref a))) (upd H' a (ExcO a C))) :
    wpAny (model X.prog X.w) X.A (noteFrame (.ref a) X.env) (fun _ s₂ => wpAny (model X.prog X.w) X.A (setFlight (.ref a) none) (fun _ s₃ =>
      wpAny (model X.prog X.w) X.A (handleBy (.ref a) X.env [.ExceptHandler (some (.Name x np)) (some n) (b₀ :: suite) hpos]) (SP X pins D) X.xe s₃) X.xe s₂) X.xe s' := by
  obtain ⟨T, fl, nT, fT⟩ := hfly
  have ff : ∀ b ∈ frs X.stack, H' b = none := fun b m => by
    obtain ⟨_, o, ho, _⟩ := I.stack.mem m
    exact t.un.free b o ho (I.stkFree b m) (by simp)
  have hff := ff_un (fun b m => m) I.stkFree t.un I.stack
  have hfr := I.ok.frames
  rw [hst] at hff hfr
  refine note_next hfr hff hfm fl fun h1 T1 g1 => ?_
  rw [← hst] at g1
  have nT1 : s.heap.get? T1 = none := by
    rcases g1.tr with z | z
    · rw [z]; exact nT
    · cases y : s.heap.get? T1 with
      | none => rfl
      | some o => obtain ⟨o', e⟩ := t.un.there T1 o y (by simp); rw [z] at e; cases e
  have fT1 : H' T1 = none := by
    rcases g1.tr with z | z
    · rw [z]; exact fT
    · cases y : H' T1 with
      | none => rfl
      | some o => obtain ⟨u, e⟩ := (t.hok T1 o y).there; rw [z] at e; cases e
  obtain ⟨un1, hok1⟩ := th_step t.un t.hok t.new nT t.free fT ff g1.keep g1.slot
  refine flight_off g1.fly fun h2 fl2 k2 => ?_
  obtain ⟨un2, hok2⟩ := th_step un1 hok1 t.new nT1 t.free fT1 ff (fun b o e _ z _ => k2 b o e z) (fun b o e m => ⟨o.slots, k2 b o e fun z => by
    obtain ⟨_, o', ho, _⟩ := I.stack.mem m
    rw [z, nT1] at ho; cases ho⟩)
  obtain ⟨nm, qn, N, bs, bm, hdct, sn, sub, ab, col, dd, k0, k1, k2', k3, k5, hC, _, _, _, hm⟩ := exk_obj kC
  obtain ⟨nm', qn', N', bs', bm', hdct', sn', sub', ab', col', dd', j0, j1, j2, j3, j5, hP, _, _, htP, _⟩ := exk_obj kP
  have I2 : Inv X pins σ H' { s' with heap := h2 } := I.call' (ch := []) t.os un2 hok2 t.bare fun b z => absurd z (by simp)
  refine wpAny_handleBy_cons (codeAny_handlers_test (ld_glob (X := X.held (.ref a)) I2.held hgx hmx ?_ hdx)) (by intro z; cases z)
  obtain ⟨oe, vs, oT, tts, e1, e2, _, e3, e4, e5, e6, e7, e8⟩ := id fl2
  refine match_own (hC h2 I2.kIn) (hP h2 I2.kIn) e1 e2 (OwnTail.hasType (PySem.W.tail_of_in I2.kIn htP) hbP) (b := true) ((hm Cp).symm.trans hsub) ?_
  refine codeAny_handlers_suite_as (flight_off (fl := .none) fl2 fun h3 fl3 k3' => ?_)
  obtain ⟨un3, hok3⟩ := th_step un2 hok2 t.new nT1 t.free fT1 ff (fun b o e _ z _ => k3' b o e z) (fun b o e m => ⟨o.slots, k3' b o e fun z => by
    obtain ⟨_, o', ho, _⟩ := I.stack.mem m
    rw [z, nT1] at ho; cases ho⟩)
  obtain ⟨oe3, vs3, _, _, y1, y2, y3, y4, _⟩ := id fl3
  have I3 : Inv X pins σ (upd H' a (ExcO a C)) { s' with heap := h3 } := by
    have nb : ∀ b o, s.heap.get? b = some o → b ≠ a := fun b o e z => by rw [z, t.new] at e; cases e
    have nh : ∀ b o, H' b = some o → b ≠ a := fun b o e z => by rw [z, t.free] at e; cases e
    refine I.call' (ch := []) t.os ⟨un3.keep, un3.slot, fun b o e n m => ?_, un3.there, fun b xs e => ?_, fun b o u e => ?_, fun b ps e => ?_⟩ (fun b o e => ?_) t.bare fun b z => absurd z (by simp)
    · rw [upd_ne (nb b o e)]; exact un3.free b o e n m
    · have := un3.tups b xs e
      rw [upd_ne (nh b _ this)]; exact this
    · have := un3.frzs b o u e
      rw [upd_ne (nh b _ this)]; exact this
    · obtain ⟨more, this⟩ := un3.tbls b ps e
      exact ⟨more, by rw [upd_ne (nh b _ this)]; exact this⟩
    · by_cases z : b = a
      · subst z
        rw [upd_same] at e
        cases e
        exact ⟨⟨oe3, vs3, y1, y2, y3, y4⟩, ⟨oe3, y1⟩, fun g1 g2 ⟨o, v, p1, p2⟩ k => ⟨o, v, k o p1, p2⟩⟩
      · rw [upd_ne z] at e
        exact (hok3 b o e).stay (fun _ _ _ z => z) (fun c z => by rw [upd_ne (nh c _ z)]; exact z) fun c xs z => by rw [upd_ne (nh c _ z)]; exact z
  refine store_ok (X := X.held (.ref a)) I3.held hN hi (.inl hln) (v := .ref a) (u := .ref a) rfl (fun s4 I4 => ?_) (.inr hln)
  refine wpAny_mono (hs pins s4 _ _ _ I4 q) (fun f s5 z => ?_) fun _ _ z => False.elim z
  cases f with
  | next =>
    obtain ⟨σ5, H5, I5, q5⟩ := z
    exact unbind_ok (I5.unheld I.ok) hN hi hln fun s6 I6 => ⟨_, _, I6, q5⟩
  | brk => obtain ⟨_, _, _, q5⟩ := z; exact False.elim q5
  | cont => obtain ⟨_, _, _, q5⟩ := z; exact False.elim q5
  | ret u =>
    obtain ⟨v5, σ5, H5, I5, r5, q5⟩ := z
    exact unbind_ok (I5.unheld I.ok) hN hi hln fun s6 I6 => ⟨v5, _, _, I6, r5, q5⟩
end

/-! ### defs that may refuse -/
def CalleeE (P : Program) (w : World) (K : PySem.W.Frag) (mg : Str → Option Value) (base : Heap) (x : Str) (k : Nat) (ps : List Str) (sp : Sp) : Prop :=
  ∃ f fd, FnOk P w K mg base (CXE P w) k f fd ps sp ∧ mg x = some (.ref f) ∧ PySem.W.keepIn K (.ref f) = true ∧ Binds K fd ps []
section
variable {X : Cx} {x y : Str} {k : Nat} {ps : List Str} {sp : Sp} {e : Expr} {es : List Expr} {t : TA} {p pos : Pos} {E : XK}
/-- a call whose errors go on -/
theorem pe_fnE (C : CalleeE X.prog X.w X.K X.mg X.base x k ps sp) (hT : Throws X E) (hr : Room k X.A) (hg : Gl X x) (ha : PA X (e :: es) t) (hdb : (x == ("__debug__" : Str)) = false := by decide)
    (he : starEach (e :: es) X.env = (false, eval e X.env) :: starEach es X.env := by rfl) (hpl : (backTo pos (starEach es X.env)).any (·.1) = false := by rfl) : PE X (.Call (.Name x p) (e :: es) [] pos) (tCall sp [] E t) := by
  obtain ⟨f, fd, F, hm, hk, hb⟩ := C
  exact pe_call F hr hg hm hk hb .nil hT.passes ha hdb he hpl
/-- THE RULE for a def that may refuse -/
theorem Fun.okE {P : Program} {w : World} {K : PySem.W.Frag} {mg : Str → Option Value} {base : Heap} {qual : Str} {st : Stmt} {f : Addr} {fd : FuncData} {N : List Str} (F : Fun K x qual st f fd) (S : FnScope N ps (defScope st)) (len : ∀ vs H Q E, sp vs H Q E → vs.length = ps.length)
    (hbody : ∀ (cdv : Value) (A : Around) (outer : List Env) (s : Shared) (H : Hp) (vs : List V) (Q : VK) (E : XK), Room k (A.deeper (envOfC qual (defScope st) s.heap.objs.size f cdv)) → sp vs H Q E →
      ∃ t, PSs (cxOf (CXE P w) P w K mg base N qual (defScope st) f cdv A outer s H E) (defBody st) t ∧ t { nx := fun _ H' => Q .non H', rt := Q } (start N vs) H) : FnOk P w K mg base (CXE P w) (k + 1) f fd ps sp := by
  obtain ⟨oc, od, kV, doc, pm, an, cdv, ct, osl, rfl, lk, hcd⟩ := F.ex
  exact fn_of lk hcd S len fun A outer s H vs Q E hr hsp => hbody cdv A outer s H vs Q E hr hsp
/-- try: f(..) with except C as n: a suite -/
def tTry (K : PySem.W.Frag) (Cp : Addr) (i : Nat) (sp : Sp) (t : TA) (ts : TS) : TS := fun D σ H => t σ H fun vs H1 => sp vs H1 (fun _ H2 => D.nx σ H2) fun cls _ H2 => ∃ C bmB newId, cls = .ref C ∧ PySem.W.excIn K C bmB newId = true ∧ subIn K C Cp = true ∧
  ∀ a, H2 a = none → ts { nx := fun σ' H' => D.nx (σ'.set i none) H', rt := D.rt } (σ.set i (some (.ref a))) (upd H2 a (ExcO a C))
theorem ps_try_fn {i : Nat} {n : Str} {np hpos cpos epos : Pos} {b₀ : Stmt} {suite : List Stmt} {Cp : Addr} {ts : TS} {bmP : List Value} {newP : String} (C : CalleeE X.prog X.w X.K X.mg X.base y k ps sp) (hr : Room k X.A) (hgy : Gl X y) (ha : PA X.nox (e :: es) t)
    (hst : X.stack = X.env :: X.outer) (hfm : X.env.frame = some X.env.locals) (kP : PySem.W.excIn X.K Cp bmP newP = true) (hbP : bmP.contains (.type "BaseException") = true) (hgx : Gl X x) (hmx : X.mg x = some (.ref Cp))
    (hN : X.N.Nodup) (hi : X.N[i]? = some n) (hln : X.env.scope.names.lookup n = some .local) (hs : ∀ a : Addr, PSs (X.held (.ref a)) (b₀ :: suite) ts) (hdx : (x == ("__debug__" : Str)) = false := by decide) (hdy : (y == ("__debug__" : Str)) = false := by decide)
    (he : starEach (e :: es) X.env = (false, eval e X.env) :: starEach es X.env := by rfl) (hpl : (backTo cpos (starEach es X.env)).any (·.1) = false := by rfl) (hsw : swapsWith (.Call (.Name y p) (e :: es) [] cpos) none epos.line X.env = pure false := by rfl) :
    PS X (.Try [.Expr (.Call (.Name y p) (e :: es) [] cpos) epos] [.ExceptHandler (some (.Name x np)) (some n) (b₀ :: suite) hpos] [] [] pos) (tTry X.K Cp i sp t ts) := by
  intro pins s σ H D I h
  obtain ⟨f, fd, F, hm, hk, hb⟩ := C
  refine wpAny_Try_except (wpAny_execs_cons (wpAny_Expr_any ?_ I.quiet hsw))
  refine wpAny_Call_Name_kw (ld_glob I hgy hm ?_ hdy)
  refine PySem.W.callWith_K (h₀ := X.base) I.ok.mod.kin hk (wpAny_mono (ha cpos pins s σ H _ (I.wish _) h) (fun us s1 ⟨vs, H1, I1, r, q⟩ => ⟨I1.kIn, ?_⟩) fun _ _ z => False.elim z) he hpl
  have I1 := I1.unwish
  have hl : us.length = ps.length := by rw [← r.length]; exact F.len _ _ _ _ q
  have hb' := hb s1 us I1.kIn (by rw [List.append_nil]; exact hl)
  rw [List.append_nil] at hb'
  refine wpAny_call (codeAny_mono (F.run X.A X.stack s1 H1 ⟨us, []⟩ us vs _ _ hr I1.env0 hb' r q) fun r s' hq => ?_)
  cases r with
  | error ev =>
    obtain ⟨a, C, H', rfl, th, hfl, C', bmB, newId, hc, kC, hsub, qs⟩ := hq
    cases hc
    exact handled I1 hst hfm th hfl kC kP hbP hsub hgx hmx hdx hN hi hln (hs a) (qs a th.free)
  | ok fl =>
    cases fl with
    | ret u =>
      obtain ⟨v, H2, I2, _, q2⟩ := I1.after hq
      exact wpAny_execs_nil (wpAny_execs_nil ⟨σ, H2, I2, q2⟩)
    | next => exact False.elim hq
    | brk => exact False.elim hq
    | cont => exact False.elim hq
end
end L2

namespace L2
open PySem PySem.Spec PySem.Calls PyProof.Rows PySem.W
/-! ### isinstance of a caught exception -/
/-- what is asked of an exception's class, for the answer no -/
structure ExcCls (K : PySem.W.Frag) (D : Addr) : Prop where
  hg : findIn K (.ref D) "__getattribute__" = some (some (.builtin "BaseException.__getattribute__"))
  hk : findIn K (.ref D) "__getattr__" = some none
  hb : mroIn K D (.type "BaseException") = some true
  hc : (clsIn K D).isSome = true
  ha : findIn K (.ref D) "__class__" = some (some (.builtin "object.__class__"))
  hn : specialIn K (.builtin "object.__class__") "__get__" = some (some (.builtin "getset_descriptor.__get__"))
  ht : takesIn K (.builtin "object.__class__") = some true
  hm : mroIn K D (.type "object") = some true
/-- a class against which it is asked: b the answer -/
structure AskC (K : PySem.W.Frag) (D : Addr) (c : Value) (b : Bool) : Prop where
  ty : ∀ (M : Model) (h : Heap), K.In h → Looks M h (typeOf c) (.type "type")
  is : ∀ (M : Model) (h : Heap), K.In h → Looks M h (isType c) true
  sub : ∀ (M : Model) (h : Heap), K.In h → Looks M h (isSubtype (.ref D) c) b
section
variable {prog : Program} {w : World} {A : Around} {E : Value → Shared → Prop} {s : Shared} {K : PySem.W.Frag} {x D : Addr} {ox : Obj} {c : Value}
theorem exc_check {nameV : Value} {Q : Unit → Shared → Prop} (k : ExcCls K D) (X : K.In s.heap) (I : InstAt s.heap x ox D none) (h : Q () s) : wpAny (model prog w) A (checkBuiltinCall "BaseException.__getattribute__" ⟨[.ref x, nameV], []⟩) Q E s := by
  obtain ⟨hh, g, d, t, os⟩ := s
  have hk : builtinKind "BaseException.__getattribute__" = some .slot := by decide +kernel
  have hsplit : splitId "BaseException.__getattribute__" = some ("BaseException", "__getattribute__") := by decide +kernel
  have ha := PySem.F.args_bexc_ga (.ref x) nameV
  have L0 := I.type (M := model prog w)
  have LI : Looks (model prog w) hh (isInstance (.ref x) (.type "BaseException")) true := L0.andThen (looks_mroIn (M := model prog w) X k.hb)
  simp only [checkBuiltinCall, hk, hsplit]
  refine wpAny_bind (LI.at ?_)
  repeat (first | exact h | wp_step)
theorem exc_entry {tk : Tok} {Q : Fin → Shared → Prop} (k : ExcCls K D) (X : K.In s.heap) (I : InstAt s.heap x ox D none) (h : Q (.done (.ret (.ref D))) s) : wpAny (model prog w) A (Builtin.«object.__getattribute__» ⟨[.ref x, .str "__class__" tk], []⟩) Q E s := by
  have hf : findObj K D none "__class__" = some (.bind (.builtin "getset_descriptor.__get__") (.builtin "object.__class__")) := by
    obtain ⟨cd, hc⟩ := Option.isSome_iff_exists.mp k.hc
    unfold findObj
    rw [hc, Option.bind_some, k.ha, Option.bind_some]
    simp [k.hn, k.ht]
  obtain ⟨hh, g, d, t, os⟩ := s
  have L0 := I.type (M := model prog w)
  have L1 := looks_find (M := model prog w) X I hf
  refine wpAny_bind (wpAny_pure (wpAny_bind (wpAny_pure (wpAny_bind (L0.at (wpAny_bind (L1.at ?_)))))))
  show wpAny _ _ (holding [.builtin "object.__class__"] (call (.builtin "getset_descriptor.__get__") [.builtin "object.__class__", .ref x, .ref D]) >>= ret) _ _ _
  exact wpAny_bind (wpAny_holding (wpAny_call (class_get (s := ⟨hh, g, d, t, os⟩) (ox := ox) (od := none) X I k.hm (wpAny_pure h))))
theorem exc_class {Q : Option Value → Shared → Prop} (k : ExcCls K D) (X : K.In s.heap) (I : InstAt s.heap x ox D none) (h : Q (some (.ref D)) { s with toks := s.toks + 1 }) : wpAny (model prog w) A (getAttr? (.ref x) "__class__") Q E s := by
  obtain ⟨hh, g, d, t, os⟩ := s
  have L0 := I.type (M := model prog w)
  have L1 := looks_findIn (M := model prog w) X k.hg
  have L2 := looks_findIn (M := model prog w) X k.hk
  have f3 := PySem.F.attr_ValueError.ga.bind (.ref x)
  unfold getAttr? getAttrBy? getAttrBy
  refine wpAny_bind (wpAny_mkText (wpAny_bind (wpAny_attempt (wpAny_holding (wpAny_bind (L0.at (wpAny_bind (L1.at ?_))))))))
  have hne : (Value.builtin "BaseException.__getattribute__" == Value.builtin "object.__getattribute__") = false := by decide +kernel
  show wpAny _ _ (if (onTheHeap (.ref D) && Value.builtin "BaseException.__getattribute__" == Value.builtin "object.__getattribute__") = true then _ else getAttrByItsOwn _ _ _ _ _ _) _ _ _
  rw [hne, Bool.and_false, if_neg (by decide)]
  unfold getAttrByItsOwn
  refine wpAny_bind (L2.at ?_)
  refine wpAny_bind (wpAny_attempt (wpAny_holding ?_))
  show wpAny _ _ (boundAndCalled _ _ _) _ _ _
  unfold boundAndCalled
  rw [f3]
  refine wpAny_bind (wpAny_pure (wpAny_call (codeAny_call_builtin PySem.F.attr_ValueError.ga.plain PySem.F.entry_bexc_ga (exc_check k X I (exc_entry k X I ?_)))))
  exact wpAny_pure (wpAny_pure h)
theorem exc_nested {b : Bool} {dep : Int} {tk : Tok} {Q : Fin → Shared → Prop} (k : ExcCls K D) (a : AskC K D c b) (X : K.In s.heap) (I : InstAt s.heap x ox D none) (hb : (Value.ref D == c) = true → b = true) (h : ∀ t, Q (.done (.ret (.bool b))) { s with toks := t }) :
    wpAny (model prog w) A (Builtin.«isinstance.nested» ⟨[.ref x, c, .int dep tk], []⟩) Q E s := by
  have hisD : Looks (model prog w) s.heap (isType (.ref D)) true := by
    have hc := k.hc
    unfold clsIn at hc
    split at hc
    · rename_i c' d' cd' sl' ho
      intro A' Q' E' s' kk q
      unfold isType loadHead
      exact wpAny_bind (wpAny_loadPart (kk _ _ (X _ _ ho)) (wpAny_pure q))
    · cases hc
  obtain ⟨h0, g, d, tt, os⟩ := s
  have L0 := I.type (M := model prog w)
  have LI : Looks (model prog w) h0 (isInstance (.ref x) c) b := L0.andThen (a.sub _ _ X)
  unfold Builtin.«isinstance.nested»
  refine wpAny_bind (L0.at ?_)
  by_cases q : (Value.ref D == c) = true
  · rw [if_pos q]
    have := hb q
    subst this
    exact wpAny_bind (wpAny_rule (wpAny_bind (wpAny_pure (wpAny_pure (h tt)))))
  · rw [if_neg q]
    refine wpAny_bind ((a.ty _ _ X).at ?_)
    rw [if_pos (by decide)]
    k_delta "plainIsInstance"
    refine wpAny_bind (wpAny_bind ((a.is _ _ X).at ?_))
    simp only [Bool.not_true, Bool.false_eq_true, if_false]
    refine wpAny_bind (LI.at ?_)
    cases b with
    | true =>
      simp only [if_true]
      exact wpAny_pure (wpAny_pure (h tt))
    | false =>
      simp only [Bool.false_eq_true, if_false]
      refine wpAny_bind (exc_class k X I ?_)
      refine wpAny_bind (hisD.at ?_)
      simp only [Bool.not_true, Bool.false_eq_true, if_false]
      refine wpAny_bind (wpAny_rule ?_)
      refine (a.sub _ _ X).at ?_
      first
        | exact wpAny_pure (h _)
        | exact wpAny_pure (wpAny_pure (h _))
        | exact wpAny_bind (wpAny_pure (wpAny_pure (h _)))
theorem exc_isi {b : Bool} {Q : Value → Shared → Prop} (k : ExcCls K D) (a : AskC K D c b) (X : K.In s.heap) (I : InstAt s.heap x ox D none) (hb : (Value.ref D == c) = true → b = true) (h : ∀ t, Q (.bool b) { s with toks := t }) : wpAny (model prog w) A (call (.builtin "isinstance") [.ref x, c]) Q E s :=
  call_isinstance (S := fun _ R s => (K.In s.heap ∧ InstAt s.heap x ox D none) ∧ ∀ t, R (.ok (.ret (.bool b))) { s with toks := t })
    (fun _ _ _ _ _ hs => isinstance_outer (exc_nested k a hs.1.1 hs.1.2 hb hs.2) (by intro q; cases q)) ⟨⟨X, I⟩, h⟩
end
/-- isinstance(e, an own class or a built-in one) -/
def rIsiE (K : PySem.W.Frag) : List V → Hp → VK → Prop := fun vs H Q => ∃ (a C : Addr) (c : V) (u : Value) (b : Bool), vs = [.ref a, c] ∧ (∀ u', RelV c u' → u' = u) ∧ H a = some (ExcO a C) ∧ ExcCls K C ∧ AskC K C u b ∧ ((Value.ref C == u) = true → b = true) ∧ Q (.bl b) H
theorem call_isiE {X : Cx} : CallR X (.builtin "isinstance") (rIsiE X.K) := by
  intro pins s σ H vs us Q I r h
  obtain ⟨a, C, c, u, b, rfl, hu, hH, kC, ka, hb, q⟩ := h
  obtain ⟨u1, u2, rfl, ru, ru2⟩ := vals2 r
  obtain rfl : u1 = Value.ref a := ru
  obtain rfl := hu _ ru2
  obtain ⟨⟨oe, vs', e1, e2, e3, e4⟩, _, _⟩ := I.hok a _ hH
  refine exc_isi kC ka I.kIn (ox := oe) ⟨e1, e2, ?_, by rw [e3]; trivial⟩ hb fun t => ⟨.bl b, H, I.tok t, rfl, q⟩
  unfold notCls
  rw [e4]

/-- the class of the name x as it lies behind the top -/
def clsA (K : PySem.W.Frag) (x : Str) : Addr := match PySem.W.nsIn K mainGlobals x with
  | some (some (.ref C)) => C
  | _ => 0
theorem clsA_of {K : PySem.W.Frag} {x : Str} {C : Addr} (h : PySem.W.nsIn K mainGlobals x = some (some (.ref C))) : clsA K x = C := by unfold clsA; rw [h]
/-- is the class at C one below the class at C2: b -/
def askB (K : PySem.W.Frag) (C C2 : Addr) (b : Bool) : Bool := (clsIn K C2).isSome && typeIn K (.ref C2) == some (.type "type") && PySem.W.subIn K (.ref C) (.ref C2) == some b
theorem ask_own {K : PySem.W.Frag} {C C2 : Addr} {b : Bool} (e : askB K C C2 b = true) : AskC K C (.ref C2) b := by
  unfold askB at e
  simp only [Bool.and_eq_true, beq_iff_eq] at e
  obtain ⟨⟨e1, e2⟩, e3⟩ := e
  refine ⟨fun M h X => looks_typeIn X e2, fun M h X => ?_, fun M h X => looks_subIn X e3⟩
  unfold clsIn at e1
  split at e1
  · rename_i c' d' cd' sl' ho
    intro A' Q' E' s' kk q
    unfold isType loadHead
    exact wpAny_bind (wpAny_loadPart (kk _ _ (X _ _ ho)) (wpAny_pure q))
  · cases e1
theorem ask_VE {K : PySem.W.Frag} {C : Addr} {b : Bool} (e : PySem.W.subIn K (.ref C) (.type "ValueError") = some b) : AskC K C (.type "ValueError") b :=
  ⟨fun M h _ => Looks.of_pure (by kernel_rfl), fun M h _ => Looks.of_pure (by kernel_rfl), fun M h X => looks_subIn X e⟩
/-- a call of a def that may refuse, and does not -/
theorem pe_fnS {X : Cx} {x : Str} {k : Nat} {ps : List Str} {sp : Sp} {e : Expr} {es : List Expr} {t : TA} {p pos : Pos} (C : CalleeE X.prog X.w X.K X.mg X.base x k ps sp) (hr : Room k X.A) (hg : Gl X x) (ha : PA X (e :: es) t) (hdb : (x == ("__debug__" : Str)) = false := by decide)
    (he : starEach (e :: es) X.env = (false, eval e X.env) :: starEach es X.env := by rfl) (hpl : (backTo pos (starEach es X.env)).any (·.1) = false := by rfl) : PE X (.Call (.Name x p) (e :: es) [] pos) (tCall sp [] E0 t) := by
  obtain ⟨f, fd, F, hm, hk, hb⟩ := C
  exact pe_call F hr hg hm hk hb .nil (fun _ _ _ _ _ _ _ h => by obtain ⟨_, _, _, _, _, _, q⟩ := h; exact q.elim) ha hdb he hpl
end L2

namespace L2
open PySem PySem.Spec PyProof.Rows PySem.SeqAt
open PySem.AutoSeq1 (wpAny_loadPart')
open PySem.MeetsSeq PySem.MeetsSeq2 PySem.MeetsSeq3
/-! ### < of deep data -/
def RcLtAt (A : Around) (s : Shared) (x y : Value) (b : Bool) : Prop :=
  ∀ (prog : Program) (w : World) (E : Value → Shared → Prop) (Q : Value → Shared → Prop), Q (.bool b) s → wpAny (model prog w) A (richCompare .Lt x y) Q E s
/-- items one by one -/
inductive LexAt (A : Around) (s : Shared) : List Value → List Value → Bool → Prop where
  | nil : LexAt A s [] [] false
  | lt (w : Value) (ws : List Value) : LexAt A s [] (w :: ws) true
  | gt (v : Value) (vs : List Value) : LexAt A s (v :: vs) [] false
  | eq {v w : Value} {vs ws : List Value} {b : Bool} (h : EqAt A s v w true) (t : LexAt A s vs ws b) : LexAt A s (v :: vs) (w :: ws) b
  | ne {v w : Value} {vs ws : List Value} {b : Bool} (h : EqAt A s v w false) (l : RcLtAt A s v w b) : LexAt A s (v :: vs) (w :: ws) b

theorem tuple_ltAt (l b : Addr) (items items2 : Array Value) (n n2 : Nat) (dd dd2 : Option Addr) (sl sl2 : Array (Option Value)) (c : Bool) :
    Meets (Builtin.«tuple.__lt__» ⟨[.ref l, .ref b], []⟩)
      (fun A R s => s.heap.get? l = some { cls := .type "tuple", dict := dd, data := .seq items n, slots := sl } ∧ s.heap.get? b = some { cls := .type "tuple", dict := dd2, data := .seq items2 n2, slots := sl2 } ∧
        LexAt A.in1 s items.toList items2.toList c ∧ R (.ok (.ret (.bool c))) s) :=
  .of_wp fun prog w A R s h => by
    obtain ⟨hp, g, d, tk, os⟩ := s; obtain ⟨hl, hb, hx, h⟩ := h
    have f2 := AutoSeq1.sub_tuple_tuple
    wp_walk using wpAny_loadPart' hl, wpAny_loadPart' hb, wpAny_forIn_list _ (fun rest b s' => b.1 = none ∧ s' = ⟨hp, g, d, tk, os⟩ ∧ ∃ (vs ws : List Value), rest = vs.zip ws ∧
      LexAt A.in1 ⟨hp, g, d, tk, os⟩ vs ws c ∧ vs.length + items2.size = ws.length + items.size) _
    case turn =>
      rintro ⟨y, x⟩ rest b s' ⟨hb', rfl, vs, ws, hz, hvi, hlen⟩
      cases hvi with
      | nil => rw [List.zip_nil_left] at hz; cases hz
      | lt => rw [List.zip_nil_left] at hz; cases hz
      | gt => rw [List.zip_nil_right] at hz; cases hz
      | eq he ht =>
        rw [List.zip_cons_cons] at hz
        injection hz with hyx hrest
        injection hyx with hy hx
        subst hy hx
        simp only [List.length_cons] at hlen
        refine wpAny_bind (he prog w _ _ ?_)
        wp_walk
        exact ⟨rfl, rfl, _, _, hrest, ht, by omega⟩
      | ne he hL =>
        rw [List.zip_cons_cons] at hz
        injection hz with hyx hrest
        injection hyx with hy hx
        subst hy hx
        refine wpAny_bind (he prog w _ _ ?_)
        have hri := hL prog w
        wp_walk using hri
        exact ⟨_, rfl, by simpa using h⟩
    case fin =>
      rintro ⟨b1, b2⟩ s' ⟨hb', rfl, vs, ws, hz, hvi, hlen⟩
      simp only at hb'
      subst hb'
      have hv : c = decide (items.size < items2.size) := by
        cases hvi with
        | nil =>
          simp only [List.length_nil] at hlen
          exact (decide_eq_false (by omega)).symm
        | lt =>
          simp only [List.length_nil, List.length_cons] at hlen
          exact (decide_eq_true (by omega)).symm
        | gt =>
          simp only [List.length_nil, List.length_cons] at hlen
          exact (decide_eq_false (by omega)).symm
        | eq => rw [List.zip_cons_cons] at hz; cases hz
        | ne => rw [List.zip_cons_cons] at hz; cases hz
      rw [hv] at h
      wp_walk
      exact ⟨_, rfl, by simpa [Builtin.Tuple.tupleCompareSizes] using h⟩
    case h =>
      exact ⟨rfl, rfl, items.toList, items2.toList, rfl, hx, by simp [Nat.add_comm]⟩

theorem lt_loopAt (l b : Addr) (items items2 : Array Value) (n n2 : Nat) (dd dd2 : Option Addr) (sl sl2 : Array (Option Value)) (c : Bool) (k : Nat) :
    ∀ i : Nat, items.size - i = k → i ≤ items.size → i ≤ items2.size → Meets (Builtin.«list.__eq__.loop» ⟨[.ref l, .ref b, rawInt i, rawInt 0], []⟩)
      (fun A R s => s.heap.get? l = some { cls := .type "list", dict := dd, data := .seq items n, slots := sl } ∧ s.heap.get? b = some { cls := .type "list", dict := dd2, data := .seq items2 n2, slots := sl2 } ∧
        LexAt A.in1 s (items.toList.drop i) (items2.toList.drop i) c ∧ R (.ok (.ret (.bool c))) s) := by
  induction k with
  | zero =>
    intro i hk hi hi2 prog w A R s h
    obtain ⟨hp, g, d, tk, os⟩ := s; obtain ⟨hl, hb, hx, h⟩ := h
    have e1 : items.toList.drop i = [] := by simp; omega
    rw [e1] at hx
    have hv : c = decide (items.size < items2.size) := by
      generalize e2 : items2.toList.drop i = r at hx
      have l2 := congrArg List.length e2
      simp only [List.length_drop, Array.length_toList] at l2
      cases hx with
      | nil => simp only [List.length_nil] at l2; exact (decide_eq_false (by omega)).symm
      | lt => simp only [List.length_cons] at l2; exact (decide_eq_true (by omega)).symm
    wp_walk using wpAny_loadPart' hl, wpAny_loadPart' hb
    have hi1 : items[((i : Nat) : Int).toNat]? = none := by simp; omega
    rw [hi1]
    wp_walk using wpAny_loadPart' hl, wpAny_loadPart' hb
    show R (.ok (.ret (.bool (decide (items.size < items2.size))))) _
    rw [← hv]
    exact h
  | succ k ih =>
    intro i hk hi hi2 prog w A R s h
    obtain ⟨hp, g, d, tk, os⟩ := s; obtain ⟨hl, hb, hx, h⟩ := h
    have hlt : i < items.size := by omega
    have hi1 : items[((i : Nat) : Int).toNat]? = some items[i] := by simp [hlt]
    have e1 : items.toList.drop i = items[i] :: items.toList.drop (i + 1) := by simp [List.drop_eq_getElem_cons, hlt]
    rw [e1] at hx
    wp_walk using wpAny_loadPart' hl, wpAny_loadPart' hb
    by_cases hlt2 : i < items2.size
    · have hj1 : items2[((i : Nat) : Int).toNat]? = some items2[i] := by simp [hlt2]
      have e2 : items2.toList.drop i = items2[i] :: items2.toList.drop (i + 1) := by simp [List.drop_eq_getElem_cons, hlt2]
      have hc : ((i : Int) + 1) = ((i + 1 : Nat) : Int) := by push_cast; rfl
      rw [e2] at hx
      rw [hi1, hj1]
      cases hx with
      | eq he ht =>
        refine wpAny_bind (he prog w _ _ ?_)
        wp_walk
        rw [hc]
        exact ⟨plainId_quiet plain_eq_loop _, codeAny_builtin entry_eq_loop (by
          rw [Around.under_plainId plain_eq_loop _]
          exact ih (i + 1) (by omega) (by omega) (by omega) prog w A R _ ⟨hl, hb, ht, h⟩)⟩
      | ne he hL =>
        refine wpAny_bind (he prog w _ _ ?_)
        have hri := hL prog w
        wp_walk using wpAny_loadPart' hl, wpAny_loadPart' hb
        rw [hi1, hj1]
        wp_walk using hri
        exact h
    · have hj1 : items2[((i : Nat) : Int).toNat]? = none := by simp; omega
      have e2 : items2.toList.drop i = [] := by simp; omega
      rw [e2] at hx
      have hv : c = decide (items.size < items2.size) := by
        cases hx
        exact (decide_eq_false (by omega)).symm
      rw [hi1, hj1]
      wp_walk using wpAny_loadPart' hl, wpAny_loadPart' hb
      show R (.ok (.ret (.bool (decide (items.size < items2.size))))) _
      rw [← hv]
      exact h

theorem list_ltAt (l b : Addr) (items items2 : Array Value) (n n2 : Nat) (dd dd2 : Option Addr) (sl sl2 : Array (Option Value)) (c : Bool) :
    Meets (Builtin.«list.__lt__» ⟨[.ref l, .ref b], []⟩)
      (fun A R s => s.heap.get? l = some { cls := .type "list", dict := dd, data := .seq items n, slots := sl } ∧ s.heap.get? b = some { cls := .type "list", dict := dd2, data := .seq items2 n2, slots := sl2 } ∧
        LexAt A.in1 s items.toList items2.toList c ∧ R (.ok (.ret (.bool c))) s) := by
  intro prog w A R s h
  obtain ⟨hp, g, d, tk, os⟩ := s; obtain ⟨hl, hb, hx, h⟩ := h
  have f3 := AutoSeq1.sub_list_list
  wp_walk using wpAny_loadPart' hl, wpAny_loadPart' hb
  exact ⟨plainId_quiet plain_eq_loop _, codeAny_builtin entry_eq_loop (by
    rw [Around.under_plainId plain_eq_loop _]
    exact lt_loopAt l b items items2 n n2 dd dd2 sl sl2 c _ 0 rfl (Nat.zero_le _) (Nat.zero_le _) prog w A R _ ⟨hl, hb, by simpa using hx, h⟩)⟩

section
variable {A : Around} {s : Shared}
theorem RcLtAt.tuples {l b : Addr} {items items2 : Array Value} {c : Bool} (hl : IsTup s.heap l items) (hb : IsTup s.heap b items2) (hx : LexAt A.in1 s items.toList items2.toList c) (hu : A.units < cLine) : RcLtAt A s (.ref l) (.ref b) c := fun prog w E Q h => by
  obtain ⟨⟨cls, dd, data, sl⟩, ho, hc, n, hd⟩ := id hl
  obtain ⟨⟨cls2, dd2, data2, sl2⟩, ho2, hc2, n2, hd2⟩ := id hb
  simp only at hc hd hc2 hd2
  subst hc hd hc2 hd2
  exact richCompare_meets_room (op := .Lt) ⟨_, ho, rfl⟩ ⟨_, ho2, rfl⟩ PySem.F.slot_tuple_lt PySem.F.entry_tuple_lt (PySem.F.args_tuple_lt_2 _ _) (tuple_ltAt l b items items2 n n2 dd dd2 sl sl2 c)
    ⟨ho, ho2, hx, show Value.bool c ≠ Value.notImplemented ∧ Q (.bool c) s from ⟨(fun x => nomatch x), h⟩⟩ hu
theorem RcLtAt.lists {l b : Addr} {items items2 : Array Value} {c : Bool} (hl : s.heap.IsList l items) (hb : s.heap.IsList b items2) (hx : LexAt A.in1 s items.toList items2.toList c) (hu : A.units < cLine) : RcLtAt A s (.ref l) (.ref b) c := fun prog w E Q h => by
  obtain ⟨⟨cls, dd, data, sl⟩, ho, hc, n, hd⟩ := id hl
  obtain ⟨⟨cls2, dd2, data2, sl2⟩, ho2, hc2, n2, hd2⟩ := id hb
  simp only at hc hd hc2 hd2
  subst hc hd hc2 hd2
  exact richCompare_meets_room (op := .Lt) ⟨_, ho, rfl⟩ ⟨_, ho2, rfl⟩ PySem.F.slot_list_lt PySem.F.entry_list_lt (PySem.F.args_list_lt_2 _ _) (list_ltAt l b items items2 n n2 dd dd2 sl sl2 c)
    ⟨ho, ho2, hx, show Value.bool c ≠ Value.notImplemented ∧ Q (.bool c) s from ⟨(fun x => nomatch x), h⟩⟩ hu
/-- the sort's own question, of two lists -/
theorem oneLt_lists {prog : Program} {w : World} {E : Value → Shared → Prop} {l b : Addr} {items items2 : Array Value} {c : Bool} {Q : Bool → Shared → Prop} (hl : s.heap.IsList l items) (hb : s.heap.IsList b items2) (hx : LexAt A.in1 s items.toList items2.toList c) (hu : A.units < cLine) (h : Q c s) :
    wpAny (model prog w) A (oneLt' true (.ref l) (.ref b)) Q E s := by
  obtain ⟨⟨cls, dd, data, sl⟩, ho, hc, n, hd⟩ := id hl
  obtain ⟨⟨cls2, dd2, data2, sl2⟩, ho2, hc2, n2, hd2⟩ := id hb
  simp only at hc hd hc2 hd2
  subst hc hd hc2 hd2
  rw [oneLt'_eq]
  simp only [if_true]
  refine wpAny_bind (wpAny_cRoomFor hu ?_)
  refine wpAny_bind (wpAny_callSpecialIfBound?_slot (T := "list") ⟨_, ho, rfl⟩ PySem.F.slot_list_lt (call_meets PySem.F.slot_list_lt ⟨_, ho, rfl⟩ PySem.F.entry_list_lt (PySem.F.args_list_lt_2 _ _) (list_ltAt l b items items2 n n2 dd dd2 sl sl2 c) ⟨ho, ho2, hx, ?_⟩))
  exact wpAny_truthy_bool h
end
/-! ### orders of lists -/
def listBlt (O : KeyOrd) : List O.α → List O.α → Bool
  | [], [] => false
  | [], _ :: _ => true
  | _ :: _, [] => false
  | x :: xs, y :: ys => O.blt x y || (!O.blt y x && listBlt O xs ys)
theorem listBlt_cons (O : KeyOrd) (x y : O.α) (xs ys : List O.α) : listBlt O (x :: xs) (y :: ys) = (O.blt x y || (!O.blt y x && listBlt O xs ys)) := rfl
theorem listBlt_irrefl (O : KeyOrd) : ∀ xs, listBlt O xs xs = false
  | [] => rfl
  | x :: xs => by rw [listBlt_cons, O.irrefl, listBlt_irrefl O xs]; rfl
theorem listBlt_trans (O : KeyOrd) : ∀ xs ys zs, listBlt O xs ys = true → listBlt O ys zs = true → listBlt O xs zs = true
  | [], [], _, h, _ => by cases h
  | [], _ :: _, [], _, k => by cases k
  | [], _ :: _, _ :: _, _, _ => rfl
  | _ :: _, [], _, h, _ => by cases h
  | _ :: _, _ :: _, [], _, k => by cases k
  | x :: xs, y :: ys, z :: zs, h1, h2 => by
    rw [listBlt_cons] at *
    simp only [Bool.or_eq_true, Bool.and_eq_true, Bool.not_eq_true'] at h1 h2 ⊢
    rcases h1 with h1 | ⟨h1, k1⟩ <;> rcases h2 with h2 | ⟨h2, k2⟩
    · exact .inl (O.trans _ _ _ h1 h2)
    · exact .inl (KeyOrd.klt_of_klt_of_kle h1 h2)
    · exact .inl (KeyOrd.klt_of_kle_of_klt h1 h2)
    · exact .inr ⟨KeyOrd.kle_trans (O := O) h1 h2, listBlt_trans O xs ys zs k1 k2⟩
theorem listBlt_neg (O : KeyOrd) : ∀ xs ys zs, listBlt O xs zs = true → listBlt O xs ys = true ∨ listBlt O ys zs = true
  | [], [], [], h => by cases h
  | [], [], _ :: _, _ => .inr rfl
  | [], _ :: _, _, _ => .inl rfl
  | _ :: _, _, [], h => by cases h
  | _ :: _, [], _ :: _, _ => .inr rfl
  | x :: xs, y :: ys, z :: zs, h => by
    rw [listBlt_cons] at *
    rw [listBlt_cons]
    simp only [Bool.or_eq_true, Bool.and_eq_true, Bool.not_eq_true'] at h ⊢
    rcases h with h | ⟨h, k⟩
    · rcases O.negTrans _ y _ h with h | h
      · exact .inl (.inl h)
      · exact .inr (.inl h)
    · cases e1 : O.blt x y with
      | true => exact .inl (.inl rfl)
      | false =>
        cases e2 : O.blt y z with
        | true => exact .inr (.inl rfl)
        | false =>
          have a1 : O.kle y x := e1
          have a2 : O.kle z y := e2
          have a3 : O.kle x z := h
          have b1 : O.blt y x = false := KeyOrd.kle_trans (O := O) a3 a2
          have b2 : O.blt z y = false := KeyOrd.kle_trans (O := O) a1 a3
          rcases listBlt_neg O xs ys zs k with k | k
          · exact .inl (.inr ⟨b1, k⟩)
          · exact .inr (.inr ⟨b2, k⟩)
theorem listBlt_total (O : KeyOrd) : ∀ xs ys, listBlt O xs ys = false → listBlt O ys xs = false → xs = ys
  | [], [], _, _ => rfl
  | [], _ :: _, h, _ => by cases h
  | _ :: _, [], _, k => by cases k
  | x :: xs, y :: ys, h1, h2 => by
    rw [listBlt_cons] at h1 h2
    simp only [Bool.or_eq_false_iff, Bool.and_eq_false_iff, Bool.not_eq_false'] at h1 h2
    have e1 : x = y := O.total _ _ h1.1 h2.1
    have e2 : xs = ys := listBlt_total O xs ys (by rcases h1.2 with z | z; exact absurd (h2.1.symm.trans z) (by simp); exact z) (by rcases h2.2 with z | z; exact absurd (h1.1.symm.trans z) (by simp); exact z)
    rw [e1, e2]
@[reducible] def listO (O : KeyOrd) : KeyOrd where
  α := List O.α
  blt := listBlt O
  irrefl := listBlt_irrefl O
  trans := listBlt_trans O
  negTrans := listBlt_neg O
  total := listBlt_total O
theorem lexO_same {O P : KeyOrd} (x y : (lexO O P).α) (e : x.1 = y.1) : (lexO O P).blt x y = P.blt x.2 y.2 := by
  show (O.blt x.1 y.1 || (!O.blt y.1 x.1 && P.blt x.2 y.2)) = _
  rw [e, O.irrefl]; rfl
theorem lexO_diff {O P : KeyOrd} (x y : (lexO O P).α) (e : x.1 ≠ y.1) : (lexO O P).blt x y = O.blt x.1 y.1 := by
  show (O.blt x.1 y.1 || (!O.blt y.1 x.1 && P.blt x.2 y.2)) = _
  cases h1 : O.blt x.1 y.1 with
  | true => rfl
  | false =>
    cases h2 : O.blt y.1 x.1 with
    | true => rfl
    | false => exact absurd (O.total _ _ h1 h2) e
theorem listBlt_same {O : KeyOrd} (x : O.α) (xs ys : List O.α) : listBlt O (x :: xs) (x :: ys) = listBlt O xs ys := by
  rw [listBlt_cons, O.irrefl]; rfl
theorem listBlt_diff {O : KeyOrd} {x y : O.α} (xs ys : List O.α) (e : x ≠ y) : listBlt O (x :: xs) (y :: ys) = O.blt x y := by
  rw [listBlt_cons]
  cases h1 : O.blt x y with
  | true => rfl
  | false =>
    cases h2 : O.blt y x with
    | true => rfl
    | false => exact absurd (O.total _ _ h1 h2) e
mutual
theorem Cmp.mono {n m : Nat} {d e : Dt} (c : Cmp n d e) (h : n ≤ m) : Cmp m d e := by
  cases c with
  | non => exact .non
  | bl a b => exact .bl a b
  | int a b => exact .int a b
  | str a b => exact .str a b
  | tup t => cases m with
    | zero => exact absurd h (Nat.not_succ_le_zero _)
    | succ m => exact .tup (Cmps.mono t (Nat.le_of_succ_le_succ h))
  | lst t => cases m with
    | zero => exact absurd h (Nat.not_succ_le_zero _)
    | succ m => exact .lst (Cmps.mono t (Nat.le_of_succ_le_succ h))
  | apart a => cases m with
    | zero => exact absurd h (Nat.not_succ_le_zero _)
    | succ m => exact .apart a
theorem Cmps.mono {n m : Nat} {ds es : List Dt} (c : Cmps n ds es) (h : n ≤ m) : Cmps m ds es := by
  cases c with
  | nil => exact .nil _
  | nil' => exact .nil' _
  | cons c t => exact .cons (Cmp.mono c h) (Cmps.mono t h)
end
/-! ### what is told as deep data, and its order -/
structure Enc where
  O : KeyOrd
  D : O.α → Dt
  dflt : O.α
  dep : Nat
  cmp : ∀ a b, Cmp dep (D a) (D b)
  inj : ∀ a b, D a = D b → a = b
  lt : ∀ {X : Cx} {pins : List (Addr × Obj)} {σ : St} {H : Hp} {s : Shared}, Inv X pins σ H s → ∀ {a b : O.α} {v u : V} {x y : Value} {A : Around}, IsDt X.K H v (D a) → IsDt X.K H u (D b) → RelV v x → RelV u y → A.units + dep < cLine → RcLtAt A s x y (O.blt a b)
section
variable {X : Cx} {pins : List (Addr × Obj)} {σ : St} {H : Hp} {s : Shared}
theorem Enc.eq (c : Enc) (I : Inv X pins σ H s) {a b : c.O.α} {v u : V} {x y : Value} {A : Around} (hv : IsDt X.K H v (c.D a)) (hu : IsDt X.K H u (c.D b)) (rx : RelV v x) (ry : RelV u y) (hA : A.units + c.dep < cLine) : EqAt A s x y (dec (a = b)) := by
  have := eqD (A := A) I (c.cmp a b) hv hu rx ry hA
  rwa [dec_congr (p := c.D a = c.D b) (q := a = b) ⟨c.inj a b, fun z => by rw [z]⟩] at this
/-- two columns' values, and what follows -/
theorem Enc.lex (c : Enc) (I : Inv X pins σ H s) {a b : c.O.α} {v u : V} {x y : Value} {A : Around} {vs ws : List Value} {e f : Bool} (hv : IsDt X.K H v (c.D a)) (hu : IsDt X.K H u (c.D b)) (rx : RelV v x) (ry : RelV u y) (hA : A.units + c.dep < cLine) (h1 : a = b → LexAt A s vs ws e ∧ f = e) (h2 : a ≠ b → f = c.O.blt a b) : LexAt A s (x :: vs) (y :: ws) f := by
  have he := c.eq (A := A) I hv hu rx ry hA
  by_cases hab : a = b
  · rw [dec_true hab] at he
    obtain ⟨t, rfl⟩ := h1 hab
    exact .eq he t
  · rw [dec_false hab] at he
    rw [h2 hab]
    exact .ne he (c.lt I hv hu rx ry hA)
end
@[reducible] def intE : Enc where
  O := intO
  D := Dt.int
  dflt := (0 : Int)
  dep := 0
  cmp a b := .int a b
  inj a b h := Dt.int.inj h
  lt {X pins σ H s} I {a b v u x y A} hv hu rx ry _ := by
    cases hv; cases hu
    obtain ⟨t, rfl⟩ := rx; obtain ⟨t', rfl⟩ := ry
    exact fun prog w E Q h => (PySem.P.lt_int h : wpAny (model prog w) _ (compareOp .Lt _ _) Q E _)
@[reducible] def strE : Enc where
  O := strO
  D := Dt.str
  dflt := (default : Str)
  dep := 0
  cmp a b := .str a b
  inj a b h := Dt.str.inj h
  lt {X pins σ H s} I {a b v u x y A} hv hu rx ry _ := by
    cases hv; cases hu
    obtain ⟨t, rfl⟩ := rx; obtain ⟨t', rfl⟩ := ry
    exact fun prog w E Q h => (PySem.P.lt_str h : wpAny (model prog w) _ (compareOp .Lt _ _) Q E _)
section
variable {X : Cx} {pins : List (Addr × Obj)} {σ : St} {H : Hp} {s : Shared}
theorem Enc.lexL (c : Enc) (I : Inv X pins σ H s) {A : Around} (hA : A.units + c.dep < cLine) : ∀ {as bs : List c.O.α} {vs us : List V} {xs ys : List Value}, IsDts X.K H vs (as.map c.D) → IsDts X.K H us (bs.map c.D) → Vals vs xs → Vals us ys → LexAt A s xs ys (listBlt c.O as bs) := by
  intro as
  induction as with
  | nil =>
    intro bs vs us xs ys h1 h2 h3 h4
    cases h1
    cases h3
    cases bs with
    | nil => cases h2; cases h4; exact .nil
    | cons b bs => cases h2; cases h4; exact .lt _ _
  | cons a as ih =>
    intro bs vs us xs ys h1 h2 h3 h4
    cases h1 with
    | cons h t => cases h3 with
      | cons r q => cases bs with
        | nil => cases h2; cases h4; exact .gt _ _
        | cons b bs => cases h2 with
          | cons h' t' => cases h4 with
            | cons r' q' => exact c.lex I h h' r r' hA (fun e => ⟨ih t t' q q', by subst e; exact listBlt_same a as bs⟩) (fun e => listBlt_diff as bs e)
end
theorem map_D_inj (c : Enc) : ∀ {a b : List c.O.α}, a.map c.D = b.map c.D → a = b
  | [], [], _ => rfl
  | [], _ :: _, h => by cases h
  | _ :: _, [], h => by cases h
  | x :: a, y :: b, h => by
    rw [List.map_cons, List.map_cons] at h
    injection h with h1 h2
    rw [c.inj x y h1, map_D_inj c h2]
@[reducible] def listE (c : Enc) : Enc where
  O := listO c.O
  D l := Dt.lst (l.map c.D)
  dflt := ([] : List c.O.α)
  dep := c.dep + 1
  cmp a b := .lst (Cmps.of fun d hd e he => by
    obtain ⟨x, _, rfl⟩ := List.mem_map.mp hd
    obtain ⟨y, _, rfl⟩ := List.mem_map.mp he
    exact c.cmp x y)
  inj a b h := map_D_inj c (Dt.lst.inj h)
  lt {X pins σ H s} I {a b v u x y A} hv hu rx ry hA := by
    cases hv with
    | lst h t =>
      cases hu with
      | lst h' t' =>
        cases rx; cases ry
        obtain ⟨its, r, p, _⟩ := I.list h
        obtain ⟨its', r', p', _⟩ := I.list h'
        exact RcLtAt.lists p.isList p'.isList (c.lexL (A := A.in1) I (by rw [in1_units]; omega) t t' r r') (by omega)
theorem dts2 {K : PySem.W.Frag} {H : Hp} {vs : List V} {d e : Dt} (h : IsDts K H vs [d, e]) : ∃ a b, vs = [a, b] ∧ IsDt K H a d ∧ IsDt K H b e := by
  cases h with
  | cons h1 t => cases t with
    | cons h2 t => cases t; exact ⟨_, _, rfl, h1, h2⟩
theorem dts3 {K : PySem.W.Frag} {H : Hp} {vs : List V} {d e f : Dt} (h : IsDts K H vs [d, e, f]) : ∃ a b c, vs = [a, b, c] ∧ IsDt K H a d ∧ IsDt K H b e ∧ IsDt K H c f := by
  cases h with
  | cons h1 t => obtain ⟨a, b, rfl, h2, h3⟩ := dts2 t; exact ⟨_, _, _, rfl, h1, h2, h3⟩
theorem vals3' {x y z : V} {us : List Value} (r : Vals [x, y, z] us) : ∃ u w v, us = [u, w, v] ∧ RelV x u ∧ RelV y w ∧ RelV z v := by
  cases r with
  | cons r1 r2 => obtain ⟨a, b, rfl, h2, h3⟩ := vals2 r2; exact ⟨_, _, _, rfl, r1, h2, h3⟩
@[reducible] def pairE (c d : Enc) : Enc where
  O := lexO c.O d.O
  D p := Dt.tup [c.D p.1, d.D p.2]
  dflt := (c.dflt, d.dflt)
  dep := max c.dep d.dep + 1
  cmp a b := .tup (.cons ((c.cmp a.1 b.1).mono (Nat.le_max_left _ _)) (.cons ((d.cmp a.2 b.2).mono (Nat.le_max_right _ _)) (.nil _)))
  inj a b h := by
    injection h with h
    injection h with h1 h2
    injection h2 with h2 _
    exact Prod.ext (c.inj _ _ h1) (d.inj _ _ h2)
  lt {X pins σ H s} I {a b v u x y A} hv hu rx ry hA := by
    have m1 := Nat.le_max_left c.dep d.dep
    have m2 := Nat.le_max_right c.dep d.dep
    cases hv with
    | tup h t =>
      cases hu with
      | tup h' t' =>
        cases rx; cases ry
        obtain ⟨its, r, p, _⟩ := I.tuple h
        obtain ⟨its', r', p', _⟩ := I.tuple h'
        obtain ⟨v1, v2, rfl, t1, t2⟩ := dts2 t
        obtain ⟨u1, u2, rfl, s1, s2⟩ := dts2 t'
        obtain ⟨x1, x2, rfl, r1, r2⟩ := vals2 r
        obtain ⟨y1, y2, rfl, q1, q2⟩ := vals2 r'
        refine RcLtAt.tuples p p' (c.lex (A := A.in1) I t1 s1 r1 q1 (by rw [in1_units]; omega) (fun e => ⟨d.lex (A := A.in1) I t2 s2 r2 q2 (by rw [in1_units]; omega) (fun e' => ⟨.nil, ?_⟩) fun e' => rfl, lexO_same a b e⟩) fun e => lexO_diff a b e) (by omega)
        rw [e', d.O.irrefl]
@[reducible] def tripE (c d e : Enc) : Enc where
  O := lexO c.O (lexO d.O e.O)
  D p := Dt.tup [c.D p.1, d.D p.2.1, e.D p.2.2]
  dflt := (c.dflt, d.dflt, e.dflt)
  dep := max c.dep (max d.dep e.dep) + 1
  cmp a b := .tup (.cons ((c.cmp a.1 b.1).mono (Nat.le_max_left _ _)) (.cons ((d.cmp a.2.1 b.2.1).mono (by omega)) (.cons ((e.cmp a.2.2 b.2.2).mono (by omega)) (.nil _))))
  inj a b h := by
    injection h with h
    injection h with h1 h2
    injection h2 with h2 h3
    injection h3 with h3 _
    exact Prod.ext (c.inj _ _ h1) (Prod.ext (d.inj _ _ h2) (e.inj _ _ h3))
  lt {X pins σ H s} I {a b v u x y A} hv hu rx ry hA := by
    have m1 := Nat.le_max_left c.dep (max d.dep e.dep)
    have m2 := Nat.le_max_right c.dep (max d.dep e.dep)
    have m3 := Nat.le_max_left d.dep e.dep
    have m4 := Nat.le_max_right d.dep e.dep
    cases hv with
    | tup h t =>
      cases hu with
      | tup h' t' =>
        cases rx; cases ry
        obtain ⟨its, r, p, _⟩ := I.tuple h
        obtain ⟨its', r', p', _⟩ := I.tuple h'
        obtain ⟨v1, v2, v3, rfl, t1, t2, t3⟩ := dts3 t
        obtain ⟨u1, u2, u3, rfl, s1, s2, s3⟩ := dts3 t'
        obtain ⟨x1, x2, x3, rfl, r1, r2, r3⟩ := vals3' r
        obtain ⟨y1, y2, y3, rfl, q1, q2, q3⟩ := vals3' r'
        refine RcLtAt.tuples p p' (c.lex (A := A.in1) I t1 s1 r1 q1 (by rw [in1_units]; omega) (fun g => ⟨d.lex (A := A.in1) I t2 s2 r2 q2 (by rw [in1_units]; omega) (fun g' => ⟨e.lex (A := A.in1) I t3 s3 r3 q3 (by rw [in1_units]; omega) (fun g'' => ⟨.nil, ?_⟩) fun _ => rfl, lexO_same a.2 b.2 g'⟩) fun g' => lexO_diff a.2 b.2 g', lexO_same a b g⟩) fun g => lexO_diff a b g) (by omega)
        rw [g'', e.O.irrefl]
end L2

namespace Tim
open PySem PySem.W PyProof.Rows
def gallopT : Bool → Keyed → Array Keyed → Nat → Nat → Nat → StateT SortSt Sem (Option Nat) := sortPriv% PySem.Builtin.gallop
/-- the equations of the sort's inner defs are made -/
theorem made1 (k : Keyed) (a : Array Keyed) : True := by
  fun_cases (sortPriv% PySem.Builtin.gallop) true k a 0 1 0
  all_goals trivial
section
variable {prog : Program} {w : World} {A : Around} {E : Value → Shared → Prop} {s : Shared} {O : KeyOrd} {key : Nat → O.α} {κ : SortKind} {it : Array Keyed} {N : Nat}
/-- every question is answered, and changes nothing -/
def Asks (prog : Program) (w : World) (A : Around) (s : Shared) (O : KeyOrd) (key : Nat → O.α) (κ : SortKind) (it : Array Keyed) (N : Nat) : Prop := ∀ (i j : Nat) (C : Bool → Shared → Prop), i < N → j < N → C (O.blt (key i) (key j)) s → kas_cmp prog w A κ it i j C s
theorem w_lt (hc : Asks prog w A s O key κ it N) {st : SortSt} {i j : Nat} {Q : Option Bool → SortSt → Prop} (hi : i < N) (hj : j < N) (hk : kindOf st = κ) (h : Q (some (O.blt (key i) (key j))) st) : wpS (model prog w) A E s (lt' (kas_item it i) (kas_item it j)) Q st := by
  rw [lt'_eq]
  refine wpS_bind (wpS_get ?_)
  rw [hk]
  refine wpS_bind (wpS_lift (wpAny_attempt (wpAny_mono (hc i j (fun b s' => s' = s ∧ b = O.blt (key i) (key j)) hi hj ⟨rfl, rfl⟩) (fun b s' ⟨e1, e2⟩ => ⟨e1, ?_⟩) fun _ _ x => x.elim)))
  rw [e2]
  exact wpS_pure h
theorem w_elem {p : Array Nat} {i : Nat} {st : SortSt} {Q : Keyed → SortSt → Prop} (hi : i < p.size) (h : Q (kas_item it (p.getD i 0)) st) : wpS (model prog w) A E s (elem' (p.map (kas_item it)) i) Q st := by
  rw [elem'_eq]
  have e : (p.map (kas_item it))[i]? = some (kas_item it (p.getD i 0)) := by simp [hi]
  rw [e]
  exact wpS_pure h
theorem gallop_ok (hc : Asks prog w A s O key κ it N) {left : Bool} {k : Nat} {p : Array Nat} {base n hint : Nat} {st : SortSt} {Q : Option Nat → SortSt → Prop} (hk : k < N) (hp : ∀ i, i < p.size → p.getD i 0 < N) (hb : base + n ≤ p.size) (hh : hint < n) (hkd : kindOf st = κ)
    (P : Nat → Bool) (hP : ∀ i, i < n → P i = if left = true then O.blt (key (p.getD (base + i) 0)) (key k) else !O.blt (key k) (key (p.getD (base + i) 0))) (anti : ∀ i j, i ≤ j → j < n → P j = true → P i = true)
    (h : ∀ r, r ≤ n → (∀ i, i < r → P i = true) → (∀ i, r ≤ i → i < n → P i = false) → Q (some r) st) : wpS (model prog w) A E s (gallopT left (kas_item it k) (p.map (kas_item it)) base n hint) Q st := by
  have af : ∀ i j, i ≤ j → j < n → P i = false → P j = false := fun i j hij hj hi => by
    cases e : P j with
    | false => rfl
    | true => rw [anti i j hij hj e] at hi; cases hi
  unfold gallopT
  rw [(sortPriv% PySem.Builtin.gallop.eq_def)]
  extract_lets -underBinder -merge -useContext +onlyGivenNames beyond
  clear_value (hbe : beyond = _)
  have B : ∀ (i : Nat) (Q' : Option Bool → SortSt → Prop), i < n → Q' (some (P i)) st → wpS (model prog w) A E s (beyond i) Q' st := fun i Q' hi q => by
    rw [hbe]
    refine wpS_bind (w_elem (by omega) ?_)
    cases left with
    | true =>
      rw [if_pos rfl]
      refine w_lt hc (hp _ (by omega)) hk hkd ?_
      have := hP i hi
      rw [if_pos rfl] at this
      rw [← this]; exact q
    | false =>
      rw [if_neg Bool.false_ne_true]
      refine wpS_bind (w_lt hc hk (hp _ (by omega)) hkd (wpS_pure ?_))
      have := hP i hi
      rw [if_neg Bool.false_ne_true] at this
      show Q' (some (!_)) st
      rw [← this]; exact q
  clear hbe
  extract_lets -underBinder -merge -useContext +onlyGivenNames zq
  subst zq
  extract_lets -underBinder -merge -useContext +onlyGivenNames zq
  subst zq
  extract_lets -underBinder -merge -useContext +onlyGivenNames zq
  subst zq
  extract_lets -underBinder -merge -useContext +onlyGivenNames zq
  subst zq
  try dsimp -zeta only
  refine wpS_bind (B hint _ hh ?_)
  try dsimp -zeta only
  extract_lets -underBinder -merge -useContext +onlyGivenNames jp
  clear_value (hjp : jp = _)
  have J : ∀ (x : Unit) (a b lo hi : Nat), lo ≤ hi → hi ≤ n → (∀ i, i < lo → P i = true) → (∀ i, hi ≤ i → i < n → P i = false) → wpS (model prog w) A E s (jp x a b lo hi) Q st := fun x a b lo hi h1 h2 h3 h4 => by
    rw [hjp]
    try dsimp -zeta only
    refine wpS_bind (wpS_mono (wpS_forRange (I := fun x c st' => st' = st ∧ ∃ l r, c = (none, l, r) ∧ l ≤ r ∧ r ≤ n ∧ r - l ≤ n - x ∧ (∀ i, i < l → P i = true) ∧ (∀ i, r ≤ i → i < n → P i = false))
      (Q := fun c st' => st' = st ∧ ∃ l r, c = (none, l, r) ∧ r ≤ n ∧ (∀ i, i < r → P i = true) ∧ (∀ i, r ≤ i → i < n → P i = false)) ?_ ?_ ⟨rfl, lo, hi, rfl, h1, h2, by omega, h3, h4⟩) ?_)
    · rintro x c st' _ hx ⟨rfl, l, r, rfl, a1, a2, a3, a4, a5⟩
      extract_lets -underBinder -merge -useContext +onlyGivenNames zq
      subst zq
      extract_lets -underBinder -merge -useContext +onlyGivenNames zq
      subst zq
      extract_lets -underBinder -merge -useContext +onlyGivenNames zq
      subst zq
      try dsimp -zeta only
      dsimp only
      by_cases hge : l ≥ r
      · rw [if_pos hge]
        obtain rfl : l = r := by omega
        exact wpS_pure ⟨rfl, l, l, rfl, a2, a4, a5⟩
      · rw [if_neg hge]
        refine wpS_bind (B _ _ (by omega) ?_)
        dsimp only
        cases e : P (l + (r - l) / 2) with
        | true =>
          rw [if_pos rfl]
          exact wpS_pure ⟨rfl, l + (r - l) / 2 + 1, r, rfl, by omega, by omega, by omega, fun i hi => anti i (l + (r - l) / 2) (by omega) (by omega) e, a5⟩
        | false =>
          rw [if_neg Bool.false_ne_true]
          exact wpS_pure ⟨rfl, l, l + (r - l) / 2, rfl, by omega, by omega, by omega, a4, fun i hi hn => af (l + (r - l) / 2) i hi hn e⟩
    · rintro c st' ⟨rfl, l, r, rfl, a1, a2, a3, a4, a5⟩
      obtain rfl : l = r := by omega
      exact ⟨rfl, l, l, rfl, a2, a4, a5⟩
    · rintro c st' ⟨rfl, l, r, rfl, a2, a4, a5⟩
      exact wpS_pure (h r a2 a4 a5)
  clear hjp
  cases e : P hint with
  | true =>
    rw [if_pos rfl]
    extract_lets -underBinder -merge -useContext +onlyGivenNames zq
    subst zq
    try dsimp -zeta only
    refine wpS_bind (wpS_mono (wpS_forRange (I := fun x c st' => st' = st ∧ ∃ l o, c = (none, l, o) ∧ l < o ∧ x + 1 ≤ o ∧ hint + l < n ∧ P (hint + l) = true)
      (Q := fun c st' => st' = st ∧ ∃ l o, c = (none, l, o) ∧ l < o ∧ hint + l < n ∧ P (hint + l) = true ∧ (o < n - hint → P (hint + o) = false)) ?_ ?_ ⟨rfl, 0, 1, rfl, by omega, by omega, by omega, e⟩) ?_)
    · rintro x c st' _ hx ⟨rfl, l, o, rfl, a1, a2, a3, a4⟩
      extract_lets -underBinder -merge -useContext +onlyGivenNames zq
      subst zq
      extract_lets -underBinder -merge -useContext +onlyGivenNames zq
      subst zq
      extract_lets -underBinder -merge -useContext +onlyGivenNames zq
      subst zq
      try dsimp -zeta only
      dsimp only
      by_cases hge : o ≥ n - hint
      · rw [if_pos hge]
        exact wpS_pure ⟨rfl, l, o, rfl, a1, a3, a4, fun z => by omega⟩
      · rw [if_neg hge]
        refine wpS_bind (B _ _ (by omega) ?_)
        dsimp only
        cases e2 : P (hint + o) with
        | false => exact wpS_pure ⟨rfl, l, o, rfl, a1, a3, a4, fun _ => e2⟩
        | true => exact wpS_pure ⟨rfl, o, 2 * o + 1, rfl, by omega, by omega, by omega, e2⟩
    · rintro c st' ⟨rfl, l, o, rfl, a1, a2, a3, a4⟩
      exact ⟨rfl, l, o, rfl, a1, a3, a4, fun z => by omega⟩
    · rintro c st' ⟨rfl, l, o, rfl, a1, a3, a4, a5⟩
      refine J () l o (hint + l + 1) (hint + min o (n - hint)) (by omega) (by omega) (fun i hi => anti i (hint + l) (by omega) a3 a4) (fun i hi hn => ?_)
      by_cases ho : o < n - hint
      · exact af (hint + o) i (by omega) hn (a5 ho)
      · omega
  | false =>
    rw [if_neg Bool.false_ne_true]
    extract_lets -underBinder -merge -useContext +onlyGivenNames zq
    subst zq
    try dsimp -zeta only
    refine wpS_bind (wpS_mono (wpS_forRange (I := fun x c st' => st' = st ∧ ∃ l o, c = (none, l, o) ∧ l < o ∧ x + 1 ≤ o ∧ l ≤ hint ∧ P (hint - l) = false)
      (Q := fun c st' => st' = st ∧ ∃ l o, c = (none, l, o) ∧ l < o ∧ l ≤ hint ∧ P (hint - l) = false ∧ (o < hint + 1 → P (hint - o) = true)) ?_ ?_ ⟨rfl, 0, 1, rfl, by omega, by omega, by omega, e⟩) ?_)
    · rintro x c st' _ hx ⟨rfl, l, o, rfl, a1, a2, a3, a4⟩
      extract_lets -underBinder -merge -useContext +onlyGivenNames zq
      subst zq
      extract_lets -underBinder -merge -useContext +onlyGivenNames zq
      subst zq
      extract_lets -underBinder -merge -useContext +onlyGivenNames zq
      subst zq
      try dsimp -zeta only
      dsimp only
      by_cases hge : o ≥ hint + 1
      · rw [if_pos hge]
        exact wpS_pure ⟨rfl, l, o, rfl, a1, a3, a4, fun z => by omega⟩
      · rw [if_neg hge]
        refine wpS_bind (B _ _ (by omega) ?_)
        dsimp only
        cases e2 : P (hint - o) with
        | true => exact wpS_pure ⟨rfl, l, o, rfl, a1, a3, a4, fun _ => e2⟩
        | false => exact wpS_pure ⟨rfl, o, 2 * o + 1, rfl, by omega, by omega, by omega, e2⟩
    · rintro c st' ⟨rfl, l, o, rfl, a1, a2, a3, a4⟩
      exact ⟨rfl, l, o, rfl, a1, a3, a4, fun z => by omega⟩
    · rintro c st' ⟨rfl, l, o, rfl, a1, a3, a4, a5⟩
      refine J () l o (hint + 1 - min o (hint + 1)) (hint - l) (by omega) (by omega) (fun i hi => ?_) (fun i hi hn => af (hint - l) i (by omega) hn a4)
      by_cases ho : o < hint + 1
      · exact anti i (hint - o) (by omega) (by omega) (a5 ho)
      · omega
end
end Tim

namespace Tim
open PySem PySem.W PyProof.Rows
section
variable {R : Nat → Nat → Prop} {la lb : List Nat}
/-- two lists are put together as far as ia and ib -/
structure Mg (R : Nat → Nat → Prop) (la lb po : List Nat) (ia ib : Nat) : Prop where
  ha : ia ≤ la.length
  hb : ib ≤ lb.length
  pm : po.Perm (la.take ia ++ lb.take ib)
  so : po.Pairwise R
  le : ∀ x ∈ po, ∀ y ∈ la.drop ia ++ lb.drop ib, R x y
theorem take_add' {l : List Nat} (i k : Nat) : l.take (i + k) = l.take i ++ (l.drop i).take k := by rw [List.take_add]
theorem Mg.pushA {po : List Nat} {ia ib : Nat} (h : Mg R la lb po ia ib) (sa : la.Pairwise R) (k : Nat) (hk : ia + k ≤ la.length) (hle : ∀ x ∈ (la.drop ia).take k, ∀ y ∈ lb.drop ib, R x y) : Mg R la lb (po ++ (la.drop ia).take k) (ia + k) ib := by
  have sd : (la.drop ia).Pairwise R := sa.sublist (List.drop_sublist _ _)
  have spl : la.drop ia = (la.drop ia).take k ++ la.drop (ia + k) := by rw [← List.drop_drop, List.take_append_drop]
  refine ⟨hk, h.hb, ?_, ?_, ?_⟩
  · rw [take_add']
    refine (h.pm.append_right _).trans ?_
    rw [List.append_assoc, List.append_assoc]
    exact List.Perm.append_left _ List.perm_append_comm
  · refine List.pairwise_append.mpr ⟨h.so, sd.sublist (List.take_sublist _ _), fun x hx y hy => h.le x hx y (List.mem_append_left _ (List.mem_of_mem_take hy))⟩
  · intro x hx y hy
    rcases List.mem_append.mp hx with hx | hx
    · refine h.le x hx y ?_
      rcases List.mem_append.mp hy with hy | hy
      · exact List.mem_append_left _ (by rw [spl]; exact List.mem_append_right _ hy)
      · exact List.mem_append_right _ hy
    · rcases List.mem_append.mp hy with hy | hy
      · rw [spl] at sd
        exact (List.pairwise_append.mp sd).2.2 x hx y hy
      · exact hle x hx y hy
theorem Mg.swap {po : List Nat} {ia ib : Nat} (h : Mg R la lb po ia ib) : Mg R lb la po ib ia :=
  ⟨h.hb, h.ha, h.pm.trans List.perm_append_comm, h.so, fun x hx y hy => h.le x hx y (List.mem_append.mpr (List.mem_append.mp hy).symm)⟩
theorem Mg.pushB {po : List Nat} {ia ib : Nat} (h : Mg R la lb po ia ib) (sb : lb.Pairwise R) (k : Nat) (hk : ib + k ≤ lb.length) (hle : ∀ x ∈ (lb.drop ib).take k, ∀ y ∈ la.drop ia, R x y) : Mg R la lb (po ++ (lb.drop ib).take k) ia (ib + k) :=
  (h.swap.pushA sb k hk hle).swap
/-- all of both lists, in order -/
def Res (R : Nat → Nat → Prop) (la lb pr : List Nat) : Prop := pr.Perm (la ++ lb) ∧ pr.Pairwise R
theorem Mg.endA {po : List Nat} {ia ib : Nat} (h : Mg R la lb po ia ib) (sa : la.Pairwise R) (e : ib = lb.length) : Res R la lb (po ++ la.drop ia) := by
  have := h.pushA sa (la.length - ia) (by have := h.ha; omega) (fun x hx y hy => by rw [e, List.drop_length] at hy; simp at hy)
  rw [List.take_of_length_le (by rw [List.length_drop]; omega)] at this
  have pm := this.pm
  rw [e, List.take_length, List.take_of_length_le (by have := h.ha; omega)] at pm
  exact ⟨pm, this.so⟩
theorem Mg.endB {po : List Nat} {ia ib : Nat} (h : Mg R la lb po ia ib) (sb : lb.Pairwise R) (e : ia = la.length) : Res R la lb (po ++ lb.drop ib) := by
  have := h.swap.endA sb e
  exact ⟨this.1.trans List.perm_append_comm, this.2⟩
/-- the last of a comes behind all of b -/
theorem Mg.last {po : List Nat} {ia ib : Nat} (h : Mg R la lb po ia ib) (sb : lb.Pairwise R) (e : ia + 1 = la.length) (hl : ∀ x ∈ lb, ∀ y ∈ la.drop ia, R x y) : Res R la lb (po ++ lb.drop ib ++ la.drop ia) := by
  have h2 := h.pushB sb (lb.length - ib) (by have := h.hb; omega) (fun x hx y hy => hl x (List.mem_of_mem_drop (List.mem_of_mem_take hx)) y hy)
  rw [List.take_of_length_le (by rw [List.length_drop]; omega)] at h2
  have ea : (la.drop ia).Pairwise R := by
    have hl1 : (la.drop ia).length = 1 := by rw [List.length_drop]; omega
    match la.drop ia, hl1 with
    | [x], _ => exact List.pairwise_singleton _ _
  refine ⟨?_, List.pairwise_append.mpr ⟨h2.so, ea, fun x hx y hy => h2.le x hx y (List.mem_append_left _ hy)⟩⟩
  have pm := h2.pm
  have hb := h.hb
  rw [List.take_of_length_le (l := lb) (by omega)] at pm
  refine (pm.append_right _).trans ?_
  rw [List.append_assoc]
  refine (List.Perm.append_left _ List.perm_append_comm).trans ?_
  rw [← List.append_assoc, List.take_append_drop]
end
section
variable {it : Array Keyed}
/-- the rows of these numbers -/
abbrev ar (it : Array Keyed) (l : List Nat) : Array Keyed := l.toArray.map (kas_item it)
theorem ar_size (l : List Nat) : (ar it l).size = l.length := by simp [ar]
theorem ar_ext (l : List Nat) (i j : Nat) : (ar it l).extract i j = ar it ((l.drop i).take (j - i)) := by
  apply Array.toList_inj.mp
  simp [ar, List.map_take, List.map_drop]
theorem ar_app (l m : List Nat) : ar it l ++ ar it m = ar it (l ++ m) := by
  apply Array.toList_inj.mp
  simp [ar]
theorem ar_push (l : List Nat) (x : Nat) : (ar it l).push (kas_item it x) = ar it (l ++ [x]) := by
  apply Array.toList_inj.mp
  simp [ar]
theorem ar_one (x : Nat) : #[kas_item it x] = ar it [x] := by simp [ar]
theorem ar_rev (l : List Nat) : (ar it l).reverse = ar it l.reverse := by
  apply Array.toList_inj.mp
  simp [ar]
end
theorem take1 {l : List Nat} {i : Nat} (h : i < l.length) : (l.drop i).take 1 = [l.getD i 0] := by
  rw [List.drop_eq_getElem_cons h, List.getD_eq_getElem?_getD, List.getElem?_eq_getElem h]; rfl
theorem mem_dropN {l : List Nat} {i x : Nat} (h : x ∈ l.drop i) : ∃ j, i ≤ j ∧ j < l.length ∧ x = l.getD j 0 := by
  obtain ⟨j, hj, e⟩ := List.getElem_of_mem h
  rw [List.length_drop] at hj
  rw [List.getElem_drop] at e
  exact ⟨i + j, by omega, by omega, by rw [List.getD_eq_getElem?_getD, List.getElem?_eq_getElem (by omega)]; exact e.symm⟩
theorem mem_segN {l : List Nat} {i k x : Nat} (h : x ∈ (l.drop i).take k) : ∃ j, i ≤ j ∧ j < i + k ∧ j < l.length ∧ x = l.getD j 0 := by
  obtain ⟨j, hj, e⟩ := List.getElem_of_mem h
  rw [List.length_take, List.length_drop] at hj
  rw [List.getElem_take, List.getElem_drop] at e
  exact ⟨i + j, by omega, by omega, by omega, by rw [List.getD_eq_getElem?_getD, List.getElem?_eq_getElem (by omega)]; exact e.symm⟩
theorem pw_get {R : Nat → Nat → Prop} (hr : ∀ x, R x x) {l : List Nat} (h : l.Pairwise R) {i j : Nat} (hij : i ≤ j) (hj : j < l.length) : R (l.getD i 0) (l.getD j 0) := by
  rw [List.getD_eq_getElem?_getD, List.getElem?_eq_getElem (by omega), List.getD_eq_getElem?_getD, List.getElem?_eq_getElem hj]
  rcases Nat.lt_or_eq_of_le hij with e | e
  · exact List.pairwise_iff_getElem.mp h i j (by omega) hj e
  · subst e; exact hr _
end Tim

namespace Tim
open PySem PySem.W PyProof.Rows
theorem made3 (a b : Array Keyed) : True := by
  fun_cases (sortPriv% PySem.Builtin.mergeLo) a b
  all_goals trivial
def mergeLoT : Array Keyed → Array Keyed → StateT SortSt Sem (Array Keyed) := sortPriv% PySem.Builtin.mergeLo
def setGT : Nat → StateT SortSt Sem Unit := sortPriv% PySem.Builtin.setMinGallop
/-- all but the gallop's bound is as it was -/
structure Only (st st' : SortSt) : Prop where
  kd : kindOf st' = kindOf st
  arr : arrOf st' = arrOf st
  pd : pendingOf st' = pendingOf st
  fl : failedOf st' = failedOf st
theorem Only.refl (st : SortSt) : Only st st := ⟨rfl, rfl, rfl, rfl⟩
theorem Only.trans {a b c : SortSt} (h : Only a b) (k : Only b c) : Only a c := ⟨k.kd.trans h.kd, k.arr.trans h.arr, k.pd.trans h.pd, k.fl.trans h.fl⟩
section
variable {M : Model} {prog : Program} {w : World} {A : Around} {E : Value → Shared → Prop} {s : Shared} {O : KeyOrd} {key : Nat → O.α} {κ : SortKind} {it : Array Keyed} {N : Nat}
theorem w_set {st : SortSt} {g : Nat} {Q : Unit → SortSt → Prop} (h : ∀ st', Only st st' → Q () st') : wpS M A E s (setGT g) Q st := by
  show wpS M A E s (modify fun x => SortSt.mk' (kindOf x) (arrOf x) (pendingOf x) g (failedOf x)) Q st
  exact wpS_modify (h _ ⟨rfl, rfl, rfl, rfl⟩)
theorem w_el {l : List Nat} {i : Nat} {st : SortSt} {Q : Keyed → SortSt → Prop} (hi : i < l.length) (h : Q (kas_item it (l.getD i 0)) st) : wpS (model prog w) A E s (elem' (ar it l) i) Q st := by
  refine w_elem (by simpa using hi) ?_
  have : l.toArray.getD i 0 = l.getD i 0 := by simp
  rw [this]; exact h
theorem w_ite {α : Type} {c : Prop} [Decidable c] {a b : StateT SortSt Sem α} {Q : α → SortSt → Prop} {st : SortSt} (h1 : c → wpS M A E s a Q st) (h2 : ¬ c → wpS M A E s b Q st) : wpS M A E s (if c then a else b) Q st := by
  by_cases h : c
  · rw [if_pos h]; exact h1 h
  · rw [if_neg h]; exact h2 h
/-- the order of the rows' numbers -/
abbrev RK (O : KeyOrd) (key : Nat → O.α) (x y : Nat) : Prop := O.kle (key x) (key y)
theorem rk_refl (x : Nat) : RK O key x x := KeyOrd.kle_refl _
theorem rk_trans {x y z : Nat} (h : RK O key x y) (k : RK O key y z) : RK O key x z := KeyOrd.kle_trans h k
variable {la lb : List Nat}
/-- under way: at least two of a, one of b are left -/
structure Cur (R : Nat → Nat → Prop) (it : Array Keyed) (la lb : List Nat) (st0 st' : SortSt) (out : Array Keyed) (ia ib low : Nat) : Prop where
  on : Only st0 st'
  mg : ∃ po, out = ar it po ∧ Mg R la lb po ia ib
  h1 : ia + 1 < la.length
  h2 : ib < lb.length
  low : low ≤ ia + ib
def Ended (R : Nat → Nat → Prop) (it : Array Keyed) (la lb : List Nat) (st0 st' : SortSt) (r : Array Keyed) : Prop := Only st0 st' ∧ ∃ pr, r = ar it pr ∧ Res R la lb pr
theorem mergeLo_ok (hc : Asks prog w A s O key κ it N) {st : SortSt} {Q : Array Keyed → SortSt → Prop} (ha : ∀ x ∈ la, x < N) (hb : ∀ x ∈ lb, x < N) (sa : la.Pairwise (RK O key)) (sb : lb.Pairwise (RK O key)) (na : la ≠ []) (nb : lb ≠ []) (h0 : RK O key (lb.getD 0 0) (la.getD 0 0))
    (hl : ∀ x ∈ lb, RK O key x (la.getD (la.length - 1) 0)) (hkd : kindOf st = κ) (h : ∀ pr st', Only st st' → Res (RK O key) la lb pr → Q (ar it pr) st') : wpS (model prog w) A E s (mergeLoT (ar it la) (ar it lb)) Q st := by
  have la0 : 0 < la.length := List.length_pos_iff.mpr na
  have lb0 : 0 < lb.length := List.length_pos_iff.mpr nb
  have gN : ∀ {l : List Nat}, (∀ x ∈ l, x < N) → ∀ i, i < l.length → l.getD i 0 < N := fun {l} hh i hi => by
    rw [List.getD_eq_getElem?_getD, List.getElem?_eq_getElem hi]; exact hh _ (List.getElem_mem hi)
  have gA := gN ha
  have gB := gN hb
  have tA : ∀ i, i < la.toArray.size → la.toArray.getD i 0 < N := fun i hi => by
    have e : la.toArray.getD i 0 = la.getD i 0 := by simp
    rw [e]; exact gA i (by simpa using hi)
  have tB : ∀ i, i < lb.toArray.size → lb.toArray.getD i 0 < N := fun i hi => by
    have e : lb.toArray.getD i 0 = lb.getD i 0 := by simp
    rw [e]; exact gB i (by simpa using hi)
  have eA : ∀ i, la.toArray.getD i 0 = la.getD i 0 := fun i => by simp
  have eB : ∀ i, lb.toArray.getD i 0 = lb.getD i 0 := fun i => by simp
  have pA : ∀ {i j : Nat}, i ≤ j → j < la.length → RK O key (la.getD i 0) (la.getD j 0) := fun hij hj => pw_get rk_refl sa hij hj
  have pB : ∀ {i j : Nat}, i ≤ j → j < lb.length → RK O key (lb.getD i 0) (lb.getD j 0) := fun hij hj => pw_get rk_refl sb hij hj
  have lastA : ∀ ia, ia + 1 = la.length → ∀ x ∈ lb, ∀ y ∈ la.drop ia, RK O key x y := fun ia e x hx y hy => by
    obtain ⟨j, j1, j2, rfl⟩ := mem_dropN hy
    obtain rfl : j = la.length - 1 := by omega
    exact hl x hx
  -- one of b, one of a
  have stB : ∀ {po : List Nat} {ia ib : Nat}, Mg (RK O key) la lb po ia ib → ib < lb.length → (ia < la.length → RK O key (lb.getD ib 0) (la.getD ia 0)) → Mg (RK O key) la lb (po ++ [lb.getD ib 0]) ia (ib + 1) := fun {po ia ib} m hi hr => by
    have := m.pushB sb 1 (by omega) (fun x hx y hy => by
      rw [take1 hi, List.mem_singleton] at hx
      obtain ⟨j, j1, j2, rfl⟩ := mem_dropN hy
      rw [hx]
      exact rk_trans (hr (by omega)) (pA j1 j2))
    rwa [take1 hi] at this
  have stA : ∀ {po : List Nat} {ia ib : Nat}, Mg (RK O key) la lb po ia ib → ia < la.length → (ib < lb.length → RK O key (la.getD ia 0) (lb.getD ib 0)) → Mg (RK O key) la lb (po ++ [la.getD ia 0]) (ia + 1) ib := fun {po ia ib} m hi hr => by
    have := m.pushA sa 1 (by omega) (fun x hx y hy => by
      rw [take1 hi, List.mem_singleton] at hx
      obtain ⟨j, j1, j2, rfl⟩ := mem_dropN hy
      rw [hx]
      exact rk_trans (hr (by omega)) (pB j1 j2))
    rwa [take1 hi] at this
  unfold mergeLoT
  rw [(sortPriv% PySem.Builtin.mergeLo.eq_def)]
  rw [ar_size, ar_size]
  refine wpS_bind (wpS_lift (wpAny_rule ⟨rfl, ?_⟩))
  extract_lets -underBinder -merge -useContext +onlyGivenNames tot
  clear_value (htot : tot = _)
  extract_lets -underBinder -merge -useContext +onlyGivenNames dn
  clear_value (hdn : dn = _)
  extract_lets -underBinder -merge -useContext +onlyGivenNames ls
  clear_value (hls : ls = _)
  have D : ∀ po ia ib, dn (ar it po) ia ib = ar it (po ++ la.drop ia ++ lb.drop ib) := fun po ia ib => by
    rw [hdn]
    show ar it po ++ (ar it la).extract ia _ ++ (ar it lb).extract ib _ = _
    rw [ar_ext, ar_ext, ar_app, ar_app, List.take_of_length_le (by simp), List.take_of_length_le (by simp)]
  have Ls : ∀ po ia ib, ls (ar it po) ia ib = ar it (po ++ lb.drop ib ++ la.drop ia) := fun po ia ib => by
    rw [hls]
    show ar it po ++ (ar it lb).extract ib _ ++ (ar it la).extract ia _ = _
    rw [ar_ext, ar_ext, ar_app, ar_app, List.take_of_length_le (by simp), List.take_of_length_le (by simp)]
  clear hdn hls
  have DB : ∀ {po : List Nat} {ia ib : Nat}, Mg (RK O key) la lb po ia ib → ib = lb.length → ∃ pr, dn (ar it po) ia ib = ar it pr ∧ Res (RK O key) la lb pr := fun {po ia ib} m e => ⟨_, D po ia ib, by
    have := m.endA sa e
    rw [e, List.drop_length, List.append_nil]; exact this⟩
  have DA : ∀ {po : List Nat} {ia ib : Nat}, Mg (RK O key) la lb po ia ib → ia = la.length → ∃ pr, dn (ar it po) ia ib = ar it pr ∧ Res (RK O key) la lb pr := fun {po ia ib} m e => ⟨_, D po ia ib, by
    have := m.endB sb e
    rw [e, List.drop_length, List.append_nil]; exact this⟩
  have DL : ∀ {po : List Nat} {ia ib : Nat}, Mg (RK O key) la lb po ia ib → ia + 1 = la.length → ∃ pr, ls (ar it po) ia ib = ar it pr ∧ Res (RK O key) la lb pr := fun {po ia ib} m e => ⟨_, Ls po ia ib, m.last sb e (lastA ia e)⟩
  clear D Ls
  refine wpS_bind (w_el lb0 ?_)
  extract_lets -underBinder -merge -useContext +onlyGivenNames zq
  subst zq
  extract_lets -underBinder -merge -useContext +onlyGivenNames zq
  subst zq
  extract_lets -underBinder -merge -useContext +onlyGivenNames zq
  subst zq
  try dsimp -zeta only
  rw [ar_one]
  have m0 : Mg (RK O key) la lb [lb.getD 0 0] 0 1 := by
    have := stB (po := []) (ia := 0) (ib := 0) ⟨Nat.zero_le _, Nat.zero_le _, List.Perm.refl _, List.Pairwise.nil, fun x hx => by simp at hx⟩ lb0 (fun _ => h0)
    exact this
  refine w_ite (fun e => ?_) (fun e => ?_)
  · obtain ⟨pr, e1, e2⟩ := DB m0 (by simpa using e)
    rw [e1]; exact wpS_pure (h pr st (Only.refl _) e2)
  have n1 : 1 < lb.length := by
    have : ¬ 1 = lb.length := by simpa using e
    omega
  refine w_ite (fun e => ?_) (fun e => ?_)
  · obtain ⟨pr, e1, e2⟩ := DL m0 (by simpa using e)
    rw [e1]; exact wpS_pure (h pr st (Only.refl _) e2)
  have n2 : 1 < la.length := by
    have : ¬ 1 = la.length := by simpa using e
    omega
  refine wpS_bind (wpS_get ?_)
  extract_lets -underBinder -merge -useContext +onlyGivenNames zq
  subst zq
  try dsimp -zeta only
  have lt_le : ∀ {x y : Nat}, O.blt (key x) (key y) = true → RK O key x y := fun h => KeyOrd.kle_of_klt h
  have nl_le : ∀ {x y : Nat}, O.blt (key x) (key y) = false → RK O key y x := fun h => h
  refine wpS_bind (wpS_mono (wpS_forRange (I := fun x c st' => c.1 = none ∧ Cur (RK O key) it la lb st st' c.2.1 c.2.2.1 c.2.2.2.1 x) (Q := fun c st' => ∃ r, c.1 = some r ∧ Ended (RK O key) it la lb st st' r) ?step ?fin ⟨rfl, Only.refl _, ⟨_, rfl, m0⟩, by omega, n1, by omega⟩) ?post)
  case post =>
    rintro ⟨r0, out, ia, ib, mg⟩ st' ⟨r, e, on, pr, e2, re⟩
    obtain rfl : r0 = some r := e
    extract_lets -underBinder -merge -useContext +onlyGivenNames zq
    subst zq
    try dsimp -zeta only
    try dsimp -zeta only
    rw [e2]
    exact wpS_pure (h pr st' on re)
  case fin =>
    rintro ⟨r0, out, ia, ib, mg⟩ st' ⟨e, cu⟩
    exfalso
    have h1 := cu.h1
    have h2 := cu.h2
    have h3 := cu.low
    dsimp only at h1 h2 h3
    rw [htot] at h3
    omega
  case step =>
    rintro x ⟨r0, out, ia, ib, mg⟩ st' _ hx ⟨e0, on, ⟨po, eo, m⟩, h1, h2, lo⟩
    dsimp only at e0 eo m h1 h2 lo
    subst e0 eo
    extract_lets -underBinder -merge -useContext +onlyGivenNames zq
    subst zq
    extract_lets -underBinder -merge -useContext +onlyGivenNames zq
    subst zq
    extract_lets -underBinder -merge -useContext +onlyGivenNames zq
    subst zq
    extract_lets -underBinder -merge -useContext +onlyGivenNames zq
    subst zq
    extract_lets -underBinder -merge -useContext +onlyGivenNames zq
    subst zq
    extract_lets -underBinder -merge -useContext +onlyGivenNames zq
    subst zq
    extract_lets -underBinder -merge -useContext +onlyGivenNames zq
    subst zq
    extract_lets -underBinder -merge -useContext +onlyGivenNames zq
    subst zq
    extract_lets -underBinder -merge -useContext +onlyGivenNames zq
    subst zq
    try dsimp -zeta only
    refine wpS_bind (wpS_mono (wpS_forRange (I := fun y c st2 => c.1 = none ∧ Cur (RK O key) it la lb st st2 c.2.1 c.2.2.1 c.2.2.2.1 (ia + ib + y)) (Q := fun c st2 => (∃ r, c.1 = some r ∧ Ended (RK O key) it la lb st st2 r) ∨ (c.1 = none ∧ Cur (RK O key) it la lb st st2 c.2.1 c.2.2.1 c.2.2.2.1 (x + 1))) ?s1 ?f1 ⟨rfl, on, ⟨po, rfl, m⟩, h1, h2, by dsimp only; omega⟩) ?p1)
    case f1 =>
      rintro ⟨r1, out, ia1, ib1, ac, bc⟩ st2 ⟨e, cu⟩
      have h3 := cu.low
      dsimp only at h3
      rw [htot] at h3
      exact .inr ⟨e, cu.on, cu.mg, cu.h1, cu.h2, by dsimp only; omega⟩
    case s1 =>
      rintro y ⟨r1, out, ia1, ib1, ac, bc⟩ st2 _ hy ⟨e1, on2, ⟨po2, eo2, m2⟩, g1, g2, lo2⟩
      dsimp only at e1 eo2 m2 g1 g2 lo2
      subst e1 eo2
      have kd2 : kindOf st2 = κ := on2.kd.trans hkd
      extract_lets -underBinder -merge -useContext +onlyGivenNames zq
      subst zq
      extract_lets -underBinder -merge -useContext +onlyGivenNames zq
      subst zq
      extract_lets -underBinder -merge -useContext +onlyGivenNames zq
      subst zq
      extract_lets -underBinder -merge -useContext +onlyGivenNames zq
      subst zq
      extract_lets -underBinder -merge -useContext +onlyGivenNames zq
      subst zq
      extract_lets -underBinder -merge -useContext +onlyGivenNames zq
      subst zq
      extract_lets -underBinder -merge -useContext +onlyGivenNames zq
      subst zq
      extract_lets -underBinder -merge -useContext +onlyGivenNames zq
      subst zq
      extract_lets -underBinder -merge -useContext +onlyGivenNames zq
      subst zq
      try dsimp -zeta only
      refine wpS_bind (w_el g2 (wpS_bind (w_el (by omega) (wpS_bind (w_lt hc (gB _ g2) (gA _ (by omega)) kd2 ?_)))))
      try dsimp -zeta only
      refine w_ite (fun hb1 => ?_) (fun hb1 => ?_)
      · refine wpS_bind (w_el g2 ?_)
        extract_lets -underBinder -merge -useContext +onlyGivenNames zq
        subst zq
        extract_lets -underBinder -merge -useContext +onlyGivenNames zq
        subst zq
        extract_lets -underBinder -merge -useContext +onlyGivenNames zq
        subst zq
        extract_lets -underBinder -merge -useContext +onlyGivenNames zq
        subst zq
        try dsimp -zeta only
        rw [ar_push]
        have m3 := stB m2 g2 (fun _ => lt_le hb1)
        refine w_ite (fun e => ?_) (fun e => w_ite (fun _ => ?_) (fun _ => ?_))
        · obtain ⟨pr, e1, e2⟩ := DB m3 (by simpa using e)
          exact wpS_pure (.inl ⟨_, rfl, on2, pr, e1, e2⟩)
        · have : ¬ ib1 + 1 = lb.length := by simpa using e
          exact wpS_pure (.inr ⟨rfl, on2, ⟨_, rfl, m3⟩, g1, by dsimp only; omega, by dsimp only; omega⟩)
        · have : ¬ ib1 + 1 = lb.length := by simpa using e
          exact wpS_pure ⟨rfl, on2, ⟨_, rfl, m3⟩, g1, by dsimp only; omega, by dsimp only; omega⟩
      · refine wpS_bind (w_el (by omega) ?_)
        extract_lets -underBinder -merge -useContext +onlyGivenNames zq
        subst zq
        extract_lets -underBinder -merge -useContext +onlyGivenNames zq
        subst zq
        extract_lets -underBinder -merge -useContext +onlyGivenNames zq
        subst zq
        extract_lets -underBinder -merge -useContext +onlyGivenNames zq
        subst zq
        try dsimp -zeta only
        rw [ar_push]
        have m3 := stA m2 (by omega) (fun _ => nl_le (Bool.not_eq_true _ |>.mp hb1))
        refine w_ite (fun e => ?_) (fun e => w_ite (fun _ => ?_) (fun _ => ?_))
        · obtain ⟨pr, e1, e2⟩ := DL m3 (by simpa using e)
          exact wpS_pure (.inl ⟨_, rfl, on2, pr, e1, e2⟩)
        · have : ¬ ia1 + 1 + 1 = la.length := by simpa using e
          exact wpS_pure (.inr ⟨rfl, on2, ⟨_, rfl, m3⟩, by dsimp only; omega, g2, by dsimp only; omega⟩)
        · have : ¬ ia1 + 1 + 1 = la.length := by simpa using e
          exact wpS_pure ⟨rfl, on2, ⟨_, rfl, m3⟩, by dsimp only; omega, g2, by dsimp only; omega⟩
    case p1 =>
      rintro ⟨r1, out, ia1, ib1, ac, bc⟩ st2 (⟨r, e, en⟩ | ⟨e, on2, ⟨po2, eo2, m2⟩, g1, g2, lo2⟩)
      · obtain rfl : r1 = some r := e
        extract_lets -underBinder -merge -useContext +onlyGivenNames zq
        subst zq
        extract_lets -underBinder -merge -useContext +onlyGivenNames zq
        subst zq
        extract_lets -underBinder -merge -useContext +onlyGivenNames zq
        subst zq
        extract_lets -underBinder -merge -useContext +onlyGivenNames zq
        subst zq
        extract_lets -underBinder -merge -useContext +onlyGivenNames zq
        subst zq
        extract_lets -underBinder -merge -useContext +onlyGivenNames zq
        subst zq
        extract_lets -underBinder -merge -useContext +onlyGivenNames zq
        subst zq
        extract_lets -underBinder -merge -useContext +onlyGivenNames zq
        subst zq
        extract_lets -underBinder -merge -useContext +onlyGivenNames zq
        subst zq
        extract_lets -underBinder -merge -useContext +onlyGivenNames zq
        subst zq
        try dsimp -zeta only
        try dsimp -zeta only
        exact wpS_pure ⟨r, rfl, en⟩
      dsimp only at e eo2 m2 g1 g2 lo2
      subst e eo2
      extract_lets -underBinder -merge -useContext +onlyGivenNames zq
      subst zq
      extract_lets -underBinder -merge -useContext +onlyGivenNames zq
      subst zq
      extract_lets -underBinder -merge -useContext +onlyGivenNames zq
      subst zq
      extract_lets -underBinder -merge -useContext +onlyGivenNames zq
      subst zq
      extract_lets -underBinder -merge -useContext +onlyGivenNames zq
      subst zq
      extract_lets -underBinder -merge -useContext +onlyGivenNames zq
      subst zq
      extract_lets -underBinder -merge -useContext +onlyGivenNames zq
      subst zq
      extract_lets -underBinder -merge -useContext +onlyGivenNames zq
      subst zq
      extract_lets -underBinder -merge -useContext +onlyGivenNames zq
      subst zq
      extract_lets -underBinder -merge -useContext +onlyGivenNames zq
      subst zq
      try dsimp -zeta only
      try dsimp -zeta only
      refine wpS_bind (wpS_lift (wpAny_rule ⟨rfl, ?_⟩))
      extract_lets -underBinder -merge -useContext +onlyGivenNames zq
      subst zq
      try dsimp -zeta only
      refine wpS_bind (wpS_mono (wpS_forRange (I := fun z c st3 => c.1 = none ∧ Cur (RK O key) it la lb st st3 c.2.1 c.2.2.1 c.2.2.2.1 (x + 1)) (Q := fun c st3 => (∃ r, c.1 = some r ∧ Ended (RK O key) it la lb st st3 r) ∨ (c.1 = none ∧ Cur (RK O key) it la lb st st3 c.2.1 c.2.2.1 c.2.2.2.1 (x + 1))) ?s2 ?f2 ⟨rfl, on2, ⟨po2, rfl, m2⟩, g1, g2, lo2⟩) ?p2)
      case f2 =>
        rintro c st3 ⟨e, cu⟩
        exact .inr ⟨e, cu⟩
      case p2 =>
        rintro ⟨r3, out, ia3, ib3, mg3, ac3, bc3⟩ st3 (⟨r, e, en⟩ | ⟨e, cu⟩)
        · obtain rfl : r3 = some r := e
          extract_lets -underBinder -merge -useContext +onlyGivenNames zq
          subst zq
          extract_lets -underBinder -merge -useContext +onlyGivenNames zq
          subst zq
          extract_lets -underBinder -merge -useContext +onlyGivenNames zq
          subst zq
          extract_lets -underBinder -merge -useContext +onlyGivenNames zq
          subst zq
          extract_lets -underBinder -merge -useContext +onlyGivenNames zq
          subst zq
          extract_lets -underBinder -merge -useContext +onlyGivenNames zq
          subst zq
          extract_lets -underBinder -merge -useContext +onlyGivenNames zq
          subst zq
          extract_lets -underBinder -merge -useContext +onlyGivenNames zq
          subst zq
          extract_lets -underBinder -merge -useContext +onlyGivenNames zq
          subst zq
          try dsimp -zeta only
          try dsimp -zeta only
          exact wpS_pure ⟨r, rfl, en⟩
        · obtain rfl : r3 = none := e
          extract_lets -underBinder -merge -useContext +onlyGivenNames zq
          subst zq
          extract_lets -underBinder -merge -useContext +onlyGivenNames zq
          subst zq
          extract_lets -underBinder -merge -useContext +onlyGivenNames zq
          subst zq
          extract_lets -underBinder -merge -useContext +onlyGivenNames zq
          subst zq
          extract_lets -underBinder -merge -useContext +onlyGivenNames zq
          subst zq
          extract_lets -underBinder -merge -useContext +onlyGivenNames zq
          subst zq
          extract_lets -underBinder -merge -useContext +onlyGivenNames zq
          subst zq
          extract_lets -underBinder -merge -useContext +onlyGivenNames zq
          subst zq
          extract_lets -underBinder -merge -useContext +onlyGivenNames zq
          subst zq
          try dsimp -zeta only
          try dsimp -zeta only
          extract_lets -underBinder -merge -useContext +onlyGivenNames zq
          subst zq
          try dsimp -zeta only
          refine wpS_bind (w_set fun st4 on4 => wpS_pure ⟨rfl, cu.on.trans on4, cu.mg, cu.h1, cu.h2, cu.low⟩)
      case s2 =>
        rintro z ⟨r3, out, ia3, ib3, mg3, ac3, bc3⟩ st3 _ hz ⟨e3, on3, ⟨po3, eo3, m3⟩, k1, k2, lo3⟩
        dsimp only at e3 eo3 m3 k1 k2 lo3
        subst e3 eo3
        extract_lets -underBinder -merge -useContext +onlyGivenNames zq
        subst zq
        extract_lets -underBinder -merge -useContext +onlyGivenNames zq
        subst zq
        extract_lets -underBinder -merge -useContext +onlyGivenNames zq
        subst zq
        extract_lets -underBinder -merge -useContext +onlyGivenNames zq
        subst zq
        extract_lets -underBinder -merge -useContext +onlyGivenNames zq
        subst zq
        extract_lets -underBinder -merge -useContext +onlyGivenNames zq
        subst zq
        extract_lets -underBinder -merge -useContext +onlyGivenNames zq
        subst zq
        extract_lets -underBinder -merge -useContext +onlyGivenNames zq
        subst zq
        extract_lets -underBinder -merge -useContext +onlyGivenNames zq
        subst zq
        extract_lets -underBinder -merge -useContext +onlyGivenNames zq
        subst zq
        extract_lets -underBinder -merge -useContext +onlyGivenNames zq
        subst zq
        try dsimp -zeta only
        extract_lets -underBinder -merge -useContext +onlyGivenNames jp
        clear_value (hjp : jp = _)
        have J : ∀ (u : Unit) (g : Nat), wpS (model prog w) A E s (jp u g) (fun r st' => match r with | .done c' => (∃ r, c'.1 = some r ∧ Ended (RK O key) it la lb st st' r) ∨ (c'.1 = none ∧ Cur (RK O key) it la lb st st' c'.2.1 c'.2.2.1 c'.2.2.2.1 (x + 1)) | .yield c' => c'.1 = none ∧ Cur (RK O key) it la lb st st' c'.2.1 c'.2.2.1 c'.2.2.2.1 (x + 1)) st3 := fun u g => by
          rw [hjp]
          try dsimp -zeta only
          refine wpS_bind (w_set fun st4 on4 => ?_)
          have on34 := on3.trans on4
          have kd4 : kindOf st4 = κ := on34.kd.trans hkd
          refine wpS_bind (w_el k2 ?_)
          refine wpS_bind (gallop_ok hc (left := false) (k := lb.getD ib3 0) (p := la.toArray) (base := ia3) (n := la.length - ia3) (hint := 0) (gB _ k2) tA (by simp; omega) (by omega) kd4 (fun i => !O.blt (key (lb.getD ib3 0)) (key (la.getD (ia3 + i) 0))) (fun i hi => by rw [if_neg Bool.false_ne_true, eA]) (fun i j hij hj e => ?_) (fun k hk1 hk2 hk3 => ?_))
          · have e' : O.blt (key (lb.getD ib3 0)) (key (la.getD (ia3 + j) 0)) = false := by simpa using e
            have := rk_trans (pA (i := ia3 + i) (j := ia3 + j) (by omega) (by omega)) (nl_le e')
            show (!O.blt _ _) = true
            rw [show O.blt (key (lb.getD ib3 0)) (key (la.getD (ia3 + i) 0)) = false from this]; rfl
          try dsimp -zeta only
          extract_lets -underBinder -merge -useContext +onlyGivenNames zq
          subst zq
          try dsimp -zeta only
          extract_lets -underBinder -merge -useContext +onlyGivenNames jp2
          clear_value (hjp2 : jp2 = _)
          have J2 : ∀ (u : Unit) (out' : Array Keyed) (ia' : Nat) (po' : List Nat), out' = ar it po' → Mg (RK O key) la lb po' ia' ib3 → ia' + 1 < la.length → RK O key (lb.getD ib3 0) (la.getD ia' 0) → ia3 ≤ ia' → wpS (model prog w) A E s (jp2 u out' ia') (fun r st' => match r with | .done c' => (∃ r, c'.1 = some r ∧ Ended (RK O key) it la lb st st' r) ∨ (c'.1 = none ∧ Cur (RK O key) it la lb st st' c'.2.1 c'.2.2.1 c'.2.2.2.1 (x + 1)) | .yield c' => c'.1 = none ∧ Cur (RK O key) it la lb st st' c'.2.1 c'.2.2.1 c'.2.2.2.1 (x + 1)) st4 := fun u out' ia' po' eo' m' l1 l2 l3 => by
            rw [hjp2, eo']
            try dsimp -zeta only
            refine wpS_bind (w_el k2 ?_)
            extract_lets -underBinder -merge -useContext +onlyGivenNames zq
            subst zq
            extract_lets -underBinder -merge -useContext +onlyGivenNames zq
            subst zq
            try dsimp -zeta only
            rw [ar_push]
            have m4 := stB m' k2 (fun _ => l2)
            refine w_ite (fun e => ?_) (fun e => ?_)
            · obtain ⟨pr, e1, e2⟩ := DB m4 (by simpa using e)
              exact wpS_pure (.inl ⟨_, rfl, on34, pr, e1, e2⟩)
            have k3 : ib3 + 1 < lb.length := by
              have : ¬ ib3 + 1 = lb.length := by simpa using e
              omega
            refine wpS_bind (w_el (by omega) ?_)
            refine wpS_bind (gallop_ok hc (left := true) (k := la.getD ia' 0) (p := lb.toArray) (base := ib3 + 1) (n := lb.length - (ib3 + 1)) (hint := 0) (gA _ (by omega)) tB (by simp; omega) (by omega) kd4 (fun i => O.blt (key (lb.getD (ib3 + 1 + i) 0)) (key (la.getD ia' 0))) (fun i hi => by rw [if_pos rfl, eB]) (fun i j hij hj e => ?_) (fun q hq1 hq2 hq3 => ?_))
            · have := pB (i := ib3 + 1 + i) (j := ib3 + 1 + j) (by omega) (by omega)
              exact KeyOrd.klt_of_kle_of_klt this e
            try dsimp -zeta only
            extract_lets -underBinder -merge -useContext +onlyGivenNames zq
            subst zq
            try dsimp -zeta only
            extract_lets -underBinder -merge -useContext +onlyGivenNames jp3
            clear_value (hjp3 : jp3 = _)
            have J3 : ∀ (u : Unit) (out' : Array Keyed) (ib' : Nat) (po' : List Nat), out' = ar it po' → Mg (RK O key) la lb po' ia' ib' → ib' < lb.length → RK O key (la.getD ia' 0) (lb.getD ib' 0) → ib3 ≤ ib' → wpS (model prog w) A E s (jp3 u out' ib') (fun r st' => match r with | .done c' => (∃ r, c'.1 = some r ∧ Ended (RK O key) it la lb st st' r) ∨ (c'.1 = none ∧ Cur (RK O key) it la lb st st' c'.2.1 c'.2.2.1 c'.2.2.2.1 (x + 1)) | .yield c' => c'.1 = none ∧ Cur (RK O key) it la lb st st' c'.2.1 c'.2.2.1 c'.2.2.2.1 (x + 1)) st4 := fun u out' ib' po' eo' m' l1' l2' l3' => by
              rw [hjp3, eo']
              try dsimp -zeta only
              refine wpS_bind (w_el (by omega) ?_)
              extract_lets -underBinder -merge -useContext +onlyGivenNames zq
              subst zq
              extract_lets -underBinder -merge -useContext +onlyGivenNames zq
              subst zq
              try dsimp -zeta only
              rw [ar_push]
              have m5 := stA m' (by omega) (fun _ => l2')
              refine w_ite (fun e => ?_) (fun e => ?_)
              · obtain ⟨pr, e1, e2⟩ := DL m5 (by simpa using e)
                exact wpS_pure (.inl ⟨_, rfl, on34, pr, e1, e2⟩)
              have k4 : ia' + 1 + 1 < la.length := by
                have : ¬ ia' + 1 + 1 = la.length := by simpa using e
                omega
              refine w_ite (fun _ => ?_) (fun _ => ?_)
              · exact wpS_pure (.inr ⟨rfl, on34, ⟨_, rfl, m5⟩, k4, l1', by dsimp only; omega⟩)
              · exact wpS_pure ⟨rfl, on34, ⟨_, rfl, m5⟩, k4, l1', by dsimp only; omega⟩
            clear hjp3
            refine w_ite (fun hq => ?_) (fun hq => ?_)
            · have m5 := m4.pushB sb q (by omega) (fun x hx y hy => by
                obtain ⟨j, j1, j2, j3, rfl⟩ := mem_segN hx
                obtain ⟨i, i1, i2, rfl⟩ := mem_dropN hy
                have := hq2 (j - (ib3 + 1)) (by omega)
                rw [show ib3 + 1 + (j - (ib3 + 1)) = j by omega] at this
                exact rk_trans (lt_le this) (pA i1 i2))
              extract_lets -underBinder -merge -useContext +onlyGivenNames zq
              subst zq
              extract_lets -underBinder -merge -useContext +onlyGivenNames zq
              subst zq
              try dsimp -zeta only
              rw [ar_ext, ar_app, show ib3 + 1 + q - (ib3 + 1) = q by omega]
              refine w_ite (fun e => ?_) (fun e => ?_)
              · obtain ⟨pr, e1, e2⟩ := DB m5 (by simpa using e)
                exact wpS_pure (.inl ⟨_, rfl, on34, pr, e1, e2⟩)
              have : ¬ ib3 + 1 + q = lb.length := by simpa using e
              exact J3 () _ _ _ rfl m5 (by omega) (nl_le (by have := hq3 q (Nat.le_refl _) (by omega); exact this)) (by omega)
            · obtain rfl : q = 0 := by omega
              exact J3 () _ _ _ rfl m4 k3 (nl_le (by have := hq3 0 (Nat.le_refl _) (by omega); exact this)) (by omega)
          clear hjp2
          refine w_ite (fun hq => ?_) (fun hq => ?_)
          · have m5 := m3.pushA sa k (by omega) (fun x hx y hy => by
              obtain ⟨j, j1, j2, j3, rfl⟩ := mem_segN hx
              obtain ⟨i, i1, i2, rfl⟩ := mem_dropN hy
              have := hk2 (j - ia3) (by omega)
              rw [show ia3 + (j - ia3) = j by omega] at this
              exact rk_trans (nl_le (by simpa using this)) (pB i1 i2))
            extract_lets -underBinder -merge -useContext +onlyGivenNames zq
            subst zq
            extract_lets -underBinder -merge -useContext +onlyGivenNames zq
            subst zq
            try dsimp -zeta only
            rw [ar_ext, ar_app, show ia3 + k - ia3 = k by omega]
            refine w_ite (fun e => ?_) (fun e => w_ite (fun e' => ?_) (fun e' => ?_))
            · obtain ⟨pr, e1, e2⟩ := DL m5 (by simpa using e)
              exact wpS_pure (.inl ⟨_, rfl, on34, pr, e1, e2⟩)
            · obtain ⟨pr, e1, e2⟩ := DA m5 (by simpa using e')
              exact wpS_pure (.inl ⟨_, rfl, on34, pr, e1, e2⟩)
            have q1 : ¬ ia3 + k + 1 = la.length := by simpa using e
            have q2 : ¬ ia3 + k = la.length := by simpa using e'
            exact J2 () _ _ _ rfl m5 (by omega) (lt_le (by have := hk3 k (Nat.le_refl _) (by omega); simpa using this)) (by omega)
          · obtain rfl : k = 0 := by omega
            exact J2 () _ _ _ rfl m3 k1 (lt_le (by have := hk3 0 (Nat.le_refl _) (by omega); simpa using this)) (by omega)
        clear hjp
        refine w_ite (fun _ => ?_) (fun _ => ?_)
        · extract_lets -underBinder -merge -useContext +onlyGivenNames zq
          subst zq
          try dsimp -zeta only
          exact wpS_mono (J () _) fun r st' hr => by cases r <;> exact hr
        · exact wpS_mono (J () _) fun r st' hr => by cases r <;> exact hr
end
end Tim

namespace Tim
open PySem PySem.W PyProof.Rows
theorem made4 (a b : Array Keyed) : True := by
  fun_cases (sortPriv% PySem.Builtin.mergeHi) a b
  all_goals trivial
def mergeHiT : Array Keyed → Array Keyed → StateT SortSt Sem (Array Keyed) := sortPriv% PySem.Builtin.mergeHi
theorem seg_rev {l : List Nat} {n k : Nat} (hn : n ≤ l.length) (hk : k ≤ n) : (l.reverse.drop (l.length - n)).take k = ((l.drop (n - k)).take k).reverse := by
  rw [List.drop_reverse, show l.length - (l.length - n) = n by omega, List.take_reverse, List.length_take, show min n l.length - k = n - k by omega, List.drop_take, show n - (n - k) = k by omega]
theorem drop_rev {l : List Nat} {n : Nat} (hn : n ≤ l.length) : l.reverse.drop (l.length - n) = (l.take n).reverse := by
  rw [List.drop_reverse, show l.length - (l.length - n) = n by omega]
theorem one_rev {l : List Nat} {n : Nat} (hn : n ≤ l.length) (h1 : 1 ≤ n) : (l.reverse.drop (l.length - n)).take 1 = [l.getD (n - 1) 0] := by
  rw [seg_rev hn h1, take1 (by omega)]; rfl
theorem mem_takeN {l : List Nat} {n x : Nat} (h : x ∈ l.take n) : ∃ j, j < n ∧ j < l.length ∧ x = l.getD j 0 := by
  obtain ⟨j, hj, e⟩ := List.getElem_of_mem h
  rw [List.length_take] at hj
  rw [List.getElem_take] at e
  exact ⟨j, by omega, by omega, by rw [List.getD_eq_getElem?_getD, List.getElem?_eq_getElem (by omega)]; exact e.symm⟩
section
variable {M : Model} {prog : Program} {w : World} {A : Around} {E : Value → Shared → Prop} {s : Shared} {O : KeyOrd} {key : Nat → O.α} {κ : SortKind} {it : Array Keyed} {N : Nat} {la lb : List Nat}
/-- from above: as far as na of a and nb of b are left -/
abbrev Mh (O : KeyOrd) (key : Nat → O.α) (la lb po : List Nat) (na nb : Nat) : Prop := Mg (fun x y => RK O key y x) lb.reverse la.reverse po (lb.length - nb) (la.length - na)
theorem res_rev {pr : List Nat} (h : Res (fun x y => RK O key y x) lb.reverse la.reverse pr) : Res (RK O key) la lb pr.reverse := by
  refine ⟨(List.reverse_perm _).trans (h.1.trans ?_), ?_⟩
  · exact (List.Perm.append (List.reverse_perm _) (List.reverse_perm _)).trans List.perm_append_comm
  · rw [List.pairwise_reverse]; exact h.2
structure CurH (O : KeyOrd) (key : Nat → O.α) (it : Array Keyed) (la lb : List Nat) (st0 st' : SortSt) (out : Array Keyed) (na nb low : Nat) : Prop where
  on : Only st0 st'
  mg : ∃ po, out = ar it po ∧ Mh O key la lb po na nb
  h1 : 1 ≤ na ∧ na ≤ la.length
  h2 : 2 ≤ nb ∧ nb ≤ lb.length
  low : low ≤ (la.length - na) + (lb.length - nb)
theorem mergeHi_ok (hc : Asks prog w A s O key κ it N) {st : SortSt} {Q : Array Keyed → SortSt → Prop} (ha : ∀ x ∈ la, x < N) (hb : ∀ x ∈ lb, x < N) (sa : la.Pairwise (RK O key)) (sb : lb.Pairwise (RK O key)) (na0 : la ≠ []) (nb0 : lb ≠ []) (h0 : ∀ x ∈ la, RK O key (lb.getD 0 0) x)
    (hl : RK O key (lb.getD (lb.length - 1) 0) (la.getD (la.length - 1) 0)) (hkd : kindOf st = κ) (h : ∀ pr st', Only st st' → Res (RK O key) la lb pr → Q (ar it pr) st') : wpS (model prog w) A E s (mergeHiT (ar it la) (ar it lb)) Q st := by
  have la0 : 0 < la.length := List.length_pos_iff.mpr na0
  have lb0 : 0 < lb.length := List.length_pos_iff.mpr nb0
  have gN : ∀ {l : List Nat}, (∀ x ∈ l, x < N) → ∀ i, i < l.length → l.getD i 0 < N := fun {l} hh i hi => by
    rw [List.getD_eq_getElem?_getD, List.getElem?_eq_getElem hi]; exact hh _ (List.getElem_mem hi)
  have gA := gN ha
  have gB := gN hb
  have tA : ∀ i, i < la.toArray.size → la.toArray.getD i 0 < N := fun i hi => by
    have e : la.toArray.getD i 0 = la.getD i 0 := by simp
    rw [e]; exact gA i (by simpa using hi)
  have tB : ∀ i, i < lb.toArray.size → lb.toArray.getD i 0 < N := fun i hi => by
    have e : lb.toArray.getD i 0 = lb.getD i 0 := by simp
    rw [e]; exact gB i (by simpa using hi)
  have eA : ∀ i, la.toArray.getD i 0 = la.getD i 0 := fun i => by simp
  have eB : ∀ i, lb.toArray.getD i 0 = lb.getD i 0 := fun i => by simp
  have pA : ∀ {i j : Nat}, i ≤ j → j < la.length → RK O key (la.getD i 0) (la.getD j 0) := fun hij hj => pw_get rk_refl sa hij hj
  have pB : ∀ {i j : Nat}, i ≤ j → j < lb.length → RK O key (lb.getD i 0) (lb.getD j 0) := fun hij hj => pw_get rk_refl sb hij hj
  have ra : la.reverse.Pairwise (fun x y => RK O key y x) := List.pairwise_reverse.mpr sa
  have rb : lb.reverse.Pairwise (fun x y => RK O key y x) := List.pairwise_reverse.mpr sb
  have lt_le : ∀ {x y : Nat}, O.blt (key x) (key y) = true → RK O key x y := fun h => KeyOrd.kle_of_klt h
  have nl_le : ∀ {x y : Nat}, O.blt (key x) (key y) = false → RK O key y x := fun h => h
  -- some of a, some of b
  have psA : ∀ {po : List Nat} {na nb k : Nat}, Mh O key la lb po na nb → na ≤ la.length → nb ≤ lb.length → k ≤ na → (∀ j, na - k ≤ j → j < na → 1 ≤ nb → RK O key (lb.getD (nb - 1) 0) (la.getD j 0)) → Mh O key la lb (po ++ ((la.drop (na - k)).take k).reverse) (na - k) nb := fun {po na nb k} m l1 l2 hk hr => by
    have := m.pushB ra k (by rw [List.length_reverse]; omega) (fun x hx y hy => by
      rw [seg_rev l1 hk, List.mem_reverse] at hx
      rw [drop_rev l2, List.mem_reverse] at hy
      obtain ⟨j, j1, j2, j3, rfl⟩ := mem_segN hx
      obtain ⟨i, i1, i2, rfl⟩ := mem_takeN hy
      exact rk_trans (pB (by omega) (by omega)) (hr j j1 (by omega) (by omega)))
    rw [seg_rev l1 hk, show la.length - na + k = la.length - (na - k) by omega] at this
    exact this
  have psB : ∀ {po : List Nat} {na nb k : Nat}, Mh O key la lb po na nb → na ≤ la.length → nb ≤ lb.length → k ≤ nb → (∀ j, nb - k ≤ j → j < nb → 1 ≤ na → RK O key (la.getD (na - 1) 0) (lb.getD j 0)) → Mh O key la lb (po ++ ((lb.drop (nb - k)).take k).reverse) na (nb - k) := fun {po na nb k} m l1 l2 hk hr => by
    have := m.pushA rb k (by rw [List.length_reverse]; omega) (fun x hx y hy => by
      rw [seg_rev l2 hk, List.mem_reverse] at hx
      rw [drop_rev l1, List.mem_reverse] at hy
      obtain ⟨j, j1, j2, j3, rfl⟩ := mem_segN hx
      obtain ⟨i, i1, i2, rfl⟩ := mem_takeN hy
      exact rk_trans (pA (by omega) (by omega)) (hr j j1 (by omega) (by omega)))
    rw [seg_rev l2 hk, show lb.length - nb + k = lb.length - (nb - k) by omega] at this
    exact this
  have stA : ∀ {po : List Nat} {na nb : Nat}, Mh O key la lb po na nb → na ≤ la.length → nb ≤ lb.length → 1 ≤ na → (1 ≤ nb → RK O key (lb.getD (nb - 1) 0) (la.getD (na - 1) 0)) → Mh O key la lb (po ++ [la.getD (na - 1) 0]) (na - 1) nb := fun {po na nb} m l1 l2 hk hr => by
    have := psA m l1 l2 hk (fun j j1 j2 j3 => by rw [show j = na - 1 by omega]; exact hr j3)
    rwa [take1 (by omega)] at this
  have stB : ∀ {po : List Nat} {na nb : Nat}, Mh O key la lb po na nb → na ≤ la.length → nb ≤ lb.length → 1 ≤ nb → (1 ≤ na → RK O key (la.getD (na - 1) 0) (lb.getD (nb - 1) 0)) → Mh O key la lb (po ++ [lb.getD (nb - 1) 0]) na (nb - 1) := fun {po na nb} m l1 l2 hk hr => by
    have := psB m l1 l2 hk (fun j j1 j2 j3 => by rw [show j = nb - 1 by omega]; exact hr j3)
    rwa [take1 (by omega)] at this
  unfold mergeHiT
  rw [(sortPriv% PySem.Builtin.mergeHi.eq_def)]
  rw [ar_size, ar_size]
  refine wpS_bind (wpS_lift (wpAny_rule ⟨rfl, ?_⟩))
  extract_lets -underBinder -merge -useContext +onlyGivenNames tot
  clear_value (htot : tot = _)
  extract_lets -underBinder -merge -useContext +onlyGivenNames dn
  clear_value (hdn : dn = _)
  extract_lets -underBinder -merge -useContext +onlyGivenNames ls
  clear_value (hls : ls = _)
  have D : ∀ po na nb, dn (ar it po) na nb = ar it (la.take na ++ lb.take nb ++ po.reverse) := fun po na nb => by
    rw [hdn]
    show (ar it la).extract 0 na ++ (ar it lb).extract 0 nb ++ (ar it po).reverse = _
    rw [ar_ext, ar_ext, ar_rev, ar_app, ar_app, List.drop_zero, List.drop_zero, Nat.sub_zero, Nat.sub_zero]
  have Ls : ∀ po na nb, ls (ar it po) na nb = ar it (lb.take nb ++ la.take na ++ po.reverse) := fun po na nb => by
    rw [hls]
    show (ar it lb).extract 0 nb ++ (ar it la).extract 0 na ++ (ar it po).reverse = _
    rw [ar_ext, ar_ext, ar_rev, ar_app, ar_app, List.drop_zero, List.drop_zero, Nat.sub_zero, Nat.sub_zero]
  clear hdn hls
  have DA : ∀ {po : List Nat} {na nb : Nat}, Mh O key la lb po na nb → nb ≤ lb.length → na = 0 → ∃ pr, dn (ar it po) na nb = ar it pr ∧ Res (RK O key) la lb pr := fun {po na nb} m l2 e => ⟨_, D po na nb, by
    have := res_rev (m.endA rb (by rw [List.length_reverse, e]; rfl))
    rw [drop_rev l2, List.reverse_append, List.reverse_reverse] at this
    rw [e, List.take_zero, List.nil_append]; exact this⟩
  have DB : ∀ {po : List Nat} {na nb : Nat}, Mh O key la lb po na nb → na ≤ la.length → nb = 0 → ∃ pr, dn (ar it po) na nb = ar it pr ∧ Res (RK O key) la lb pr := fun {po na nb} m l1 e => ⟨_, D po na nb, by
    have := res_rev (m.endB ra (by rw [List.length_reverse, e]; rfl))
    rw [drop_rev l1, List.reverse_append, List.reverse_reverse] at this
    rw [e, List.take_zero, List.append_nil]; exact this⟩
  have DL : ∀ {po : List Nat} {na nb : Nat}, Mh O key la lb po na nb → na ≤ la.length → nb = 1 → ∃ pr, ls (ar it po) na nb = ar it pr ∧ Res (RK O key) la lb pr := fun {po na nb} m l1 e => ⟨_, Ls po na nb, by
    have := res_rev (m.last ra (by rw [List.length_reverse, e]; omega) (fun x hx y hy => by
      rw [drop_rev (by omega), List.mem_reverse, e] at hy
      obtain ⟨i, i1, i2, rfl⟩ := mem_takeN hy
      obtain rfl : i = 0 := by omega
      exact h0 x (List.mem_reverse.mp hx)))
    rw [drop_rev l1, drop_rev (by omega), List.reverse_append, List.reverse_append, List.reverse_reverse, List.reverse_reverse] at this
    rw [List.append_assoc]; exact this⟩
  clear D Ls
  extract_lets -underBinder -merge -useContext +onlyGivenNames zq
  subst zq
  extract_lets -underBinder -merge -useContext +onlyGivenNames zq
  subst zq
  try dsimp -zeta only
  refine wpS_bind (w_el (by omega) ?_)
  extract_lets -underBinder -merge -useContext +onlyGivenNames zq
  subst zq
  try dsimp -zeta only
  rw [ar_one]
  have m0 : Mh O key la lb [la.getD (la.length - 1) 0] (la.length - 1) lb.length := by
    have := stA (po := []) (na := la.length) (nb := lb.length) ⟨by rw [Nat.sub_self]; exact Nat.zero_le _, by rw [Nat.sub_self]; exact Nat.zero_le _, by rw [Nat.sub_self, Nat.sub_self]; exact List.Perm.refl _, List.Pairwise.nil, fun x hx => by simp at hx⟩ (Nat.le_refl _) (Nat.le_refl _) la0 (fun _ => hl)
    exact this
  refine w_ite (fun e => ?_) (fun e => ?_)
  · obtain ⟨pr, e1, e2⟩ := DA m0 (Nat.le_refl _) (by simpa using e)
    rw [e1]; exact wpS_pure (h pr st (Only.refl _) e2)
  have n1 : ¬ la.length - 1 = 0 := by simpa using e
  refine w_ite (fun e => ?_) (fun e => ?_)
  · obtain ⟨pr, e1, e2⟩ := DL m0 (by omega) (by simpa using e)
    rw [e1]; exact wpS_pure (h pr st (Only.refl _) e2)
  have n2 : ¬ lb.length = 1 := by simpa using e
  refine wpS_bind (wpS_get ?_)
  extract_lets -underBinder -merge -useContext +onlyGivenNames zq
  subst zq
  try dsimp -zeta only
  refine wpS_bind (wpS_mono (wpS_forRange (I := fun x c st' => c.1 = none ∧ CurH O key it la lb st st' c.2.2.2.1 c.2.1 c.2.2.1 x) (Q := fun c st' => ∃ r, c.1 = some r ∧ Ended (RK O key) it la lb st st' r) ?step ?fin ⟨rfl, Only.refl _, ⟨_, rfl, m0⟩, ⟨by dsimp only; omega, by dsimp only; omega⟩, ⟨by dsimp only; omega, by dsimp only; omega⟩, by omega⟩) ?post)
  case post =>
    rintro ⟨r0, na, nb, out, mg⟩ st' ⟨r, e, on, pr, e2, re⟩
    obtain rfl : r0 = some r := e
    extract_lets -underBinder -merge -useContext +onlyGivenNames zq
    subst zq
    try dsimp -zeta only
    try dsimp -zeta only
    rw [e2]
    exact wpS_pure (h pr st' on re)
  case fin =>
    rintro ⟨r0, na, nb, out, mg⟩ st' ⟨e, cu⟩
    exfalso
    have h1 := cu.h1
    have h2 := cu.h2
    have h3 := cu.low
    dsimp only at h1 h2 h3
    rw [htot] at h3
    omega
  case step =>
    rintro x ⟨r0, na, nb, out, mg⟩ st' _ hx ⟨e0, on, ⟨po, eo, m⟩, ⟨h1, h1'⟩, ⟨h2, h2'⟩, lo⟩
    dsimp only at e0 eo m h1 h1' h2 h2' lo
    subst e0 eo
    extract_lets -underBinder -merge -useContext +onlyGivenNames zq
    subst zq
    extract_lets -underBinder -merge -useContext +onlyGivenNames zq
    subst zq
    extract_lets -underBinder -merge -useContext +onlyGivenNames zq
    subst zq
    extract_lets -underBinder -merge -useContext +onlyGivenNames zq
    subst zq
    extract_lets -underBinder -merge -useContext +onlyGivenNames zq
    subst zq
    extract_lets -underBinder -merge -useContext +onlyGivenNames zq
    subst zq
    extract_lets -underBinder -merge -useContext +onlyGivenNames zq
    subst zq
    extract_lets -underBinder -merge -useContext +onlyGivenNames zq
    subst zq
    extract_lets -underBinder -merge -useContext +onlyGivenNames zq
    subst zq
    try dsimp -zeta only
    refine wpS_bind (wpS_mono (wpS_forRange (I := fun y c st2 => c.1 = none ∧ CurH O key it la lb st st2 c.2.2.2.1 c.2.1 c.2.2.1 ((la.length - na) + (lb.length - nb) + y)) (Q := fun c st2 => (∃ r, c.1 = some r ∧ Ended (RK O key) it la lb st st2 r) ∨ (c.1 = none ∧ CurH O key it la lb st st2 c.2.2.2.1 c.2.1 c.2.2.1 (x + 1))) ?s1 ?f1 ⟨rfl, on, ⟨po, rfl, m⟩, ⟨h1, h1'⟩, ⟨h2, h2'⟩, by dsimp only; omega⟩) ?p1)
    case f1 =>
      rintro ⟨r1, na1, nb1, out, ac, bc⟩ st2 ⟨e, cu⟩
      have h3 := cu.low
      dsimp only at h3
      rw [htot] at h3
      exact .inr ⟨e, cu.on, cu.mg, cu.h1, cu.h2, by dsimp only; omega⟩
    case s1 =>
      rintro y ⟨r1, na1, nb1, out, ac, bc⟩ st2 _ hy ⟨e1, on2, ⟨po2, eo2, m2⟩, ⟨g1, g1'⟩, ⟨g2, g2'⟩, lo2⟩
      dsimp only at e1 eo2 m2 g1 g1' g2 g2' lo2
      subst e1 eo2
      have kd2 : kindOf st2 = κ := on2.kd.trans hkd
      extract_lets -underBinder -merge -useContext +onlyGivenNames zq
      subst zq
      extract_lets -underBinder -merge -useContext +onlyGivenNames zq
      subst zq
      extract_lets -underBinder -merge -useContext +onlyGivenNames zq
      subst zq
      extract_lets -underBinder -merge -useContext +onlyGivenNames zq
      subst zq
      extract_lets -underBinder -merge -useContext +onlyGivenNames zq
      subst zq
      extract_lets -underBinder -merge -useContext +onlyGivenNames zq
      subst zq
      extract_lets -underBinder -merge -useContext +onlyGivenNames zq
      subst zq
      extract_lets -underBinder -merge -useContext +onlyGivenNames zq
      subst zq
      extract_lets -underBinder -merge -useContext +onlyGivenNames zq
      subst zq
      try dsimp -zeta only
      refine wpS_bind (w_el (by omega) (wpS_bind (w_el (by omega) (wpS_bind (w_lt hc (gB _ (by omega)) (gA _ (by omega)) kd2 ?_)))))
      try dsimp -zeta only
      refine w_ite (fun hb1 => ?_) (fun hb1 => ?_)
      · extract_lets -underBinder -merge -useContext +onlyGivenNames zq
        subst zq
        try dsimp -zeta only
        refine wpS_bind (w_el (by omega) ?_)
        extract_lets -underBinder -merge -useContext +onlyGivenNames zq
        subst zq
        extract_lets -underBinder -merge -useContext +onlyGivenNames zq
        subst zq
        extract_lets -underBinder -merge -useContext +onlyGivenNames zq
        subst zq
        try dsimp -zeta only
        rw [ar_push]
        have m3 := stA m2 g1' g2' g1 (fun _ => lt_le hb1)
        refine w_ite (fun e => ?_) (fun e => w_ite (fun _ => ?_) (fun _ => ?_))
        · obtain ⟨pr, e1, e2⟩ := DA m3 g2' (by simpa using e)
          exact wpS_pure (.inl ⟨_, rfl, on2, pr, e1, e2⟩)
        · have : ¬ na1 - 1 = 0 := by simpa using e
          exact wpS_pure (.inr ⟨rfl, on2, ⟨_, rfl, m3⟩, ⟨by dsimp only; omega, by dsimp only; omega⟩, ⟨g2, g2'⟩, by dsimp only; omega⟩)
        · have : ¬ na1 - 1 = 0 := by simpa using e
          exact wpS_pure ⟨rfl, on2, ⟨_, rfl, m3⟩, ⟨by dsimp only; omega, by dsimp only; omega⟩, ⟨g2, g2'⟩, by dsimp only; omega⟩
      · extract_lets -underBinder -merge -useContext +onlyGivenNames zq
        subst zq
        try dsimp -zeta only
        refine wpS_bind (w_el (by omega) ?_)
        extract_lets -underBinder -merge -useContext +onlyGivenNames zq
        subst zq
        extract_lets -underBinder -merge -useContext +onlyGivenNames zq
        subst zq
        extract_lets -underBinder -merge -useContext +onlyGivenNames zq
        subst zq
        try dsimp -zeta only
        rw [ar_push]
        have m3 := stB m2 g1' g2' (by omega) (fun _ => nl_le (Bool.not_eq_true _ |>.mp hb1))
        refine w_ite (fun e => ?_) (fun e => w_ite (fun _ => ?_) (fun _ => ?_))
        · obtain ⟨pr, e1, e2⟩ := DL m3 g1' (by simpa using e)
          exact wpS_pure (.inl ⟨_, rfl, on2, pr, e1, e2⟩)
        · have : ¬ nb1 - 1 = 1 := by simpa using e
          exact wpS_pure (.inr ⟨rfl, on2, ⟨_, rfl, m3⟩, ⟨g1, g1'⟩, ⟨by dsimp only; omega, by dsimp only; omega⟩, by dsimp only; omega⟩)
        · have : ¬ nb1 - 1 = 1 := by simpa using e
          exact wpS_pure ⟨rfl, on2, ⟨_, rfl, m3⟩, ⟨g1, g1'⟩, ⟨by dsimp only; omega, by dsimp only; omega⟩, by dsimp only; omega⟩
    case p1 =>
      rintro ⟨r1, na1, nb1, out, ac, bc⟩ st2 (⟨r, e, en⟩ | ⟨e, on2, ⟨po2, eo2, m2⟩, ⟨g1, g1'⟩, ⟨g2, g2'⟩, lo2⟩)
      · obtain rfl : r1 = some r := e
        extract_lets -underBinder -merge -useContext +onlyGivenNames zq
        subst zq
        extract_lets -underBinder -merge -useContext +onlyGivenNames zq
        subst zq
        extract_lets -underBinder -merge -useContext +onlyGivenNames zq
        subst zq
        extract_lets -underBinder -merge -useContext +onlyGivenNames zq
        subst zq
        extract_lets -underBinder -merge -useContext +onlyGivenNames zq
        subst zq
        extract_lets -underBinder -merge -useContext +onlyGivenNames zq
        subst zq
        extract_lets -underBinder -merge -useContext +onlyGivenNames zq
        subst zq
        extract_lets -underBinder -merge -useContext +onlyGivenNames zq
        subst zq
        extract_lets -underBinder -merge -useContext +onlyGivenNames zq
        subst zq
        extract_lets -underBinder -merge -useContext +onlyGivenNames zq
        subst zq
        try dsimp -zeta only
        try dsimp -zeta only
        exact wpS_pure ⟨r, rfl, en⟩
      dsimp only at e eo2 m2 g1 g1' g2 g2' lo2
      subst e eo2
      extract_lets -underBinder -merge -useContext +onlyGivenNames zq
      subst zq
      extract_lets -underBinder -merge -useContext +onlyGivenNames zq
      subst zq
      extract_lets -underBinder -merge -useContext +onlyGivenNames zq
      subst zq
      extract_lets -underBinder -merge -useContext +onlyGivenNames zq
      subst zq
      extract_lets -underBinder -merge -useContext +onlyGivenNames zq
      subst zq
      extract_lets -underBinder -merge -useContext +onlyGivenNames zq
      subst zq
      extract_lets -underBinder -merge -useContext +onlyGivenNames zq
      subst zq
      extract_lets -underBinder -merge -useContext +onlyGivenNames zq
      subst zq
      extract_lets -underBinder -merge -useContext +onlyGivenNames zq
      subst zq
      extract_lets -underBinder -merge -useContext +onlyGivenNames zq
      subst zq
      try dsimp -zeta only
      try dsimp -zeta only
      refine wpS_bind (wpS_lift (wpAny_rule ⟨rfl, ?_⟩))
      extract_lets -underBinder -merge -useContext +onlyGivenNames zq
      subst zq
      try dsimp -zeta only
      refine wpS_bind (wpS_mono (wpS_forRange (I := fun z c st3 => c.1 = none ∧ CurH O key it la lb st st3 c.2.2.2.1 c.2.1 c.2.2.1 (x + 1)) (Q := fun c st3 => (∃ r, c.1 = some r ∧ Ended (RK O key) it la lb st st3 r) ∨ (c.1 = none ∧ CurH O key it la lb st st3 c.2.2.2.1 c.2.1 c.2.2.1 (x + 1))) ?s2 ?f2 ⟨rfl, on2, ⟨po2, rfl, m2⟩, ⟨g1, g1'⟩, ⟨g2, g2'⟩, lo2⟩) ?p2)
      case f2 =>
        rintro c st3 ⟨e, cu⟩
        exact .inr ⟨e, cu⟩
      case p2 =>
        rintro ⟨r3, na3, nb3, out, mg3, ac3, bc3⟩ st3 (⟨r, e, en⟩ | ⟨e, cu⟩)
        · obtain rfl : r3 = some r := e
          extract_lets -underBinder -merge -useContext +onlyGivenNames zq
          subst zq
          extract_lets -underBinder -merge -useContext +onlyGivenNames zq
          subst zq
          extract_lets -underBinder -merge -useContext +onlyGivenNames zq
          subst zq
          extract_lets -underBinder -merge -useContext +onlyGivenNames zq
          subst zq
          extract_lets -underBinder -merge -useContext +onlyGivenNames zq
          subst zq
          extract_lets -underBinder -merge -useContext +onlyGivenNames zq
          subst zq
          extract_lets -underBinder -merge -useContext +onlyGivenNames zq
          subst zq
          extract_lets -underBinder -merge -useContext +onlyGivenNames zq
          subst zq
          extract_lets -underBinder -merge -useContext +onlyGivenNames zq
          subst zq
          try dsimp -zeta only
          try dsimp -zeta only
          exact wpS_pure ⟨r, rfl, en⟩
        · obtain rfl : r3 = none := e
          extract_lets -underBinder -merge -useContext +onlyGivenNames zq
          subst zq
          extract_lets -underBinder -merge -useContext +onlyGivenNames zq
          subst zq
          extract_lets -underBinder -merge -useContext +onlyGivenNames zq
          subst zq
          extract_lets -underBinder -merge -useContext +onlyGivenNames zq
          subst zq
          extract_lets -underBinder -merge -useContext +onlyGivenNames zq
          subst zq
          extract_lets -underBinder -merge -useContext +onlyGivenNames zq
          subst zq
          extract_lets -underBinder -merge -useContext +onlyGivenNames zq
          subst zq
          extract_lets -underBinder -merge -useContext +onlyGivenNames zq
          subst zq
          extract_lets -underBinder -merge -useContext +onlyGivenNames zq
          subst zq
          try dsimp -zeta only
          try dsimp -zeta only
          extract_lets -underBinder -merge -useContext +onlyGivenNames zq
          subst zq
          try dsimp -zeta only
          refine wpS_bind (w_set fun st4 on4 => wpS_pure ⟨rfl, cu.on.trans on4, cu.mg, cu.h1, cu.h2, cu.low⟩)
      case s2 =>
        rintro z ⟨r3, na3, nb3, out, mg3, ac3, bc3⟩ st3 _ hz ⟨e3, on3, ⟨po3, eo3, m3⟩, ⟨k1, k1'⟩, ⟨k2, k2'⟩, lo3⟩
        dsimp only at e3 eo3 m3 k1 k1' k2 k2' lo3
        subst e3 eo3
        extract_lets -underBinder -merge -useContext +onlyGivenNames zq
        subst zq
        extract_lets -underBinder -merge -useContext +onlyGivenNames zq
        subst zq
        extract_lets -underBinder -merge -useContext +onlyGivenNames zq
        subst zq
        extract_lets -underBinder -merge -useContext +onlyGivenNames zq
        subst zq
        extract_lets -underBinder -merge -useContext +onlyGivenNames zq
        subst zq
        extract_lets -underBinder -merge -useContext +onlyGivenNames zq
        subst zq
        extract_lets -underBinder -merge -useContext +onlyGivenNames zq
        subst zq
        extract_lets -underBinder -merge -useContext +onlyGivenNames zq
        subst zq
        extract_lets -underBinder -merge -useContext +onlyGivenNames zq
        subst zq
        extract_lets -underBinder -merge -useContext +onlyGivenNames zq
        subst zq
        extract_lets -underBinder -merge -useContext +onlyGivenNames zq
        subst zq
        try dsimp -zeta only
        extract_lets -underBinder -merge -useContext +onlyGivenNames jp
        clear_value (hjp : jp = _)
        have J : ∀ (u : Unit) (g : Nat), wpS (model prog w) A E s (jp u g) (fun r st' => match r with | .done c' => (∃ r, c'.1 = some r ∧ Ended (RK O key) it la lb st st' r) ∨ (c'.1 = none ∧ CurH O key it la lb st st' c'.2.2.2.1 c'.2.1 c'.2.2.1 (x + 1)) | .yield c' => c'.1 = none ∧ CurH O key it la lb st st' c'.2.2.2.1 c'.2.1 c'.2.2.1 (x + 1)) st3 := fun u g => by
          rw [hjp]
          try dsimp -zeta only
          refine wpS_bind (w_set fun st4 on4 => ?_)
          have on34 := on3.trans on4
          have kd4 : kindOf st4 = κ := on34.kd.trans hkd
          refine wpS_bind (w_el (by omega) ?_)
          refine wpS_bind (gallop_ok hc (left := false) (k := lb.getD (nb3 - 1) 0) (p := la.toArray) (base := 0) (n := na3) (hint := na3 - 1) (gB _ (by omega)) tA (by simp; omega) (by omega) kd4 (fun i => !O.blt (key (lb.getD (nb3 - 1) 0)) (key (la.getD (0 + i) 0))) (fun i hi => by rw [if_neg Bool.false_ne_true, eA]) (fun i j hij hj e => ?_) (fun k hk1 hk2 hk3 => ?_))
          · have e' : O.blt (key (lb.getD (nb3 - 1) 0)) (key (la.getD (0 + j) 0)) = false := by simpa using e
            have := rk_trans (pA (i := 0 + i) (j := 0 + j) (by omega) (by omega)) (nl_le e')
            show (!O.blt _ _) = true
            rw [show O.blt (key (lb.getD (nb3 - 1) 0)) (key (la.getD (0 + i) 0)) = false from this]; rfl
          try dsimp -zeta only
          extract_lets -underBinder -merge -useContext +onlyGivenNames zq
          subst zq
          extract_lets -underBinder -merge -useContext +onlyGivenNames zq
          subst zq
          try dsimp -zeta only
          extract_lets -underBinder -merge -useContext +onlyGivenNames jp2
          clear_value (hjp2 : jp2 = _)
          have J2 : ∀ (u : Unit) (na' : Nat) (out' : Array Keyed) (po' : List Nat), out' = ar it po' → Mh O key la lb po' na' nb3 → 1 ≤ na' → na' ≤ na3 → RK O key (la.getD (na' - 1) 0) (lb.getD (nb3 - 1) 0) → wpS (model prog w) A E s (jp2 u na' out') (fun r st' => match r with | .done c' => (∃ r, c'.1 = some r ∧ Ended (RK O key) it la lb st st' r) ∨ (c'.1 = none ∧ CurH O key it la lb st st' c'.2.2.2.1 c'.2.1 c'.2.2.1 (x + 1)) | .yield c' => c'.1 = none ∧ CurH O key it la lb st st' c'.2.2.2.1 c'.2.1 c'.2.2.1 (x + 1)) st4 := fun u na' out' po' eo' m' l1 l2 l3 => by
            rw [hjp2, eo']
            try dsimp -zeta only
            extract_lets -underBinder -merge -useContext +onlyGivenNames zq
            subst zq
            try dsimp -zeta only
            refine wpS_bind (w_el (by omega) ?_)
            extract_lets -underBinder -merge -useContext +onlyGivenNames zq
            subst zq
            try dsimp -zeta only
            rw [ar_push]
            have m4 := stB m' (by omega) k2' (by omega) (fun _ => l3)
            refine w_ite (fun e => ?_) (fun e => ?_)
            · obtain ⟨pr, e1, e2⟩ := DL m4 (by omega) (by simpa using e)
              exact wpS_pure (.inl ⟨_, rfl, on34, pr, e1, e2⟩)
            have k3 : ¬ nb3 - 1 = 1 := by simpa using e
            refine wpS_bind (w_el (by omega) ?_)
            refine wpS_bind (gallop_ok hc (left := true) (k := la.getD (na' - 1) 0) (p := lb.toArray) (base := 0) (n := nb3 - 1) (hint := nb3 - 1 - 1) (gA _ (by omega)) tB (by simp; omega) (by omega) kd4 (fun i => O.blt (key (lb.getD (0 + i) 0)) (key (la.getD (na' - 1) 0))) (fun i hi => by rw [if_pos rfl, eB]) (fun i j hij hj e => ?_) (fun q hq1 hq2 hq3 => ?_))
            · have := pB (i := 0 + i) (j := 0 + j) (by omega) (by omega)
              exact KeyOrd.klt_of_kle_of_klt this e
            try dsimp -zeta only
            extract_lets -underBinder -merge -useContext +onlyGivenNames zq
            subst zq
            extract_lets -underBinder -merge -useContext +onlyGivenNames zq
            subst zq
            try dsimp -zeta only
            extract_lets -underBinder -merge -useContext +onlyGivenNames jp3
            clear_value (hjp3 : jp3 = _)
            have J3 : ∀ (u : Unit) (nb' : Nat) (out' : Array Keyed) (po' : List Nat), out' = ar it po' → Mh O key la lb po' na' nb' → 2 ≤ nb' → nb' ≤ nb3 → RK O key (lb.getD (nb' - 1) 0) (la.getD (na' - 1) 0) → wpS (model prog w) A E s (jp3 u nb' out') (fun r st' => match r with | .done c' => (∃ r, c'.1 = some r ∧ Ended (RK O key) it la lb st st' r) ∨ (c'.1 = none ∧ CurH O key it la lb st st' c'.2.2.2.1 c'.2.1 c'.2.2.1 (x + 1)) | .yield c' => c'.1 = none ∧ CurH O key it la lb st st' c'.2.2.2.1 c'.2.1 c'.2.2.1 (x + 1)) st4 := fun u nb' out' po' eo' m' l1' l2' l3' => by
              rw [hjp3, eo']
              try dsimp -zeta only
              extract_lets -underBinder -merge -useContext +onlyGivenNames zq
              subst zq
              try dsimp -zeta only
              refine wpS_bind (w_el (by omega) ?_)
              extract_lets -underBinder -merge -useContext +onlyGivenNames zq
              subst zq
              try dsimp -zeta only
              rw [ar_push]
              have m5 := stA m' (by omega) (by omega) l1 (fun _ => l3')
              refine w_ite (fun e => ?_) (fun e => ?_)
              · obtain ⟨pr, e1, e2⟩ := DA m5 (by omega) (by simpa using e)
                exact wpS_pure (.inl ⟨_, rfl, on34, pr, e1, e2⟩)
              have k4 : ¬ na' - 1 = 0 := by simpa using e
              refine w_ite (fun _ => ?_) (fun _ => ?_)
              · exact wpS_pure (.inr ⟨rfl, on34, ⟨_, rfl, m5⟩, ⟨by dsimp only; omega, by dsimp only; omega⟩, ⟨by dsimp only; omega, by dsimp only; omega⟩, by dsimp only; omega⟩)
              · exact wpS_pure ⟨rfl, on34, ⟨_, rfl, m5⟩, ⟨by dsimp only; omega, by dsimp only; omega⟩, ⟨by dsimp only; omega, by dsimp only; omega⟩, by dsimp only; omega⟩
            clear hjp3
            refine w_ite (fun hq => ?_) (fun hq => ?_)
            · have m5 := psB (k := nb3 - 1 - q) m4 (by omega) (by omega) (by omega) (fun j j1 j2 _ => by
                have := hq3 j (by omega) (by omega)
                rw [Nat.zero_add] at this
                exact nl_le this)
              rw [show nb3 - 1 - (nb3 - 1 - q) = q by omega] at m5
              extract_lets -underBinder -merge -useContext +onlyGivenNames zq
              subst zq
              extract_lets -underBinder -merge -useContext +onlyGivenNames zq
              subst zq
              try dsimp -zeta only
              rw [ar_ext, ar_rev, ar_app]
              refine w_ite (fun e => ?_) (fun e => w_ite (fun e' => ?_) (fun e' => ?_))
              · obtain ⟨pr, e1, e2⟩ := DL m5 (by omega) (by simpa using e)
                exact wpS_pure (.inl ⟨_, rfl, on34, pr, e1, e2⟩)
              · obtain ⟨pr, e1, e2⟩ := DB m5 (by omega) (by simpa using e')
                exact wpS_pure (.inl ⟨_, rfl, on34, pr, e1, e2⟩)
              have q1 : ¬ q = 1 := by simpa using e
              have q2 : ¬ q = 0 := by simpa using e'
              exact J3 () _ _ _ rfl m5 (by omega) (by omega) (lt_le (by have := hq2 (q - 1) (by omega); rw [Nat.zero_add] at this; exact this))
            · obtain rfl : q = nb3 - 1 := by omega
              exact J3 () _ _ _ rfl m4 (by omega) (by omega) (lt_le (by have := hq2 (nb3 - 1 - 1) (by omega); rw [Nat.zero_add] at this; exact this))
          clear hjp2
          refine w_ite (fun hq => ?_) (fun hq => ?_)
          · have m5 := psA (k := na3 - k) m3 k1' k2' (by omega) (fun j j1 j2 _ => by
              have := hk3 j (by omega) (by omega)
              rw [Nat.zero_add] at this
              exact lt_le (by simpa using this))
            rw [show na3 - (na3 - k) = k by omega] at m5
            extract_lets -underBinder -merge -useContext +onlyGivenNames zq
            subst zq
            extract_lets -underBinder -merge -useContext +onlyGivenNames zq
            subst zq
            try dsimp -zeta only
            rw [ar_ext, ar_rev, ar_app]
            refine w_ite (fun e => ?_) (fun e => ?_)
            · obtain ⟨pr, e1, e2⟩ := DA m5 k2' (by simpa using e)
              exact wpS_pure (.inl ⟨_, rfl, on34, pr, e1, e2⟩)
            have q1 : ¬ k = 0 := by simpa using e
            exact J2 () _ _ _ rfl m5 (by omega) (by omega) (nl_le (by have := hk2 (k - 1) (by omega); rw [Nat.zero_add] at this; simpa using this))
          · obtain rfl : k = na3 := by omega
            exact J2 () _ _ _ rfl m3 k1 (Nat.le_refl _) (nl_le (by have := hk2 (k - 1) (by omega); rw [Nat.zero_add] at this; simpa using this))
        clear hjp
        refine w_ite (fun _ => ?_) (fun _ => ?_)
        · extract_lets -underBinder -merge -useContext +onlyGivenNames zq
          subst zq
          try dsimp -zeta only
          exact wpS_mono (J () _) fun r st' hr => by cases r <;> exact hr
        · exact wpS_mono (J () _) fun r st' hr => by cases r <;> exact hr
end
end Tim

namespace Tim
open PySem PySem.W PyProof.Rows
theorem made5 (a b : Nat) : True := by
  fun_cases (sortPriv% PySem.Builtin.countRun) a b
  all_goals trivial
theorem made6 (a b c : Nat) : True := by
  fun_cases (sortPriv% PySem.Builtin.binarySort) a b c
  all_goals trivial
section
variable {prog : Program} {w : World} {A : Around} {E : Value → Shared → Prop} {s : Shared} {O : KeyOrd} {key : Nat → O.α} {κ : SortKind} {it : Array Keyed} {N : Nat}
/-- the sort's state: its rows by numbers, as they were but between lo and hi -/
structure Sg (it : Array Keyed) (κ : SortKind) (N : Nat) (pd0 : Array (Nat × Nat × Nat)) (p0 : Array Nat) (lo hi : Nat) (st : SortSt) (p : Array Nat) : Prop where
  arr : arrOf st = p.map (kas_item it)
  kd : kindOf st = κ
  fl : failedOf st = none
  pd : pendingOf st = pd0
  pm : KasM.Pm N p
  out : ∀ i, (i < lo ∨ hi ≤ i) → p.getD i 0 = p0.getD i 0
def UpS (key : Nat → O.α) (p : Array Nat) (lo hi : Nat) : Prop := ∀ i j, lo ≤ i → i ≤ j → j < hi → O.kle (KasM.K key p i) (KasM.K key p j)
def DnS (key : Nat → O.α) (p : Array Nat) (lo hi : Nat) : Prop := ∀ i j, lo ≤ i → i ≤ j → j < hi → O.kle (KasM.K key p j) (KasM.K key p i)
variable {pd0 : Array (Nat × Nat × Nat)} {p0 p : Array Nat} {lo hi : Nat} {st : SortSt}
theorem w_at (hc : Asks prog w A s O key κ it N) (S : Sg it κ N pd0 p0 lo hi st p) {i j : Nat} {Q : Option Bool → SortSt → Prop} (hi' : i < N) (hj : j < N) (h : Q (some (O.blt (KasM.K key p i) (KasM.K key p j))) st) : wpS (model prog w) A E s (ltAt' i j) Q st := by
  have hz := S.pm.size
  rw [ltAt'_eq]
  refine wpS_bind (wpS_get ?_)
  show wpS _ _ _ _ (do let x ← elem' (arrOf st) i; let y ← elem' (arrOf st) j; lt' x y) Q st
  rw [S.arr]
  refine wpS_bind (w_elem (by omega) (wpS_bind (w_elem (by omega) ?_)))
  exact w_lt hc (S.pm.lt (by omega) i) (S.pm.lt (by omega) j) S.kd h
theorem w_rev (S : Sg it κ N pd0 p0 lo hi st p) {i j : Nat} {Q : Unit → SortSt → Prop} (h1 : lo ≤ i) (h2 : j ≤ hi) (hN : hi ≤ N) (h : ∀ st', Sg it κ N pd0 p0 lo hi st' (kas_rev p i j) → Q () st') : wpS (model prog w) A E s (reverseSlice' i j) Q st := by
  have hz := S.pm.size
  rw [reverseSlice'_eq]
  refine wpS_modify (h _ ⟨?_, S.kd, S.fl, S.pd, S.pm.rev _ _, fun k hk => ?_⟩)
  · show mirror (arrOf st) i j ((j - i) / 2) = _
    rw [S.arr]
    exact kas_swaps_map (kas_item it) (fun k => i + k) (fun k => j - 1 - k) _ p
  · rw [KasM.getD_rev (by omega), if_neg (by omega)]; exact S.out k hk
theorem w_mov (S : Sg it κ N pd0 p0 lo hi st p) {k l : Nat} {Q : Unit → SortSt → Prop} (h1 : lo ≤ l) (h2 : l ≤ k) (h3 : k < hi) (hN : hi ≤ N) (h : ∀ st', Sg it κ N pd0 p0 lo hi st' (bubble p k (k - l)) → Q () st') : wpS (model prog w) A E s (moveDown' k l) Q st := by
  have hz := S.pm.size
  rw [moveDown'_eq]
  refine wpS_modify (h _ ⟨?_, S.kd, S.fl, S.pd, S.pm.bub _ _, fun t ht => ?_⟩)
  · show bubble (arrOf st) k (k - l) = _
    rw [S.arr]
    exact kas_swaps_map (kas_item it) (fun i => k - i) (fun i => k - i - 1) _ p
  · rw [KasM.getD_bub (by omega) h2, if_neg (by omega), if_neg (by omega)]; exact S.out t ht
theorem UpS.snoc {a : Nat} (h : UpS key p lo a) (hl : lo < a) (hk : O.kle (KasM.K key p (a - 1)) (KasM.K key p a)) : UpS key p lo (a + 1) := fun i j h1 h2 h3 => by
  by_cases e : j < a
  · exact h i j h1 h2 e
  · obtain rfl : j = a := by omega
    by_cases e2 : i = j
    · rw [e2]; exact KeyOrd.kle_refl _
    · exact KeyOrd.kle_trans (h i (j - 1) h1 (by omega) (by omega)) hk
theorem DnS.snoc {a : Nat} (h : DnS key p lo a) (hl : lo < a) (hk : O.kle (KasM.K key p a) (KasM.K key p (a - 1))) : DnS key p lo (a + 1) := fun i j h1 h2 h3 => by
  by_cases e : j < a
  · exact h i j h1 h2 e
  · obtain rfl : j = a := by omega
    by_cases e2 : i = j
    · rw [e2]; exact KeyOrd.kle_refl _
    · exact KeyOrd.kle_trans hk (h i (j - 1) h1 (by omega) (by omega))
theorem UpS.one : UpS key p lo (lo + 1) := fun i j h1 h2 h3 => by
  rw [show i = j by omega]; exact KeyOrd.kle_refl _
theorem countRun_ok (hc : Asks prog w A s O key κ it N) {nrem : Nat} {Q : Option Nat → SortSt → Prop} (S : Sg it κ N pd0 p0 lo (lo + nrem) st p) (h1 : 1 ≤ nrem) (hN : lo + nrem ≤ N)
    (h : ∀ m st' p', Sg it κ N pd0 p0 lo (lo + nrem) st' p' → 1 ≤ m → m ≤ nrem → UpS key p' lo (lo + m) → Q (some m) st') : wpS (model prog w) A E s (countRun' lo nrem) Q st := by
  unfold countRun'
  rw [(sortPriv% PySem.Builtin.countRun.eq_def)]
  extract_lets -underBinder -merge -useContext +onlyGivenNames zq
  subst zq
  try dsimp -zeta only
  refine wpS_bind (wpS_mono (wpS_forRange (I := fun x c st' => st' = st ∧ c = (none, x) ∧ UpS key p lo (lo + x)) (Q := fun c st' => st' = st ∧ ∃ m, c = (none, m) ∧ 1 ≤ m ∧ m ≤ nrem ∧ UpS key p lo (lo + m) ∧ (m = nrem ∨ O.blt (KasM.K key p (lo + m)) (KasM.K key p (lo + m - 1)) = true)) ?_ ?_ ⟨rfl, rfl, UpS.one⟩) ?_)
  · rintro x c st' hx1 hx2 ⟨rfl, rfl, up⟩
    extract_lets -underBinder -merge -useContext +onlyGivenNames zq
    subst zq
    try dsimp -zeta only
    refine wpS_bind (w_at hc S (by omega) (by omega) ?_)
    try dsimp -zeta only
    refine w_ite (fun e => wpS_pure ⟨rfl, x, rfl, hx1, by omega, up, .inr e⟩) (fun e => ?_)
    extract_lets -underBinder -merge -useContext +onlyGivenNames zq
    subst zq
    try dsimp -zeta only
    refine wpS_pure ⟨rfl, rfl, ?_⟩
    exact up.snoc (by omega) (Bool.not_eq_true _ |>.mp e)
  · rintro c st' ⟨rfl, rfl, up⟩
    rw [show max 1 nrem = nrem by omega] at up ⊢
    exact ⟨rfl, nrem, rfl, h1, Nat.le_refl _, up, .inl rfl⟩
  rintro c st' ⟨rfl, m, rfl, m1, m2, up, ends⟩
  extract_lets -underBinder -merge -useContext +onlyGivenNames zq
  subst zq
  extract_lets -underBinder -merge -useContext +onlyGivenNames zq
  subst zq
  try dsimp -zeta only
  try dsimp -zeta only
  refine w_ite (fun e => wpS_pure (h m st' p S m1 m2 up)) (fun e => ?_)
  have mne : ¬ m = nrem := by simpa using e
  have ends := ends.resolve_left mne
  extract_lets -underBinder -merge -useContext +onlyGivenNames jp
  clear_value (hjp : jp = _)
  have J : ∀ (u : Unit) (st2 : SortSt) (p2 : Array Nat), Sg it κ N pd0 p0 lo (lo + nrem) st2 p2 → DnS key p2 lo (lo + m + 1) → wpS (model prog w) A E s (jp u) Q st2 := fun u st2 p2 S2 dn => by
    rw [hjp]
    try dsimp -zeta only
    refine wpS_bind (wpS_lift (wpAny_rule ⟨rfl, ?_⟩))
    extract_lets -underBinder -merge -useContext +onlyGivenNames zq
    subst zq
    extract_lets -underBinder -merge -useContext +onlyGivenNames zq
    subst zq
    try dsimp -zeta only
    refine wpS_bind (wpS_mono (wpS_forRange (I := fun x c st3 => ∃ p3 q, c = (none, x, q) ∧ Sg it κ N pd0 p0 lo (lo + nrem) st3 p3 ∧ DnS key p3 lo (lo + x) ∧ q + 1 ≤ x ∧ (∀ k, lo + x - (q + 1) ≤ k → k < lo + x → KasM.K key p3 k = KasM.K key p3 (lo + x - 1)))
      (Q := fun c st3 => ∃ p3 x q, c = (none, x, q) ∧ m + 1 ≤ x ∧ x ≤ nrem ∧ Sg it κ N pd0 p0 lo (lo + nrem) st3 p3 ∧ DnS key p3 lo (lo + x) ∧ q + 1 ≤ x ∧ (∀ k, lo + x - (q + 1) ≤ k → k < lo + x → KasM.K key p3 k = KasM.K key p3 (lo + x - 1))) ?_ ?_ ⟨p2, 0, rfl, S2, dn, by omega, fun k a b => by rw [show k = lo + (m + 1) - 1 by omega]⟩) ?_)
    · rintro x c st3 hx1 hx2 ⟨p3, q, rfl, S3, dn3, hq, he⟩
      have hz := S3.pm.size
      extract_lets -underBinder -merge -useContext +onlyGivenNames zq
      subst zq
      extract_lets -underBinder -merge -useContext +onlyGivenNames zq
      subst zq
      extract_lets -underBinder -merge -useContext +onlyGivenNames zq
      subst zq
      try dsimp -zeta only
      refine wpS_bind (w_at hc S3 (by omega) (by omega) ?_)
      try dsimp -zeta only
      extract_lets -underBinder -merge -useContext +onlyGivenNames jp2
      clear_value (hjp2 : jp2 = _)
      have J2 : ∀ (u : Unit) (q' : Nat) (st4 : SortSt) (p4 : Array Nat), Sg it κ N pd0 p0 lo (lo + nrem) st4 p4 → DnS key p4 lo (lo + (x + 1)) → q' + 1 ≤ x + 1 → (∀ k, lo + (x + 1) - (q' + 1) ≤ k → k < lo + (x + 1) → KasM.K key p4 k = KasM.K key p4 (lo + (x + 1) - 1)) → wpS (model prog w) A E s (jp2 u q') (fun r st' => match r with | .done c' => ∃ p3 x q, c' = (none, x, q) ∧ m + 1 ≤ x ∧ x ≤ nrem ∧ Sg it κ N pd0 p0 lo (lo + nrem) st' p3 ∧ DnS key p3 lo (lo + x) ∧ q + 1 ≤ x ∧ (∀ k, lo + x - (q + 1) ≤ k → k < lo + x → KasM.K key p3 k = KasM.K key p3 (lo + x - 1)) | .yield c' => ∃ p3 q, c' = (none, x + 1, q) ∧ Sg it κ N pd0 p0 lo (lo + nrem) st' p3 ∧ DnS key p3 lo (lo + (x + 1)) ∧ q + 1 ≤ x + 1 ∧ (∀ k, lo + (x + 1) - (q + 1) ≤ k → k < lo + (x + 1) → KasM.K key p3 k = KasM.K key p3 (lo + (x + 1) - 1))) st4 := fun u q' st4 p4 S4 d4 q4 e4 => by
        rw [hjp2]
        try dsimp -zeta only
        extract_lets -underBinder -merge -useContext +onlyGivenNames zq
        subst zq
        try dsimp -zeta only
        exact wpS_pure ⟨p4, q', rfl, S4, d4, q4, e4⟩
      refine wpS_mono (Q := fun r st' => match r with | .done c' => ∃ p3 x q, c' = (none, x, q) ∧ m + 1 ≤ x ∧ x ≤ nrem ∧ Sg it κ N pd0 p0 lo (lo + nrem) st' p3 ∧ DnS key p3 lo (lo + x) ∧ q + 1 ≤ x ∧ (∀ k, lo + x - (q + 1) ≤ k → k < lo + x → KasM.K key p3 k = KasM.K key p3 (lo + x - 1)) | .yield c' => ∃ p3 q, c' = (none, x + 1, q) ∧ Sg it κ N pd0 p0 lo (lo + nrem) st' p3 ∧ DnS key p3 lo (lo + (x + 1)) ∧ q + 1 ≤ x + 1 ∧ (∀ k, lo + (x + 1) - (q + 1) ≤ k → k < lo + (x + 1) → KasM.K key p3 k = KasM.K key p3 (lo + (x + 1) - 1))) ?_ (fun r st' hr => by cases r <;> exact hr)
      clear hjp2
      refine w_ite (fun e => ?_) (fun e => ?_)
      · extract_lets -underBinder -merge -useContext +onlyGivenNames jp3
        clear_value (hjp3 : jp3 = _)
        have J3 : ∀ (u : Unit) (st4 : SortSt) (p4 : Array Nat), Sg it κ N pd0 p0 lo (lo + nrem) st4 p4 → DnS key p4 lo (lo + (x + 1)) → wpS (model prog w) A E s (jp3 u) _ st4 := fun u st4 p4 S4 d4 => by
          rw [hjp3]
          try dsimp -zeta only
          extract_lets -underBinder -merge -useContext +onlyGivenNames zq
          subst zq
          try dsimp -zeta only
          exact J2 () 0 st4 p4 S4 d4 (by omega) (fun k a b => by rw [show k = lo + (x + 1) - 1 by omega])
        have d3 : DnS key p3 lo (lo + x + 1) := dn3.snoc (by omega) (KeyOrd.kle_of_klt e)
        refine w_ite (fun hq0 => ?_) (fun hq0 => ?_)
        · refine wpS_bind (w_rev S3 (by omega) (by omega) hN fun st4 S4 => J3 _ st4 _ S4 ?_)
          have kk := KasM.K_rev_eq (key := key) (p := p3) (i := lo + x - (q + 1)) (j := lo + x) (by omega) he
          intro i j a b c
          rw [kk, kk]
          exact d3 i j a b (by omega)
        · exact J3 () st3 p3 S3 d3
      · have e' : O.blt (KasM.K key p3 (lo + x)) (KasM.K key p3 (lo + x - 1)) = false := Bool.not_eq_true _ |>.mp e
        refine wpS_bind (w_at hc S3 (by omega) (by omega) ?_)
        try dsimp -zeta only
        refine w_ite (fun e2 => ?_) (fun e2 => ?_)
        · exact wpS_pure ⟨p3, x, q, rfl, hx1, by omega, S3, dn3, hq, he⟩
        · have e2' : O.blt (KasM.K key p3 (lo + x - 1)) (KasM.K key p3 (lo + x)) = false := Bool.not_eq_true _ |>.mp e2
          have ee : KasM.K key p3 (lo + x) = KasM.K key p3 (lo + x - 1) := KeyOrd.kle_antisymm e2' e'
          extract_lets -underBinder -merge -useContext +onlyGivenNames zq
          subst zq
          try dsimp -zeta only
          refine J2 () (q + 1) st3 p3 S3 (dn3.snoc (by omega) e2') (by omega) (fun k a b => ?_)
          rw [show lo + (x + 1) - 1 = lo + x by omega]
          by_cases hk : k = lo + x
          · rw [hk]
          · rw [he k (by omega) (by omega), ee]
    · rintro c st3 ⟨p3, q, rfl, S3, dn3, hq, he⟩
      rw [show max (m + 1) nrem = nrem by omega] at *
      exact ⟨p3, nrem, q, rfl, by omega, Nat.le_refl _, S3, dn3, hq, he⟩
    rintro c st3 ⟨p3, x, q, rfl, x1, x2, S3, dn3, hq, he⟩
    have hz := S3.pm.size
    extract_lets -underBinder -merge -useContext +onlyGivenNames zq
    subst zq
    extract_lets -underBinder -merge -useContext +onlyGivenNames zq
    subst zq
    extract_lets -underBinder -merge -useContext +onlyGivenNames zq
    subst zq
    extract_lets -underBinder -merge -useContext +onlyGivenNames zq
    subst zq
    try dsimp -zeta only
    try dsimp -zeta only
    extract_lets -underBinder -merge -useContext +onlyGivenNames jp4
    clear_value (hjp4 : jp4 = _)
    have J4 : ∀ (u : Unit) (st4 : SortSt) (p4 : Array Nat), Sg it κ N pd0 p0 lo (lo + nrem) st4 p4 → DnS key p4 lo (lo + x) → wpS (model prog w) A E s (jp4 u) Q st4 := fun u st4 p4 S4 d4 => by
      have hz4 := S4.pm.size
      rw [hjp4]
      try dsimp -zeta only
      refine wpS_bind (w_rev S4 (Nat.le_refl _) (by omega) hN fun st5 S5 => ?_)
      have up5 : UpS key (kas_rev p4 lo (lo + x)) lo (lo + x) := fun i j a b c => by
        rw [KasM.K_rev (by omega), KasM.K_rev (by omega), if_pos (by omega), if_pos (by omega)]
        exact d4 _ _ (by omega) (by omega) (by omega)
      generalize kas_rev p4 lo (lo + x) = p5 at S5 up5
      refine wpS_bind (wpS_mono (wpS_forRange (I := fun y c st' => st' = st5 ∧ c = (none, y) ∧ UpS key p5 lo (lo + y)) (Q := fun c st' => st' = st5 ∧ ∃ m, c = (none, m) ∧ 1 ≤ m ∧ m ≤ nrem ∧ UpS key p5 lo (lo + m)) ?_ ?_ ⟨rfl, rfl, up5⟩) ?_)
      · rintro y c st' hy1 hy2 ⟨rfl, rfl, up⟩
        extract_lets -underBinder -merge -useContext +onlyGivenNames zq
        subst zq
        try dsimp -zeta only
        refine wpS_bind (w_at hc S5 (by omega) (by omega) ?_)
        try dsimp -zeta only
        refine w_ite (fun e => wpS_pure ⟨rfl, y, rfl, by omega, by omega, up⟩) (fun e => ?_)
        extract_lets -underBinder -merge -useContext +onlyGivenNames zq
        subst zq
        try dsimp -zeta only
        refine wpS_pure ⟨rfl, rfl, ?_⟩
        exact up.snoc (by omega) (Bool.not_eq_true _ |>.mp e)
      · rintro c st' ⟨rfl, rfl, up⟩
        rw [show max x nrem = nrem by omega] at up ⊢
        exact ⟨rfl, nrem, rfl, h1, Nat.le_refl _, up⟩
      · rintro c st' ⟨rfl, m', rfl, a1, a2, a3⟩
        extract_lets -underBinder -merge -useContext +onlyGivenNames zq
        subst zq
        extract_lets -underBinder -merge -useContext +onlyGivenNames zq
        subst zq
        try dsimp -zeta only
        try dsimp -zeta only
        exact wpS_pure (h m' st' p5 S5 a1 a2 a3)
    clear hjp4
    refine w_ite (fun hq0 => ?_) (fun hq0 => J4 () st3 p3 S3 dn3)
    refine wpS_bind (w_rev S3 (by omega) (by omega) hN fun st4 S4 => J4 _ st4 _ S4 ?_)
    have kk := KasM.K_rev_eq (key := key) (p := p3) (i := lo + x - (q + 1)) (j := lo + x) (by omega) he
    intro i j a b c
    rw [kk, kk]
    exact dn3 i j a b c
  clear hjp
  have hz := S.pm.size
  have lt1 : O.kle (KasM.K key p (lo + m)) (KasM.K key p (lo + m - 1)) := KeyOrd.kle_of_klt ends
  refine w_ite (fun hm => ?_) (fun hm => ?_)
  · refine wpS_bind (w_at hc S (by omega) (by omega) ?_)
    try dsimp -zeta only
    refine w_ite (fun e2 => wpS_pure (h m st' p S m1 m2 up)) (fun e2 => ?_)
    have e2' : O.kle (KasM.K key p (lo + m - 1)) (KasM.K key p lo) := Bool.not_eq_true _ |>.mp e2
    have all : ∀ k, lo ≤ k → k < lo + m → KasM.K key p k = KasM.K key p (lo + m - 1) := fun k a b =>
      KeyOrd.kle_antisymm (up k (lo + m - 1) a (by omega) (by omega)) (KeyOrd.kle_trans e2' (up lo k (Nat.le_refl _) a b))
    refine wpS_bind (w_rev S (Nat.le_refl _) (by omega) hN fun st4 S4 => J _ st4 _ S4 ?_)
    have kk := KasM.K_rev_eq (key := key) (p := p) (i := lo) (j := lo + m) (by omega) all
    intro i j a b c
    rw [kk, kk]
    by_cases hj : j < lo + m
    · rw [all i a (by omega), all j (by omega) hj]; exact KeyOrd.kle_refl _
    · obtain rfl : j = lo + m := by omega
      by_cases hij : i = lo + m
      · rw [hij]; exact KeyOrd.kle_refl _
      · rw [all i a (by omega)]; exact lt1
  · obtain rfl : m = 1 := by omega
    refine J () st' p S ?_
    intro i j a b c
    by_cases hij : i = j
    · rw [hij]; exact KeyOrd.kle_refl _
    · obtain rfl : i = lo := by omega
      obtain rfl : j = i + 1 := by omega
      exact lt1
theorem binarySort_ok (hc : Asks prog w A s O key κ it N) {n ok : Nat} {Q : Bool → SortSt → Prop} (S : Sg it κ N pd0 p0 lo (lo + n) st p) (h1 : 1 ≤ ok) (h2 : ok ≤ n) (hN : lo + n ≤ N) (up : UpS key p lo (lo + ok))
    (h : ∀ st' p', Sg it κ N pd0 p0 lo (lo + n) st' p' → UpS key p' lo (lo + n) → Q true st') : wpS (model prog w) A E s (binarySort' lo n ok) Q st := by
  unfold binarySort'
  rw [(sortPriv% PySem.Builtin.binarySort.eq_def)]
  refine wpS_bind (wpS_mono (wpS_forRange (I := fun k c st' => c = (none, ()) ∧ ∃ p', Sg it κ N pd0 p0 lo (lo + n) st' p' ∧ UpS key p' lo (lo + k)) (Q := fun c st' => c = (none, ()) ∧ ∃ p', Sg it κ N pd0 p0 lo (lo + n) st' p' ∧ UpS key p' lo (lo + n)) ?_ ?_ ⟨rfl, p, S, by rw [show max ok 1 = ok by omega]; exact up⟩) ?_)
  · rintro k c st' hk1 hk2 ⟨rfl, p', S', up'⟩
    have hz := S'.pm.size
    extract_lets -underBinder -merge -useContext +onlyGivenNames zq
    subst zq
    extract_lets -underBinder -merge -useContext +onlyGivenNames zq
    subst zq
    try dsimp -zeta only
    refine wpS_bind (wpS_mono (wpS_forRange (I := fun x c st'' => st'' = st' ∧ ∃ l r, c = (none, l, r) ∧ l ≤ r ∧ r ≤ k ∧ r - l ≤ k - x ∧ (∀ i, i < l → O.kle (KasM.K key p' (lo + i)) (KasM.K key p' (lo + k))) ∧ (∀ i, r ≤ i → i < k → O.kle (KasM.K key p' (lo + k)) (KasM.K key p' (lo + i))))
      (Q := fun c st'' => st'' = st' ∧ ∃ l r, c = (none, l, r) ∧ l ≤ k ∧ (∀ i, i < l → O.kle (KasM.K key p' (lo + i)) (KasM.K key p' (lo + k))) ∧ (∀ i, l ≤ i → i < k → O.kle (KasM.K key p' (lo + k)) (KasM.K key p' (lo + i)))) ?_ ?_ ⟨rfl, 0, k, rfl, by omega, by omega, by omega, fun i hi => by omega, fun i a b => by omega⟩) ?_)
    · rintro x c st'' _ hx ⟨rfl, l, r, rfl, a1, a2, a3, a4, a5⟩
      extract_lets -underBinder -merge -useContext +onlyGivenNames zq
      subst zq
      extract_lets -underBinder -merge -useContext +onlyGivenNames zq
      subst zq
      extract_lets -underBinder -merge -useContext +onlyGivenNames zq
      subst zq
      try dsimp -zeta only
      refine w_ite (fun e => ?_) (fun e => ?_)
      · obtain rfl : l = r := by omega
        exact wpS_pure ⟨rfl, l, l, rfl, a2, a4, a5⟩
      extract_lets -underBinder -merge -useContext +onlyGivenNames zq
      subst zq
      try dsimp -zeta only
      refine wpS_bind (w_at hc S' (by omega) (by omega) ?_)
      try dsimp -zeta only
      refine w_ite (fun e2 => ?_) (fun e2 => ?_)
      · extract_lets -underBinder -merge -useContext +onlyGivenNames zq
        subst zq
        try dsimp -zeta only
        exact wpS_pure ⟨rfl, l, (l + r) / 2, rfl, by omega, by omega, by omega, a4, fun i b1 b2 => KeyOrd.kle_trans (KeyOrd.kle_of_klt e2) (up' _ _ (by omega) (by omega) (by omega))⟩
      · extract_lets -underBinder -merge -useContext +onlyGivenNames zq
        subst zq
        try dsimp -zeta only
        exact wpS_pure ⟨rfl, (l + r) / 2 + 1, r, rfl, by omega, by omega, by omega, fun i b1 => KeyOrd.kle_trans (up' (lo + i) (lo + (l + r) / 2) (by omega) (by omega) (by omega)) (Bool.not_eq_true _ |>.mp e2), a5⟩
    · rintro c st'' ⟨rfl, l, r, rfl, a1, a2, a3, a4, a5⟩
      obtain rfl : l = r := by omega
      exact ⟨rfl, l, l, rfl, a2, a4, a5⟩
    · rintro c st'' ⟨rfl, l, r, rfl, a2, a4, a5⟩
      extract_lets -underBinder -merge -useContext +onlyGivenNames zq
      subst zq
      extract_lets -underBinder -merge -useContext +onlyGivenNames zq
      subst zq
      extract_lets -underBinder -merge -useContext +onlyGivenNames zq
      subst zq
      try dsimp -zeta only
      try dsimp -zeta only
      refine wpS_bind (w_mov S' (by omega) (by omega) (by omega) hN fun st3 S3 => wpS_pure ⟨rfl, _, S3, ?_⟩)
      intro i j b1 b2 b3
      rw [KasM.K_bub (by omega) (by omega), KasM.K_bub (by omega) (by omega)]
      have f1 : ∀ t, lo ≤ t → t < lo + l → O.kle (KasM.K key p' t) (KasM.K key p' (lo + k)) := fun t q1 q2 => by
        have := a4 (t - lo) (by omega); rwa [show lo + (t - lo) = t by omega] at this
      have f2 : ∀ t, lo + l ≤ t → t < lo + k → O.kle (KasM.K key p' (lo + k)) (KasM.K key p' t) := fun t q1 q2 => by
        have := a5 (t - lo) (by omega) (by omega); rwa [show lo + (t - lo) = t by omega] at this
      repeat' split
      all_goals first
        | (exfalso; omega)
        | exact KeyOrd.kle_refl _
        | exact f1 _ (by omega) (by omega)
        | exact f2 _ (by omega) (by omega)
        | exact up' _ _ (by omega) (by omega) (by omega)
  · rintro c st' ⟨rfl, p', S', up'⟩
    rw [show max (max ok 1) n = n by omega] at up'
    exact ⟨rfl, p', S', up'⟩
  · rintro c st' ⟨rfl, p', S', up'⟩
    extract_lets -underBinder -merge -useContext +onlyGivenNames zq
    subst zq
    try dsimp -zeta only
    try dsimp -zeta only
    exact wpS_pure (h st' p' S' up')
end
end Tim

namespace Tim
open PySem PySem.W PyProof.Rows
theorem made7 (a : Nat) : True := by
  fun_cases (sortPriv% PySem.Builtin.mergeAt) a
  all_goals trivial
theorem foldSet {α : Type} (off : Nat) : ∀ (l : List α) (k : Nat) (p : Array α), off + k + l.length ≤ p.size → (l.zipIdx k).foldl (fun a x => match x with | (q, j) => a.setIfInBounds (off + j) q) p = (p.toList.take (off + k) ++ l ++ p.toList.drop (off + k + l.length)).toArray
  | [], k, p, _ => by simp
  | x :: l, k, p, h => by
    rw [List.length_cons] at h
    rw [List.zipIdx_cons, List.foldl_cons]
    have ih := foldSet off l (k + 1) (p.setIfInBounds (off + k) x) (by rw [Array.size_setIfInBounds]; omega)
    show List.foldl _ (p.setIfInBounds (off + k) x) _ = _
    rw [ih, Array.toList_setIfInBounds]
    have hk : off + k < p.toList.length := by rw [Array.length_toList]; omega
    congr 1
    rw [List.drop_set_of_lt (by omega), show off + (k + 1) = off + k + 1 by omega, List.take_succ, List.getElem?_set_self hk, List.take_set_of_le (Nat.le_refl _), List.length_cons]
    simp
    congr 1
    omega
theorem pm_ar {it : Array Keyed} (p : Array Nat) : p.map (kas_item it) = ar it p.toList := by simp [ar]
theorem getD_list (p : Array Nat) (i : Nat) : p.getD i 0 = p.toList.getD i 0 := by simp
section
variable {O : KeyOrd} {key : Nat → O.α}
theorem up_pw {p : Array Nat} {lo hi : Nat} (h : UpS key p lo hi) (hN : hi ≤ p.size) : ((p.toList.drop lo).take (hi - lo)).Pairwise (RK O key) := by
  rw [List.pairwise_iff_getElem]
  intro i j hi' hj' hij
  have hl : j < hi - lo ∧ lo + j < p.toList.length := by
    rw [List.length_take, List.length_drop] at hj'; omega
  rw [List.getElem_take, List.getElem_take, List.getElem_drop, List.getElem_drop]
  have := h (lo + i) (lo + j) (by omega) (by omega) (by omega)
  unfold KasM.K at this
  rw [getD_list, getD_list, List.getD_eq_getElem?_getD, List.getElem?_eq_getElem (by omega), List.getD_eq_getElem?_getD, List.getElem?_eq_getElem (by omega)] at this
  exact this
theorem pw_up {p : Array Nat} {lo hi : Nat} (h : ((p.toList.drop lo).take (hi - lo)).Pairwise (RK O key)) (hN : hi ≤ p.size) : UpS key p lo hi := by
  intro i j h1 h2 h3
  by_cases e : i = j
  · rw [e]; exact KeyOrd.kle_refl _
  have hl : p.toList.length = p.size := Array.length_toList
  have := List.pairwise_iff_getElem.mp h (i - lo) (j - lo) (by rw [List.length_take, List.length_drop]; omega) (by rw [List.length_take, List.length_drop]; omega) (by omega)
  rw [List.getElem_take, List.getElem_take, List.getElem_drop, List.getElem_drop] at this
  unfold KasM.K
  rw [getD_list, getD_list, List.getD_eq_getElem?_getD, List.getElem?_eq_getElem (by omega), List.getD_eq_getElem?_getD, List.getElem?_eq_getElem (by omega)]
  have q1 : lo + (i - lo) = i := by omega
  have q2 : lo + (j - lo) = j := by omega
  simp only [q1, q2] at this
  exact this
end
/-- runs that lie side by side -/
def Chain : Nat → List (Nat × Nat × Nat) → Nat → Prop
  | a, [], b => a = b
  | a, e :: r, b => e.1 = a ∧ 1 ≤ e.2.1 ∧ Chain (a + e.2.1) r b
theorem chain_le : ∀ {l : List (Nat × Nat × Nat)} {a b : Nat}, Chain a l b → a + l.length ≤ b
  | [], a, b, h => by have : a = b := h; simp; omega
  | e :: r, a, b, ⟨_, h2, h3⟩ => by
    have := chain_le h3
    rw [List.length_cons]; omega
theorem chain_app : ∀ {l m : List (Nat × Nat × Nat)} {a b : Nat}, Chain a (l ++ m) b ↔ ∃ c, Chain a l c ∧ Chain c m b
  | [], m, a, b => ⟨fun h => ⟨a, rfl, h⟩, fun ⟨c, h1, h2⟩ => by have : a = c := h1; rw [this]; exact h2⟩
  | e :: l, m, a, b => by
    constructor
    · rintro ⟨h1, h2, h3⟩
      obtain ⟨c, q1, q2⟩ := chain_app.mp h3
      exact ⟨c, ⟨h1, h2, q1⟩, q2⟩
    · rintro ⟨c, ⟨h1, h2, q1⟩, q2⟩
      exact ⟨h1, h2, chain_app.mpr ⟨c, q1, q2⟩⟩
theorem chain_in : ∀ {l : List (Nat × Nat × Nat)} {a b : Nat}, Chain a l b → ∀ e ∈ l, a ≤ e.1 ∧ e.1 + e.2.1 ≤ b
  | [], _, _, _, e, he => by simp at he
  | x :: r, a, b, ⟨h1, h2, h3⟩, e, he => by
    have := chain_le h3
    rcases List.mem_cons.mp he with rfl | he
    · exact ⟨by omega, by omega⟩
    · have := chain_in h3 e he
      exact ⟨by omega, this.2⟩
section
variable {prog : Program} {w : World} {A : Around} {E : Value → Shared → Prop} {s : Shared} {O : KeyOrd} {key : Nat → O.α} {κ : SortKind} {it : Array Keyed} {N : Nat}
theorem w_put {σ : Type} {M : Model} {x st : σ} {Q : PUnit → σ → Prop} (h : Q ⟨⟩ x) : wpS M A E s (set x : StateT σ Sem PUnit) Q st := by
  unfold wpS; rw [StateT.run_set]; exact wpAny_pure ⟨rfl, h⟩
/-- the runs as far as lo -/
structure Whole (it : Array Keyed) (κ : SortKind) (N : Nat) (key : Nat → O.α) (st : SortSt) (p : Array Nat) (l : List (Nat × Nat × Nat)) (lo : Nat) : Prop where
  arr : arrOf st = p.map (kas_item it)
  kd : kindOf st = κ
  fl : failedOf st = none
  pd : pendingOf st = l.toArray
  pm : KasM.Pm N p
  ch : Chain 0 l lo
  le : lo ≤ N
  up : ∀ e ∈ l, UpS key p e.1 (e.1 + e.2.1)
theorem mergeAt_ok (hc : Asks prog w A s O key κ it N) {st : SortSt} {p : Array Nat} {l1 l2 : List (Nat × Nat × Nat)} {ea eb : Nat × Nat × Nat} {lo : Nat} {Q : Bool → SortSt → Prop} (W : Whole it κ N key st p (l1 ++ ea :: eb :: l2) lo)
    (h : ∀ st' p' e', Whole it κ N key st' p' (l1 ++ e' :: l2) lo → (∀ i, lo ≤ i → p'.getD i 0 = p.getD i 0) → Q true st') : wpS (model prog w) A E s (mergeAt' l1.length) Q st := by
  obtain ⟨sa, na, pw⟩ := ea
  obtain ⟨sb, nb, pw2⟩ := eb
  have hz := W.pm.size
  have hzl : p.toList.length = N := by rw [Array.length_toList]; exact hz
  obtain ⟨c, ch1, q1, q2, q3, q4, ch2⟩ := chain_app.mp W.ch
  dsimp only at q1 q2 q3 q4 ch2
  subst q1
  have eb' : sb = sa + na := q3
  have chl := chain_le ch2
  have hN := W.le
  have hend : sb + nb ≤ N := by omega
  have upA : UpS key p sa sb := by
    have := W.up (sa, na, pw) (by simp)
    rw [eb']; exact this
  have upB : UpS key p sb (sb + nb) := W.up (sb, nb, pw2) (by simp)
  have hlt : ∀ i, p.getD i 0 < N := fun i => W.pm.lt (by omega) i
  -- what the end must show
  have fin : ∀ (st' : SortSt) (p' : Array Nat), arrOf st' = p'.map (kas_item it) → kindOf st' = κ → failedOf st' = none → pendingOf st' = ((l1 ++ (sa, na, pw) :: (sb, nb, pw2) :: l2).toArray.setIfInBounds l1.length (sa, na + nb, pw)).eraseIdxIfInBounds (l1.length + 1) → KasM.Pm N p' → (∀ i, (i < sa ∨ sb + nb ≤ i) → p'.getD i 0 = p.getD i 0) → UpS key p' sa (sb + nb) → Q true st' := fun st' p' f1 f2 f3 f4 f5 f6 f7 => by
    have keep : ∀ {x y : Nat}, (y ≤ sa ∨ sb + nb ≤ x) → UpS key p x y → UpS key p' x y := fun {x y} hxy hu i j a b d => by
      unfold KasM.K
      rw [f6 i (by omega), f6 j (by omega)]
      exact hu i j a b d
    refine h st' p' (sa, na + nb, pw) ⟨f1, f2, f3, ?_, f5, chain_app.mpr ⟨sa, ch1, rfl, by show 1 ≤ na + nb; omega, ?_⟩, W.le, fun e he => ?_⟩ (fun i hi => f6 i (by omega))
    · rw [f4]
      apply Array.toList_inj.mp
      rw [Array.toList_eraseIdxIfInBounds, Array.toList_setIfInBounds]
      rw [List.set_append_right _ _ (Nat.le_refl _), Nat.sub_self, List.set_cons_zero, List.eraseIdx_append_of_length_le (by omega), show l1.length + 1 - l1.length = 1 by omega]
      rfl
    · show Chain (sa + (na + nb)) l2 lo
      rw [show sa + (na + nb) = sa + na + nb by omega]; exact ch2
    · rcases List.mem_append.mp he with he | he
      · have := chain_in ch1 e he
        exact keep (by omega) (W.up e (List.mem_append_left _ he))
      · rcases List.mem_cons.mp he with rfl | he
        · show UpS key p' sa (sa + (na + nb))
          rw [show sa + (na + nb) = sb + nb by omega]; exact f7
        · have := chain_in ch2 e he
          exact keep (by omega) (W.up e (by simp [he]))
  have eP : (sortPriv% PySem.Builtin.SortState.pending) st = (l1 ++ (sa, na, pw) :: (sb, nb, pw2) :: l2).toArray := W.pd
  have eArr : (sortPriv% PySem.Builtin.SortState.a) st = p.map (kas_item it) := W.arr
  unfold mergeAt'
  rw [(sortPriv% PySem.Builtin.mergeAt.eq_def)]
  refine wpS_bind (wpS_get ?_)
  rw [eP, eArr]
  have g1 : (l1 ++ (sa, na, pw) :: (sb, nb, pw2) :: l2).toArray[l1.length]? = some (sa, na, pw) := by simp
  have g2 : (l1 ++ (sa, na, pw) :: (sb, nb, pw2) :: l2).toArray[l1.length + 1]? = some (sb, nb, pw2) := by
    rw [List.getElem?_toArray, List.getElem?_append_right (by omega)]; simp
  rw [g1, g2]
  try dsimp -zeta only
  refine wpS_bind (w_put ?_)
  refine wpS_bind (w_elem (by omega) ?_)
  refine wpS_bind (gallop_ok hc (left := false) (k := p.getD sb 0) (p := p) (base := sa) (n := na) (hint := 0) (hlt _) (fun i _ => hlt i) (by omega) (by omega) W.kd (fun i => !O.blt (KasM.K key p sb) (KasM.K key p (sa + i))) (fun i hi => by rw [if_neg Bool.false_ne_true]; rfl) (fun i j hij hj e => ?_) (fun k hk1 hk2 hk3 => ?_))
  · have e' : O.kle (KasM.K key p (sa + j)) (KasM.K key p sb) := show O.blt _ _ = false by simpa using e
    have := KeyOrd.kle_trans (upA (sa + i) (sa + j) (by omega) (by omega) (by omega)) e'
    show (!O.blt _ _) = true
    rw [show O.blt (KasM.K key p sb) (KasM.K key p (sa + i)) = false from this]; rfl
  have aLow : ∀ i, i < k → O.kle (KasM.K key p (sa + i)) (KasM.K key p sb) := fun i hi => show O.blt _ _ = false by simpa using hk2 i hi
  have aHigh : ∀ i, k ≤ i → i < na → O.kle (KasM.K key p sb) (KasM.K key p (sa + i)) := fun i h1 h2 => KeyOrd.kle_of_klt (show O.blt _ _ = true by simpa using hk3 i h1 h2)
  try dsimp -zeta only
  refine w_ite (fun e => ?_) (fun e => ?_)
  · have hk : na - k = 0 := by simpa using e
    refine wpS_pure (fin _ p rfl W.kd W.fl rfl W.pm (fun i _ => rfl) fun i j a b d => ?_)
    by_cases hj : j < sb
    · exact upA i j a b hj
    · by_cases hi : i < sb
      · have := aLow (i - sa) (by omega)
        rw [show sa + (i - sa) = i by omega] at this
        exact KeyOrd.kle_trans this (upB sb j (Nat.le_refl _) (by omega) d)
      · exact upB i j (by omega) b d
  have hk : ¬ na - k = 0 := by simpa using e
  refine wpS_bind (w_elem (by omega) ?_)
  have elast : sa + k + (na - k) - 1 = sb - 1 := by omega
  rw [elast]
  refine wpS_bind (gallop_ok hc (left := true) (k := p.getD (sb - 1) 0) (p := p) (base := sb) (n := nb) (hint := nb - 1) (hlt _) (fun i _ => hlt i) (by omega) (by omega) W.kd (fun i => O.blt (KasM.K key p (sb + i)) (KasM.K key p (sb - 1))) (fun i hi => by rw [if_pos rfl]; rfl) (fun i j hij hj e => KeyOrd.klt_of_kle_of_klt (upB (sb + i) (sb + j) (by omega) (by omega) (by omega)) e) (fun m hm1 hm2 hm3 => ?_))
  have bLow : ∀ i, i < m → O.kle (KasM.K key p (sb + i)) (KasM.K key p (sb - 1)) := fun i hi => KeyOrd.kle_of_klt (hm2 i hi)
  have bHigh : ∀ i, m ≤ i → i < nb → O.kle (KasM.K key p (sb - 1)) (KasM.K key p (sb + i)) := fun i h1 h2 => hm3 i h1 h2
  try dsimp -zeta only
  refine w_ite (fun e => ?_) (fun e => ?_)
  · have hm : m = 0 := by simpa using e
    refine wpS_pure (fin _ p rfl W.kd W.fl rfl W.pm (fun i _ => rfl) fun i j a b d => ?_)
    by_cases hj : j < sb
    · exact upA i j a b hj
    · by_cases hi : i < sb
      · have := bHigh (j - sb) (by omega) (by omega)
        rw [show sb + (j - sb) = j by omega] at this
        exact KeyOrd.kle_trans (upA i (sb - 1) a (by omega) (by omega)) this
      · exact upB i j (by omega) b d
  have hm : ¬ m = 0 := by simpa using e
  rw [pm_ar, ar_ext, ar_ext, show sb + m - sb = m by omega, show sb - (sa + k) = na - k by omega]
  extract_lets -underBinder -merge -useContext +onlyGivenNames zq
  subst zq
  extract_lets -underBinder -merge -useContext +onlyGivenNames zq
  subst zq
  try dsimp -zeta only
  obtain ⟨P, eP'⟩ : ∃ P, P = p.toList := ⟨_, rfl⟩
  have gP : ∀ i, p.getD i 0 = P.getD i 0 := fun i => by rw [eP']; exact getD_list p i
  rw [← eP']
  have hzP : P.length = N := by rw [eP']; exact hzl
  obtain ⟨la, ela⟩ : ∃ la, la = (P.drop (sa + k)).take (na - k) := ⟨_, rfl⟩
  obtain ⟨lb, elb⟩ : ∃ lb, lb = (P.drop sb).take m := ⟨_, rfl⟩
  rw [← ela, ← elb]
  have lla : la.length = na - k := by rw [ela, List.length_take, List.length_drop]; omega
  have llb : lb.length = m := by rw [elb, List.length_take, List.length_drop]; omega
  have sA : la.Pairwise (RK O key) := by
    have := up_pw (lo := sa + k) (hi := sb) (fun i j a b d => upA i j (by omega) b d) (by omega)
    rw [← eP', show sb - (sa + k) = na - k by omega, ← ela] at this; exact this
  have sB : lb.Pairwise (RK O key) := by
    have := up_pw (lo := sb) (hi := sb + m) (fun i j a b d => upB i j (by omega) b (by omega)) (by omega)
    rw [← eP', show sb + m - sb = m by omega, ← elb] at this; exact this
  have gA : ∀ i, i < na - k → la.getD i 0 = p.getD (sa + k + i) 0 := fun i hi => by
    rw [gP, ela, List.getD_eq_getElem?_getD, List.getElem?_take_of_lt hi, List.getElem?_drop, List.getD_eq_getElem?_getD]
  have gB : ∀ i, i < m → lb.getD i 0 = p.getD (sb + i) 0 := fun i hi => by
    rw [gP, elb, List.getD_eq_getElem?_getD, List.getElem?_take_of_lt hi, List.getElem?_drop, List.getD_eq_getElem?_getD]
  have inA : ∀ x ∈ la, ∃ i, i < na - k ∧ x = p.getD (sa + k + i) 0 := fun x hx => by
    rw [ela] at hx
    obtain ⟨j, j1, j2, _, rfl⟩ := mem_segN hx
    exact ⟨j - (sa + k), by omega, by rw [gP]; congr 1; omega⟩
  have inB : ∀ x ∈ lb, ∃ i, i < m ∧ x = p.getD (sb + i) 0 := fun x hx => by
    rw [elb] at hx
    obtain ⟨j, j1, j2, _, rfl⟩ := mem_segN hx
    exact ⟨j - sb, by omega, by rw [gP]; congr 1; omega⟩
  have nA : la ≠ [] := fun z => by rw [z] at lla; simp at lla; omega
  have nB : lb ≠ [] := fun z => by rw [z] at llb; simp at llb; omega
  extract_lets -underBinder -merge -useContext +onlyGivenNames jp
  clear_value (hjp : jp = _)
  have J : ∀ (pr : List Nat) (st' : SortSt), arrOf st' = p.map (kas_item it) → kindOf st' = κ → failedOf st' = none → pendingOf st' = ((l1 ++ (sa, na, pw) :: (sb, nb, pw2) :: l2).toArray.setIfInBounds l1.length (sa, na + nb, pw)).eraseIdxIfInBounds (l1.length + 1) → Res (RK O key) la lb pr → wpS (model prog w) A E s (jp (ar it pr)) Q st' := fun pr st' f1 f2 f3 f4 re => by
    have lpr : pr.length = (na - k) + m := by rw [re.1.length_eq, List.length_append, lla, llb]
    obtain ⟨p', ep'⟩ : ∃ p' : Array Nat, p' = (P.take (sa + k) ++ pr ++ P.drop (sb + m)).toArray := ⟨_, rfl⟩
    have ltk : (P.take (sa + k)).length = sa + k := by rw [List.length_take]; omega
    have et : p'.toList = P.take (sa + k) ++ pr ++ P.drop (sb + m) := by rw [ep']
    have sz : p'.size = N := by rw [← Array.length_toList, et, List.length_append, List.length_append, ltk, lpr, List.length_drop]; omega
    have spl : P = P.take (sa + k) ++ (la ++ lb) ++ P.drop (sb + m) := by
      have a1 : P.drop (sa + k) = la ++ P.drop sb := by
        rw [ela]
        have := List.take_append_drop (na - k) (P.drop (sa + k))
        rw [List.drop_drop, show sa + k + (na - k) = sb by omega] at this
        exact this.symm
      have a2 : P.drop sb = lb ++ P.drop (sb + m) := by
        rw [elb]
        have := List.take_append_drop m (P.drop sb)
        rw [List.drop_drop] at this
        exact this.symm
      have := List.take_append_drop (sa + k) P
      rw [a1, a2] at this
      rw [List.append_assoc, List.append_assoc]; exact this.symm
    rw [hjp]
    try dsimp -zeta only
    refine wpS_bind (wpS_modify ?_)
    refine wpS_bind (wpS_get ?_)
    have e9 : ∀ b : Bool, b = true → Q b (SortSt.mk' (kindOf st') (p'.map (kas_item it)) (pendingOf st') (gallopOf st') (failedOf st')) := fun b hb => by
      rw [hb]
      refine fin _ p' rfl f2 f3 f4 ?_ (fun i hi => ?_) (pw_up ?_ (by omega))
      · refine Array.perm_iff_toList_perm.mpr (List.Perm.trans ?_ (Array.perm_iff_toList_perm.mp W.pm))
        rw [et, ← eP']
        have := (re.1.append_left (P.take (sa + k))).append_right (P.drop (sb + m))
        refine this.trans ?_
        rw [← spl]
      · rw [getD_list, et, gP, List.getD_eq_getElem?_getD, List.getD_eq_getElem?_getD]
        rcases hi with hi | hi
        · rw [List.append_assoc, List.getElem?_append_left (by omega), List.getElem?_take_of_lt (by omega)]
        · rw [List.getElem?_append_right (by rw [List.length_append, ltk, lpr]; omega), List.length_append, ltk, lpr, List.getElem?_drop]
          congr 1
          congr 1
          omega
      · have a0 : P.take (sa + k) = P.take sa ++ (P.drop sa).take k := by rw [List.take_add]
        have b0 : P.drop (sb + m) = (P.drop (sb + m)).take (nb - m) ++ P.drop (sb + nb) := by
          have := List.take_append_drop (nb - m) (P.drop (sb + m))
          rw [List.drop_drop, show sb + m + (nb - m) = sb + nb by omega] at this
          exact this.symm
        have ls : (P.take sa).length = sa := by rw [List.length_take]; omega
        have lA0 : ((P.drop sa).take k).length = k := by rw [List.length_take, List.length_drop]; omega
        have lB0 : ((P.drop (sb + m)).take (nb - m)).length = nb - m := by rw [List.length_take, List.length_drop]; omega
        have mid : (p'.toList.drop sa).take (sb + nb - sa) = (P.drop sa).take k ++ pr ++ (P.drop (sb + m)).take (nb - m) := by
          rw [et, a0, b0]
          have e1 : P.take sa ++ (P.drop sa).take k ++ pr ++ ((P.drop (sb + m)).take (nb - m) ++ P.drop (sb + nb)) = P.take sa ++ (((P.drop sa).take k ++ pr ++ (P.drop (sb + m)).take (nb - m)) ++ P.drop (sb + nb)) := by simp only [List.append_assoc]
          rw [e1, List.drop_append_of_le_length (by omega), List.drop_of_length_le (by omega), List.nil_append, List.take_append_of_le_length (by rw [List.length_append, List.length_append, lA0, lB0, lpr]; omega), List.take_of_length_le (by rw [List.length_append, List.length_append, lA0, lB0, lpr]; omega), ← b0]
        rw [mid]
        have xA : ∀ x ∈ (P.drop sa).take k, ∃ i, i < k ∧ x = p.getD (sa + i) 0 := fun x hx => by
          obtain ⟨j, j1, j2, _, rfl⟩ := mem_segN hx
          exact ⟨j - sa, by omega, by rw [gP]; congr 1; omega⟩
        have xB : ∀ x ∈ (P.drop (sb + m)).take (nb - m), ∃ i, m ≤ i ∧ i < nb ∧ x = p.getD (sb + i) 0 := fun x hx => by
          obtain ⟨j, j1, j2, _, rfl⟩ := mem_segN hx
          exact ⟨j - sb, by omega, by omega, by rw [gP]; congr 1; omega⟩
        have s1 : ((P.drop sa).take k).Pairwise (RK O key) := by
          have := up_pw (lo := sa) (hi := sa + k) (fun i j a b d => upA i j a b (by omega)) (by omega)
          rw [← eP', show sa + k - sa = k by omega] at this; exact this
        have s3 : ((P.drop (sb + m)).take (nb - m)).Pairwise (RK O key) := by
          have := up_pw (lo := sb + m) (hi := sb + nb) (fun i j a b d => upB i j (by omega) b d) (by omega)
          rw [← eP', show sb + nb - (sb + m) = nb - m by omega] at this; exact this
        refine List.pairwise_append.mpr ⟨List.pairwise_append.mpr ⟨s1, re.2, fun x hx y hy => ?_⟩, s3, fun x hx y hy => ?_⟩
        · obtain ⟨i, i1, rfl⟩ := xA x hx
          rcases List.mem_append.mp (re.1.mem_iff.mp hy) with hy | hy
          · obtain ⟨j, j1, rfl⟩ := inA y hy
            exact upA (sa + i) (sa + k + j) (by omega) (by omega) (by omega)
          · obtain ⟨j, j1, rfl⟩ := inB y hy
            exact KeyOrd.kle_trans (aLow i i1) (upB sb (sb + j) (Nat.le_refl _) (by omega) (by omega))
        · obtain ⟨j, j1, j2, rfl⟩ := xB y hy
          rcases List.mem_append.mp hx with hx | hx
          · obtain ⟨i, i1, rfl⟩ := xA x hx
            exact KeyOrd.kle_trans (aLow i i1) (upB sb (sb + j) (Nat.le_refl _) (by omega) (by omega))
          · rcases List.mem_append.mp (re.1.mem_iff.mp hx) with hx | hx
            · obtain ⟨i, i1, rfl⟩ := inA x hx
              exact KeyOrd.kle_trans (upA (sa + k + i) (sb - 1) (by omega) (by omega) (by omega)) (bHigh j j1 j2)
            · obtain ⟨i, i1, rfl⟩ := inB x hx
              exact upB (sb + i) (sb + j) (by omega) (by omega) (by omega)
    have ear : (List.foldl (fun a x => match x with | (q, j) => a.setIfInBounds (sa + k + j) q) (arrOf st') (ar it pr).toList.zipIdx) = p'.map (kas_item it) := by
      rw [f1]
      have hs := foldSet (sa + k) (ar it pr).toList 0 (p.map (kas_item it)) (by rw [Array.length_toList, ar_size, lpr, Array.size_map]; omega)
      rw [Nat.add_zero] at hs
      refine hs.trans ?_
      rw [ep', Array.length_toList, ar_size, lpr, show sa + k + (na - k + m) = sb + m by omega, eP']
      apply Array.toList_inj.mp
      simp [ar]
    refine wpS_pure ?_
    have := e9 (failedOf st').isNone (by rw [f3]; rfl)
    rw [← ear] at this
    exact this
  clear hjp
  have W2 : ∀ {st1 st2 : SortSt}, Only st1 st2 → arrOf st1 = p.map (kas_item it) → kindOf st1 = κ → failedOf st1 = none → arrOf st2 = p.map (kas_item it) ∧ kindOf st2 = κ ∧ failedOf st2 = none ∧ pendingOf st2 = pendingOf st1 := fun o a b c => ⟨o.arr.trans a, o.kd.trans b, o.fl.trans c, o.pd⟩
  have hA : ∀ x ∈ la, x < N := fun x hx => by obtain ⟨i, _, rfl⟩ := inA x hx; exact hlt _
  have hB : ∀ x ∈ lb, x < N := fun x hx => by obtain ⟨i, _, rfl⟩ := inB x hx; exact hlt _
  have b0a : ∀ x ∈ la, RK O key (lb.getD 0 0) x := fun x hx => by
    obtain ⟨i, i1, rfl⟩ := inA x hx
    rw [gB 0 (by omega), Nat.add_zero]
    have := aHigh (k + i) (by omega) (by omega)
    rw [show sa + (k + i) = sa + k + i by omega] at this
    exact this
  have al : ∀ x ∈ lb, RK O key x (la.getD (la.length - 1) 0) := fun x hx => by
    obtain ⟨i, i1, rfl⟩ := inB x hx
    rw [lla, gA _ (by omega), show sa + k + (na - k - 1) = sb - 1 by omega]
    exact bLow i i1
  refine w_ite (fun hle => ?_) (fun hle => ?_)
  · refine wpS_bind (mergeLo_ok hc hA hB sA sB nA nB (b0a _ (by rw [List.getD_eq_getElem?_getD, List.getElem?_eq_getElem (by omega)]; exact List.getElem_mem _)) al W.kd fun pr st' on re => ?_)
    obtain ⟨a1, a2, a3, a4⟩ := W2 on (by show ar it P = _; rw [eP', ← pm_ar]) W.kd W.fl
    exact J pr st' a1 a2 a3 a4 re
  · refine wpS_bind (mergeHi_ok hc hA hB sA sB nA nB b0a (al _ (by rw [List.getD_eq_getElem?_getD, List.getElem?_eq_getElem (by omega)]; exact List.getElem_mem _)) W.kd fun pr st' on re => ?_)
    obtain ⟨a1, a2, a3, a4⟩ := W2 on (by show ar it P = _; rw [eP', ← pm_ar]) W.kd W.fl
    exact J pr st' a1 a2 a3 a4 re
end
end Tim

namespace Tim
open PySem PySem.W PyProof.Rows
theorem made8 : True := by
  fun_cases (sortPriv% PySem.Builtin.sortRuns) 
  all_goals trivial
theorem split_at {α : Type} {l : List α} {j : Nat} (h : j + 1 < l.length) : ∃ l1 a b l2, l = l1 ++ a :: b :: l2 ∧ l1.length = j := by
  refine ⟨l.take j, l[j], l[j + 1], l.drop (j + 2), ?_, by rw [List.length_take]; omega⟩
  have h1 : l.drop j = l[j] :: l.drop (j + 1) := List.drop_eq_getElem_cons (by omega)
  have h2 : l.drop (j + 1) = l[j + 1] :: l.drop (j + 2) := List.drop_eq_getElem_cons h
  rw [← h2, ← h1, List.take_append_drop]
theorem mod_last {α : Type} {f : α → α} {e : α} : ∀ {l : List α}, (l ++ [e]).modify l.length f = l ++ [f e]
  | [] => rfl
  | a :: l => by
    have := mod_last (f := f) (e := e) (l := l)
    simpa using this
section
variable {prog : Program} {w : World} {A : Around} {E : Value → Shared → Prop} {s : Shared} {O : KeyOrd} {key : Nat → O.α} {κ : SortKind} {it : Array Keyed} {N : Nat}
theorem Whole.sg {st : SortSt} {p : Array Nat} {l : List (Nat × Nat × Nat)} {lo n : Nat} (W : Whole it κ N key st p l lo) : Sg it κ N l.toArray p lo (lo + n) st p := ⟨W.arr, W.kd, W.fl, W.pd, W.pm, fun _ _ => rfl⟩
theorem Whole.of {st st' : SortSt} {p p' : Array Nat} {l : List (Nat × Nat × Nat)} {lo n : Nat} (W : Whole it κ N key st p l lo) (S : Sg it κ N l.toArray p lo (lo + n) st' p') : Whole it κ N key st' p' l lo :=
  ⟨S.arr, S.kd, S.fl, S.pd, S.pm, W.ch, W.le, fun e he i j a b c => by
    have := chain_in W.ch e he
    unfold KasM.K
    rw [S.out i (by omega), S.out j (by omega)]
    exact W.up e he i j a b c⟩
theorem sortRuns_ok (hc : Asks prog w A s O key κ it N) {st : SortSt} {p : Array Nat} {Q : Unit → SortSt → Prop} (W : Whole it κ N key st p [] 0) (hN : 1 ≤ N)
    (h : ∀ st' p', arrOf st' = p'.map (kas_item it) → failedOf st' = none → KasM.Pm N p' → UpS key p' 0 N → Q () st') : wpS (model prog w) A E s sortRuns' Q st := by
  unfold sortRuns'
  rw [(sortPriv% PySem.Builtin.sortRuns.eq_def)]
  refine wpS_bind (wpS_get ?_)
  extract_lets -underBinder -merge -useContext +onlyGivenNames size
  clear_value (hsize : size = _)
  have hs : size = N := by
    have : (arrOf st).size = N := by rw [W.arr, Array.size_map]; exact W.pm.size
    exact hsize.trans this
  subst hs
  clear hsize
  extract_lets -underBinder -merge -useContext +onlyGivenNames minrun
  clear_value (hmr : minrun = _)
  clear hmr
  extract_lets -underBinder -merge -useContext +onlyGivenNames zq
  try subst zq
  try dsimp -zeta only
  refine wpS_bind (wpS_mono (wpS_forRange (I := fun x c st' => ∃ p' l lo, c = (none, lo) ∧ Whole it κ size key st' p' l lo ∧ x ≤ lo) (Q := fun c st' => ∃ p' l, c = (none, size) ∧ Whole it κ size key st' p' l size) ?step ?fin ⟨p, [], 0, rfl, W, Nat.le_refl _⟩) ?post)
  case fin =>
    rintro c st' ⟨p', l, lo, rfl, W', hx⟩
    have := W'.le
    obtain rfl : lo = size := by omega
    exact ⟨p', l, rfl, W'⟩
  case step =>
    rintro x c st' _ hx ⟨p', l, lo, rfl, W', hlo⟩
    have hle := W'.le
    extract_lets -underBinder -merge -useContext +onlyGivenNames zq
    try subst zq
    try dsimp -zeta only
    refine w_ite (fun e => ?_) (fun e => ?_)
    · obtain rfl : lo = size := by omega
      exact wpS_pure ⟨p', l, rfl, W'⟩
    refine wpS_bind (countRun_ok hc (W'.sg (n := size - lo)) (by omega) (by omega) fun m st2 p2 S2 m1 m2 up2 => ?_)
    have W2 := W'.of S2
    try dsimp -zeta only
    extract_lets -underBinder -merge -useContext +onlyGivenNames zq
    try subst zq
    try dsimp -zeta only
    extract_lets -underBinder -merge -useContext +onlyGivenNames jp
    clear_value (hjp : jp = _)
    refine wpS_mono (Q := fun r st' => match r with | .done c' => ∃ p' l, c' = (none, size) ∧ Whole it κ size key st' p' l size | .yield c' => ∃ p' l lo, c' = (none, lo) ∧ Whole it κ size key st' p' l lo ∧ x + 1 ≤ lo) ?_ (fun r st' hr => by cases r <;> exact hr)
    have J : ∀ (u : Unit) (n : Nat) (st3 : SortSt) (p3 : Array Nat), Whole it κ size key st3 p3 l lo → 1 ≤ n → lo + n ≤ size → UpS key p3 lo (lo + n) → wpS (model prog w) A E s (jp u n) (fun r st' => match r with | .done c' => ∃ p' l, c' = (none, size) ∧ Whole it κ size key st' p' l size | .yield c' => ∃ p' l lo, c' = (none, lo) ∧ Whole it κ size key st' p' l lo ∧ x + 1 ≤ lo) st3 := fun u n st3 p3 W3 n1 n2 up3 => by
      rw [hjp]
      try dsimp -zeta only
      refine wpS_bind (wpS_get ?_)
      extract_lets -underBinder -merge -useContext +onlyGivenNames jp2
      clear_value (hjp2 : jp2 = _)
      have J2 : ∀ (u : Unit) (st4 : SortSt) (p4 : Array Nat) (l4 : List (Nat × Nat × Nat)), Whole it κ size key st4 p4 l4 lo → UpS key p4 lo (lo + n) → wpS (model prog w) A E s (jp2 u) (fun r st' => match r with | .done c' => ∃ p' l, c' = (none, size) ∧ Whole it κ size key st' p' l size | .yield c' => ∃ p' l lo, c' = (none, lo) ∧ Whole it κ size key st' p' l lo ∧ x + 1 ≤ lo) st4 := fun u st4 p4 l4 W4 up4 => by
        rw [hjp2]
        try dsimp -zeta only
        refine wpS_bind (wpS_modify ?_)
        extract_lets -underBinder -merge -useContext +onlyGivenNames zq
        try subst zq
        try dsimp -zeta only
        refine wpS_pure ⟨p4, l4 ++ [(lo, n, 0)], lo + n, rfl, ⟨W4.arr, W4.kd, W4.fl, ?_, W4.pm, chain_app.mpr ⟨lo, W4.ch, rfl, n1, rfl⟩, n2, fun e he => ?_⟩, by omega⟩
        · show (pendingOf st4).push (lo, n, 0) = _
          rw [W4.pd]; simp
        · rcases List.mem_append.mp he with he | he
          · exact W4.up e he
          · rw [List.mem_singleton.mp he]; exact up4
      clear hjp2
      generalize ((sortPriv% PySem.Builtin.SortState.pending) st3).back? = bk
      cases bk with
      | none =>
        try dsimp -zeta only
        exact J2 () st3 p3 l W3 up3
      | some t =>
        obtain ⟨s1, n1', z⟩ := t
        try dsimp -zeta only
        extract_lets -underBinder -merge -useContext +onlyGivenNames pwr
        clear_value (hpw : pwr = _)
        clear hpw
        refine wpS_bind (wpS_mono (wpS_forRange (I := fun x c st4 => c = (none, ()) ∧ ∃ p4 l4, Whole it κ size key st4 p4 l4 lo ∧ UpS key p4 lo (lo + n)) (Q := fun c st4 => c = (none, ()) ∧ ∃ p4 l4, Whole it κ size key st4 p4 l4 lo ∧ UpS key p4 lo (lo + n)) ?_ ?_ ⟨rfl, p3, l, W3, up3⟩) ?_)
        · rintro y c st4 _ hy ⟨rfl, p4, l4, W4, up4⟩
          refine wpS_bind (wpS_get ?_)
          extract_lets -underBinder -merge -useContext +onlyGivenNames pp
          clear_value (hpp : pp = _)
          have ep : pp = l4.toArray := hpp.trans W4.pd
          subst ep
          clear hpp
          rw [List.size_toArray]
          by_cases hl : l4.length > 1
          · rw [if_pos hl]
            obtain ⟨l1, a, b, l2, rfl, el⟩ := split_at (l := l4) (j := l4.length - 2) (by omega)
            have e2 : (l1 ++ a :: b :: l2).toArray[(l1 ++ a :: b :: l2).length - 2]? = some a := by
              rw [← el]; simp
            rw [e2]
            obtain ⟨a1, a2, a3⟩ := a
            try dsimp -zeta only
            refine w_ite (fun _ => wpS_pure ⟨rfl, p4, _, W4, up4⟩) (fun _ => ?_)
            rw [← el]
            refine wpS_bind (mergeAt_ok hc W4 fun st5 p5 e5 W5 out5 => ?_)
            try dsimp -zeta only
            exact wpS_pure ⟨rfl, p5, _, W5, fun i j q1 q2 q3 => by
              unfold KasM.K
              rw [out5 i q1, out5 j (by omega)]
              exact up4 i j q1 q2 q3⟩
          · rw [if_neg hl]
            try dsimp -zeta only
            exact wpS_pure ⟨rfl, p4, l4, W4, up4⟩
        · rintro c st4 hh
          exact hh
        · rintro c st4 ⟨rfl, p4, l4, W4, up4⟩
          extract_lets -underBinder -merge -useContext +onlyGivenNames zq
          try subst zq
          try dsimp -zeta only
          try dsimp -zeta only
          refine wpS_bind (wpS_modify ?_)
          rcases List.eq_nil_or_concat l4 with rfl | ⟨l0, ⟨f1, f2, f3⟩, rfl⟩
          · refine J2 () _ p4 [] ⟨W4.arr, W4.kd, W4.fl, ?_, W4.pm, W4.ch, W4.le, W4.up⟩ up4
            have e : ∀ n (f : Nat × Nat × Nat → Nat × Nat × Nat), (pendingOf st4).modify n f = #[] := fun n f => by rw [W4.pd]; rfl
            exact e ((pendingOf st4).size - 1) (fun x => (x.1, x.2.1, pwr))
          · obtain ⟨c0, q1, q2⟩ := chain_app.mp (by rw [List.concat_eq_append] at W4; exact W4.ch)
            rw [List.concat_eq_append] at W4
            refine J2 () _ p4 (l0 ++ [(f1, f2, pwr)]) ⟨W4.arr, W4.kd, W4.fl, ?_, W4.pm, chain_app.mpr ⟨c0, q1, q2⟩, W4.le, fun e he => ?_⟩ up4
            · have e : ∀ (f : Nat × Nat × Nat → Nat × Nat × Nat), (pendingOf st4).modify ((pendingOf st4).size - 1) f = (l0 ++ [f (f1, f2, f3)]).toArray := fun f => by
                rw [W4.pd]
                apply Array.toList_inj.mp
                rw [Array.toList_modify, List.size_toArray, List.length_append, List.length_singleton, Nat.add_sub_cancel]
                show (l0 ++ [(f1, f2, f3)]).modify l0.length _ = _
                exact mod_last
              exact e (fun x => (x.1, x.2.1, pwr))
            · rcases List.mem_append.mp he with he | he
              · exact W4.up e (List.mem_append_left _ he)
              · rw [List.mem_singleton.mp he]
                exact W4.up (f1, f2, f3) (by simp)
    clear hjp
    refine w_ite (fun hlt => ?_) (fun hlt => J () m st2 p2 W2 m1 (by omega) up2)
    refine wpS_bind (wpS_lift (wpAny_rule ⟨rfl, ?_⟩))
    extract_lets -underBinder -merge -useContext +onlyGivenNames zq
    try subst zq
    try dsimp -zeta only
    refine wpS_bind (binarySort_ok hc (W2.sg (n := min (size - lo) minrun)) m1 (by omega) (by omega) up2 fun st3 p3 S3 up3 => ?_)
    refine w_ite (fun e => absurd e (by decide)) (fun _ => ?_)
    extract_lets -underBinder -merge -useContext +onlyGivenNames zq
    try subst zq
    try dsimp -zeta only
    exact J () _ st3 p3 (W2.of S3) (by omega) (by omega) up3
  case post =>
    rintro c st' ⟨p', l, rfl, W'⟩
    extract_lets -underBinder -merge -useContext +onlyGivenNames zq
    try subst zq
    try (extract_lets -underBinder -merge -useContext +onlyGivenNames zq; subst zq)
    try dsimp -zeta only
    try dsimp -zeta only
    have hl0 := chain_le W'.ch
    refine wpS_bind (wpS_mono (wpS_forRange (I := fun x c st2 => c = (none, ()) ∧ ∃ p2 l2, Whole it κ size key st2 p2 l2 size ∧ (l2.length + x ≤ size ∨ l2.length ≤ 1)) (Q := fun c st2 => c = (none, ()) ∧ ∃ p2 l2, Whole it κ size key st2 p2 l2 size ∧ l2.length ≤ 1) ?_ ?_ ⟨rfl, p', l, W', .inl (by omega)⟩) ?_)
    · rintro y c st2 _ hy ⟨rfl, p2, l2, W2, hl⟩
      extract_lets -underBinder -merge -useContext +onlyGivenNames zq
      try subst zq
      try dsimp -zeta only
      refine wpS_bind (wpS_get ?_)
      extract_lets -underBinder -merge -useContext +onlyGivenNames pp
      clear_value (hpp : pp = _)
      have ep : pp = l2.toArray := hpp.trans W2.pd
      subst ep
      clear hpp
      rw [List.size_toArray]
      refine w_ite (fun e => wpS_pure ⟨rfl, p2, l2, W2, e⟩) (fun e => ?_)
      extract_lets -underBinder -merge -useContext +onlyGivenNames zq
      try subst zq
      try (extract_lets -underBinder -merge -useContext +onlyGivenNames zq; subst zq)
      extract_lets -underBinder -merge -useContext +onlyGivenNames zq
      try subst zq
      try dsimp -zeta only
      have key2 : ∀ j : Nat, j + 1 < l2.length → wpS (model prog w) A E s (mergeAt' j) (fun r st3 => r = true ∧ ∃ p3 l3, Whole it κ size key st3 p3 l3 size ∧ l3.length + 1 = l2.length) st2 := fun j hj => by
        obtain ⟨l1, a, b, lz, rfl, el⟩ := split_at hj
        rw [← el]
        refine mergeAt_ok hc W2 fun st5 p5 e5 W5 _ => ⟨rfl, p5, _, W5, ?_⟩
        simp
        omega
      refine wpS_bind (wpS_mono (key2 _ ?_) fun r st3 ⟨er, p3, l3, W3, hl3⟩ => ?_)
      · have hj : ∀ c : Bool, (if c = true then l2.length - 2 - 1 else l2.length - 2) + 1 < l2.length := fun c => by split <;> omega
        exact hj _
      · subst er
        try dsimp -zeta only
        exact wpS_pure ⟨rfl, p3, l3, W3, .inl (by omega)⟩
    · rintro c st2 ⟨rfl, p2, l2, W2, hl⟩
      exact ⟨rfl, p2, l2, W2, by omega⟩
    · rintro c st2 ⟨rfl, p2, l2, W2, hl⟩
      extract_lets -underBinder -merge -useContext +onlyGivenNames zq
      try subst zq
      try dsimp -zeta only
      try dsimp -zeta only
      refine wpS_pure (h st2 p2 W2.arr W2.fl W2.pm ?_)
      match l2, hl, W2 with
      | [], _, W2 =>
        have : 0 = size := W2.ch
        omega
      | [(e1, e2, e3)], _, W2 =>
        obtain ⟨q1, q2, q3⟩ := W2.ch
        have u := W2.up (e1, e2, e3) (by simp)
        have q1 : e1 = 0 := q1
        have q3 : 0 + e2 = size := q3
        dsimp only at u
        rw [q1, q3] at u
        exact u
end
end Tim

namespace L2
open PySem PySem.Spec PyProof.Rows
section
variable {prog : Program} {w : World} {A : Around} {E : Value → Shared → Prop} {s : Shared}
/-- list.sort with questions that change nothing -/
theorem list_sort_big {O : KeyOrd} {key : Nat → O.α} {κ : SortKind} {a : Addr} {vs : List Value} {n : Nat} {P : PySem.Fin → Shared → Prop} (ho : s.heap.get? a = some (seqObj "list" vs.toArray n)) (h64 : vs.length ≤ 50000)
    (hkind : 2 ≤ vs.length → ∀ (h' : Heap), (∀ b o, b ≠ a → s.heap.get? b = some o → h'.get? b = some o) → ∀ (Q : SortKind → Shared → Prop), Q κ { s with heap := h' } → wpAny (model prog w) A (keyKind' vs.toArray) Q (fun _ _ => False) { s with heap := h' })
    (hcmp : ∀ (h' : Heap), (∀ b o, b ≠ a → s.heap.get? b = some o → h'.get? b = some o) → ∀ (i j : Nat) (C : Bool → Shared → Prop), i < vs.length → j < vs.length → C (O.blt (key i) (key j)) { s with heap := h' } → PySem.W.kas_ask prog w A κ vs i j C { s with heap := h' })
    (h : ∀ is : List Nat, is.Perm (List.range vs.length) → (∀ i, i + 1 < is.length → O.kle (key (is.getD i 0)) (key (is.getD (i + 1) 0))) → P (.done (.ret .none)) { s with heap := sortedHeap s.heap a vs (is.map fun i => vs.getD i Value.none).toArray }) :
    wpAny (model prog w) A (Builtin.«list.sort» ⟨[.ref a], []⟩) P E s := by
  rw [list_sort_plain]
  have ha : a < s.heap.objs.size := Heap.lt_size ho
  have hsz : vs.toArray.size = vs.length := by simp
  refine wpAny_bind (listItems_at ho rfl ?_)
  refine wpAny_bind (listUpdate_at ho rfl ?_ (by rw [List.size_toArray, sizeLine_eq]; omega) (Nat.zero_le _))
  obtain ⟨e1, ho1⟩ : ∃ e1, (s.heap.update a (Obj.mapSeq fun _ => #[])).get? a = some (seqObj "list" #[] e1) := ⟨_, get?_update_seq ho (fun _ => #[])⟩
  refine wpAny_bind (seqEpoch_at ho1 rfl ?_)
  refine wpAny_bind (wpAny_newTuple ?_ (by show vs.length ≤ _; rw [sizeLine_eq]; omega))
  refine wpAny_bind (wpAny_newList ?_ (Nat.zero_le _))
  refine wpAny_holding ?_
  have ho6 : (((s.heap.update a (Obj.mapSeq fun _ => #[])).push (seqObj "tuple" vs.toArray 0)).push (seqObj "list" #[] 0)).get? a = some (seqObj "list" #[] e1) := by
    rw [Heap.get?_push_ne _ _ _ (by rw [size_push', Heap.size_update]; exact Nat.ne_of_lt (Nat.lt_succ_of_lt ha)), Heap.get?_push_ne _ _ _ (by rw [Heap.size_update]; exact Nat.ne_of_lt ha)]
    exact ho1
  have keep : ∀ b o, b ≠ a → s.heap.get? b = some o → (((s.heap.update a (Obj.mapSeq fun _ => #[])).push (seqObj "tuple" vs.toArray 0)).push (seqObj "list" #[] 0)).get? b = some o := fun b o hb q => by
    refine Heap.get?_push_of_some _ (Heap.get?_push_of_some _ ?_)
    rw [Heap.get?_update_ne _ _ _ _ hb]; exact q
  show wpAny (model prog w) A _ P E { s with heap := ((s.heap.update a (Obj.mapSeq fun _ => #[])).push (seqObj "tuple" vs.toArray 0)).push (seqObj "list" #[] 0) }
  dsimp only
  by_cases h2 : vs.toArray.size < 2
  · rw [if_pos h2, if_pos h2]
    refine wpAny_bind (wpAny_pure ?_)
    rw [StateT.run_pure]
    refine wpAny_bind (wpAny_pure ?_)
    dsimp only
    refine wpAny_bind (seqEpoch_at ho6 rfl ?_)
    refine wpAny_bind (listUpdate_at ho6 rfl ?_ (Nat.zero_le _) (by rw [Array.size_map]; show (pairsOf vs).size ≤ _; rw [pairsOf_size, sizeLine_eq]; omega))
    simp only [bne_self_eq_false, Bool.false_eq_true, if_false]
    have := h (List.range vs.length) (List.Perm.refl _) (fun i hi => by rw [List.length_range] at hi; omega)
    have e : ((List.range vs.length).map fun i => vs.getD i Value.none).toArray = (arrOf (SortSt.mk' general' (vs.toArray.zip vs.toArray) #[] 7 none)).map (·.2) := by
      apply Array.toList_inj.mp
      show (List.range vs.length).map (fun i => vs.getD i Value.none) = ((vs.toArray.zip vs.toArray).map (·.2)).toList
      apply List.ext_getElem?
      intro k
      by_cases hk : k < vs.length
      · simp [hk, List.getD_eq_getElem?_getD]
      · simp [hk]
    rw [e] at this
    exact wpAny_pure this
  · rw [if_neg h2, if_neg h2]
    have h2' : 2 ≤ vs.length := by omega
    refine wpAny_bind (wpAny_mono (hkind h2' _ keep (fun κ' s' => κ' = κ ∧ s' = _) ⟨rfl, rfl⟩) ?_ fun _ _ x => x.elim)
    rintro κ' s' ⟨rfl, rfl⟩
    have eit : pairsOf vs = vs.toArray.zip vs.toArray := rfl
    have hAsk : Tim.Asks prog w A { s with heap := ((s.heap.update a (Obj.mapSeq fun _ => #[])).push (seqObj "tuple" vs.toArray 0)).push (seqObj "list" #[] 0) } O key κ' (vs.toArray.zip vs.toArray) vs.length := fun i j C h1 h2 h3 => by
      have := hcmp _ keep i j C h1 h2 h3
      rw [PySem.W.kas_ask_eq] at this
      exact this
    have hst0 : arrOf (SortSt.mk' κ' (vs.toArray.zip vs.toArray) #[] 7 none) = (List.toArray (List.range vs.length)).map (PySem.W.kas_item (vs.toArray.zip vs.toArray)) := by
      have e := PySem.W.kas_range (vs.toArray.zip vs.toArray)
      rw [show (vs.toArray.zip vs.toArray).size = vs.length by simp] at e
      exact e.symm
    refine wpAny_bind (wpAny_mono (Tim.sortRuns_ok (E := E) (N := vs.length) (st := SortSt.mk' κ' (vs.toArray.zip vs.toArray) #[] 7 none) (p := (List.range vs.length).toArray) (Q := fun _ st' => ∃ p : Array Nat, arrOf st' = p.map (PySem.W.kas_item (vs.toArray.zip vs.toArray)) ∧ failedOf st' = none ∧ KasM.Pm vs.length p ∧ Tim.UpS key p 0 vs.length)
      hAsk ⟨hst0, rfl, rfl, rfl, Array.Perm.refl _, rfl, Nat.zero_le _, fun e he => by simp at he⟩ (by omega) fun st' p' a1 a2 a3 a4 => ⟨p', a1, a2, a3, a4⟩) ?_ fun _ _ e => e)
    rintro ⟨⟨⟩, st'⟩ s' ⟨rfl, p, har, hf, hp, hup⟩
    have hasc : KasM.Asc key p vs.length := fun i hi => hup i (i + 1) (Nat.zero_le _) (Nat.le_succ _) hi
    dsimp only
    have hout := PySem.W.kat_snds (ks := vs) (vs := vs) rfl har
    rw [hout]
    refine wpAny_bind (seqEpoch_at ho6 rfl ?_)
    refine wpAny_bind (listUpdate_at ho6 rfl ?_ (Nat.zero_le _) (by rw [List.size_toArray, List.length_map, Array.length_toList, hp.size, sizeLine_eq]; omega))
    rw [hf]
    simp only [bne_self_eq_false, Bool.false_eq_true, if_false]
    refine wpAny_pure (h p.toList (by have := Array.perm_iff_toList_perm.mp hp; simpa using this) fun i hi => ?_)
    have hz := hp.size
    have := hasc i (by simpa [hz] using hi)
    simpa [KasM.K, Array.getD_eq_getD_getElem?, List.getD_eq_getElem?_getD] using this

theorem sorted_big {O : KeyOrd} {key : Nat → O.α} {κ : SortKind} {l : Addr} {vs : List Value} {Q : Value → Shared → Prop} (hl : s.heap.IsList l vs.toArray) (h64 : vs.length ≤ 50000)
    (hkind : 2 ≤ vs.length → ∀ (h' : Heap), (∀ b o, s.heap.get? b = some o → h'.get? b = some o) → ∀ (Q : SortKind → Shared → Prop), Q κ { s with heap := h' } → wpAny (model prog w) A.in1.in1 (keyKind' vs.toArray) Q (fun _ _ => False) { s with heap := h' })
    (hcmp : ∀ (h' : Heap), (∀ b o, s.heap.get? b = some o → h'.get? b = some o) → ∀ (i j : Nat) (C : Bool → Shared → Prop), i < vs.length → j < vs.length → C (O.blt (key i) (key j)) { s with heap := h' } → PySem.W.kas_ask prog w A.in1.in1 κ vs i j C { s with heap := h' })
    (h : ∀ (D : Addr) (h' : Heap) (n : Nat) (is : List Nat), (∀ b o, s.heap.get? b = some o → h'.get? b = some o) → (∀ b o, s.heap.get? b = some o → b ≠ D) → is.Perm (List.range vs.length) → (∀ i, i + 1 < is.length → O.kle (key (is.getD i 0)) (key (is.getD (i + 1) 0))) →
      h'.get? D = some (seqObj "list" (is.map fun i => vs.getD i Value.none).toArray n) → Q (.ref D) { s with heap := h' }) :
    wpAny (model prog w) A (call (.builtin "sorted") [.ref l]) Q E s := by
  refine Calls.call_function_entry kind_sorted plain_sorted entry_sorted (args_sorted1 _) ?_
  unfold Builtin.«sorted»
  refine wpAny_bind (m := checkCount "sorted" 1 1 _) (wpAny_pure ?_)
  refine wpAny_bind (collect_list hl ?_ (by rw [sizeLine_eq]; omega))
  refine wpAny_bind (wpAny_newList ?_ (by rw [sizeLine_eq]; omega))
  have hsz : ((s.heap.push (seqObj "list" #[] 0)).update s.heap.objs.size (Obj.mapSeq (· ++ vs.toArray))).objs.size = s.heap.objs.size + 1 := by
    rw [Heap.size_update, size_push']
  have hoL : (((s.heap.push (seqObj "list" #[] 0)).update s.heap.objs.size (Obj.mapSeq (· ++ vs.toArray))).push (seqObj "list" vs.toArray 0)).get? (s.heap.objs.size + 1) = some (seqObj "list" vs.toArray 0) := by
    rw [← hsz]; exact Heap.get?_push_size _ rfl
  have keep : ∀ b o, s.heap.get? b = some o → (((s.heap.push (seqObj "list" #[] 0)).update s.heap.objs.size (Obj.mapSeq (· ++ vs.toArray))).push (seqObj "list" vs.toArray 0)).get? b = some o := fun b o q => by
    have hlt : b < s.heap.objs.size := Heap.lt_size q
    rw [Heap.get?_push_ne _ _ _ (by rw [hsz]; exact Nat.ne_of_lt (Nat.lt_succ_of_lt hlt)), Heap.get?_update_ne _ _ _ _ (Nat.ne_of_lt hlt), Heap.get?_push_ne _ _ _ (Nat.ne_of_lt hlt)]
    exact q
  have szne : ∀ b o, s.heap.get? b = some o → b ≠ s.heap.objs.size + 1 := fun b o q => Nat.ne_of_lt (Nat.lt_succ_of_lt (Heap.lt_size q))
  show wpAny _ _ _ _ _ { s with heap := ((s.heap.push (seqObj "list" #[] 0)).update s.heap.objs.size (Obj.mapSeq (· ++ vs.toArray))).push (seqObj "list" vs.toArray 0) }
  rw [hsz]
  refine wpAny_bind (wpAny_holding (wpAny_call_entry slot_list_sort ⟨_, hoL, rfl⟩ entry_list_sort ?body (args_list_sort _)))
  case body =>
    refine list_sort_big (s := { s with heap := ((s.heap.push (seqObj "list" #[] 0)).update s.heap.objs.size (Obj.mapSeq (· ++ vs.toArray))).push (seqObj "list" vs.toArray 0) }) (key := key) (κ := κ) hoL h64
      (fun h2 h' k => hkind h2 h' fun b o q => k b o (szne b o q) (keep b o q)) (fun h' k => hcmp h' fun b o q => k b o (szne b o q) (keep b o q)) fun is hp hs => ?_
    obtain ⟨n, hg⟩ := sortedHeap_at (vs := vs) (out := (is.map fun i => vs.getD i Value.none).toArray) hoL
    refine ⟨_, rfl, wpAny_pure ⟨_, rfl, h (s.heap.objs.size + 1) _ n is (fun b o q => ?_) szne hp hs hg⟩⟩
    show (sortedHeap (((s.heap.push (seqObj "list" #[] 0)).update s.heap.objs.size (Obj.mapSeq (· ++ vs.toArray))).push (seqObj "list" vs.toArray 0)) (s.heap.objs.size + 1) vs _).get? b = some o
    rw [sortedHeap_old (szne b o q) (Heap.lt_size (keep b o q))]
    exact keep b o q
end
end L2

namespace L2
open PySem PySem.Spec PyProof.Rows PySem.SeqAt
section
variable {X : Cx}
abbrev RowE (c : Enc) : Type := V × c.O.α
/-- sorted of a list of deep data -/
def rSortB (X : Cx) (c : Enc) : List V → Hp → VK → Prop := fun vs H Q => ∃ (l : Addr) (zs : List (RowE c)), vs = [.ref l] ∧ SqL X.K H l (zs.map (·.1)) ∧ zs.length ≤ 900 ∧
  (∀ z ∈ zs, IsDt X.K H z.1 (c.D z.2)) ∧ ∀ (D : Addr) (zs' : List (RowE c)), zs'.Perm zs → (zs'.map (·.2)).Pairwise c.O.kle → H D = none → Q (.ref D) (upd H D (.lst (zs'.map (·.1))))
theorem sortB_of (c : Enc) (κ : SortKind)
    (hkind : ∀ (pins : List (Addr × Obj)) (σ : St) (H : Hp) (s : Shared) (zs : List (RowE c)) (its : List Value) (Q : SortKind → Shared → Prop), Inv X pins σ H s → Vals (zs.map (·.1)) its → (∀ z ∈ zs, IsDt X.K H z.1 (c.D z.2)) → 2 ≤ its.length → Q κ s → wpAny (model X.prog X.w) X.A.in1.in1 (keyKind' its.toArray) Q (fun _ _ => False) s)
    (hcmp : ∀ (pins : List (Addr × Obj)) (σ : St) (H : Hp) (s : Shared) (z z' : RowE c) (x y : Value) (C : Bool → Shared → Prop), Inv X pins σ H s → IsDt X.K H z.1 (c.D z.2) → IsDt X.K H z'.1 (c.D z'.2) → RelV z.1 x → RelV z'.1 y → C (c.O.blt z.2 z'.2) s → wpAny (model X.prog X.w) X.A.in1.in1 (keyLt' κ x y) C (fun _ _ => False) s) :
    CallR X (.builtin "sorted") (rSortB X c) := by
  intro pins s σ H vs us Q I r h
  obtain ⟨l, zs, rfl, hl, h64, hr, q⟩ := h
  obtain ⟨u, rfl, ru⟩ := vals1 r
  obtain rfl : u = Value.ref l := ru
  obtain ⟨its, ri, pl, _⟩ := I.list hl
  have hlen : zs.length = its.length := by have := ri.length; rwa [List.length_map] at this
  let dz : RowE c := (V.non, c.dflt)
  have hat : ∀ i, i < zs.length → RelV (zs.getD i dz).1 (its.getD i Value.none) ∧ IsDt X.K H (zs.getD i dz).1 (c.D (zs.getD i dz).2) := fun i hi => by
    have := paired_at ri i V.non Value.none (by rw [List.length_map]; exact hi)
    have e : (zs.map (·.1)).getD i V.non = (zs.getD i dz).1 := by
      rw [List.getD_eq_getElem?_getD, List.getElem?_map, List.getD_eq_getElem?_getD, List.getElem?_eq_getElem hi]; rfl
    rw [e] at this
    refine ⟨this, hr _ ?_⟩
    rw [List.getD_eq_getElem?_getD, List.getElem?_eq_getElem hi]
    exact List.getElem_mem hi
  refine sorted_big (O := c.O) (key := fun i => (zs.getD i dz).2) (κ := κ) (vs := its) pl.isList (by omega) (fun h2 h' k Q' hq => ?_) (fun h' k i j C hi hj hC => ?_) fun D h' n is kk hD hpm hst hg => ?_
  · exact hkind pins σ H _ zs its Q' (I.kept (t' := s.toks) k) ri hr h2 hq
  · obtain ⟨a1, a2⟩ := hat i (by omega)
    obtain ⟨b1, b2⟩ := hat j (by omega)
    unfold PySem.W.kas_ask
    exact hcmp pins σ H _ _ _ _ _ C (I.kept (t' := s.toks) k) a2 b2 a1 b1 hC
  · have hin : ∀ i ∈ is, i < zs.length := fun i hi => by
      have := hpm.mem_iff.mp hi
      rw [hlen]; simpa using this
    have hrange : (List.range zs.length).map (fun i => zs.getD i dz) = zs := by
      apply List.ext_getElem?
      intro k
      by_cases hk : k < zs.length
      · simp [hk, List.getD_eq_getElem?_getD]
      · simp [hk]
    have hperm : (is.map fun i => zs.getD i dz).Perm zs := by
      have := hpm.map (fun i => zs.getD i dz)
      rwa [← hlen, hrange] at this
    have hv : Vals ((is.map fun i => zs.getD i dz).map (·.1)) (is.map fun i => its.getD i Value.none) := by
      rw [List.map_map]
      exact paired_map is fun i hi => (hat i (hin i hi)).1
    have hpw : ((is.map fun i => zs.getD i dz).map (·.2)).Pairwise c.O.kle := by
      refine pairwise_of_steps (fun _ _ _ => KeyOrd.kle_trans) _ fun i a b h1 h2 => ?_
      rw [List.map_map, List.getElem?_map, Option.map_eq_some_iff] at h1 h2
      obtain ⟨x, e1, rfl⟩ := h1
      obtain ⟨y, e2, rfl⟩ := h2
      obtain ⟨hlt, _⟩ := List.getElem?_eq_some_iff.mp e2
      have := hst i hlt
      have g1 : is.getD i 0 = x := by rw [List.getD_eq_getElem?_getD, e1]; rfl
      have g2 : is.getD (i + 1) 0 = y := by rw [List.getD_eq_getElem?_getD, e2]; rfl
      rw [g1, g2] at this
      exact this
    exact ⟨.ref D, upd H D (.lst ((is.map fun i => zs.getD i dz).map (·.1))), I.laidN (t' := s.toks) kk hD ⟨by rw [List.length_map, hperm.length_eq]; exact Nat.le_of_lt (small1000 (by omega)), _, n, hv, hg⟩, rfl, q D _ hperm hpw (I.freshN hD)⟩
/-- of lists -/
theorem look_list {pins : List (Addr × Obj)} {σ : St} {H : Hp} {s : Shared} {M : Model} (I : Inv X pins σ H s) {v : V} {ds : List Dt} {x : Value} (h : IsDt X.K H v (.lst ds)) (r : RelV v x) : PySem.W.Looks M s.heap (typeOf x) (.type "list") := by
  cases h with
  | lst h t =>
    cases r
    obtain ⟨its, _, p, _⟩ := I.list h
    obtain ⟨o, ho, hc, _⟩ := p.isList
    rw [← hc]
    exact (PySem.W.Looks.ld ho).andThen .now
theorem call_bigL (c : Enc) (hu : X.A.units + 64 < cLine) (hd : c.dep ≤ 50) : CallR X (.builtin "sorted") (rSortB X (listE c)) := by
  refine sortB_of (listE c) oneType' (fun pins σ H s zs its Q I rv hz h2 hq => ?_) fun pins σ H s z z' x y C I h h' r r' hC => ?_
  · refine PySem.W.kas_kind (T := .type "list") h2 (fun v hv => ?_) (by decide) (by decide) hq
    obtain ⟨i, hi⟩ := List.getElem?_of_mem hv
    have hi' := (List.getElem?_eq_some_iff.mp hi).1
    have hl := rv.length
    rw [List.length_map] at hl
    obtain ⟨x, hx, rx⟩ := rv.get (i := i) (x := (zs[i]'(by omega)).1) (by rw [List.getElem?_map, List.getElem?_eq_getElem (by omega)]; rfl)
    rw [hi] at hx; cases hx
    exact look_list I (hz _ (List.getElem_mem (by omega))) rx
  · rw [keyLt'_oneType]
    obtain ⟨v, as⟩ := z
    obtain ⟨u, bs⟩ := z'
    cases h with
    | lst h t =>
      cases h' with
      | lst h' t' =>
        cases r; cases r'
        obtain ⟨its, rr, p, _⟩ := I.list h
        obtain ⟨its', rr', p', _⟩ := I.list h'
        exact oneLt_lists p.isList p'.isList (c.lexL I (by show _ + 1 + 1 + 1 + _ < _; omega) t t' rr rr') (by show _ + 1 + 1 < _; omega) hC
theorem tups_of (c : Enc) {pins : List (Addr × Obj)} {σ : St} {H : Hp} {s : Shared} (I : Inv X pins σ H s) {g : c.O.α → List Dt} : ∀ {zs : List (V × c.O.α)} {its : List Value} {k : c.O.α → List Dt}, Vals (zs.map (·.1)) its → (∀ z ∈ zs, ∃ ds, k z.2 = Dt.lst ds :: g z.2 ∧ IsDt X.K H z.1 (.tup (k z.2))) →
    ∃ fs, PySem.W.KatTups s.heap its fs ∧ fs.length = zs.length ∧ ∀ v ∈ fs, ∃ (u : V) (ds : List Dt), IsDt X.K H u (.lst ds) ∧ RelV u v
  | [], _, _, .nil, _ => ⟨[], .nil, rfl, fun _ x => by cases x⟩
  | z :: zs, _, k, .cons r rr, h => by
    obtain ⟨fs, k1, k2, k3⟩ := tups_of c I (zs := zs) rr fun y hy => h y (List.mem_cons_of_mem _ hy)
    obtain ⟨ds, e, hd⟩ := h z List.mem_cons_self
    rw [e] at hd
    obtain ⟨v, a⟩ := z
    dsimp only at r hd
    cases hd with
    | tup hs t =>
      cases r
      obtain ⟨its, ri, ⟨o, b1, b2, n, b3⟩, _⟩ := I.tuple hs
      cases t with
      | cons t1 t2 =>
        cases ri with
        | cons r1 r2 =>
          refine ⟨_ :: fs, .cons b1 b2 b3 rfl k1, by simp [k2], fun w hw => ?_⟩
          rcases List.mem_cons.mp hw with e | hw
          · exact ⟨_, ds, t1, e ▸ r1⟩
          · exact k3 w hw
theorem oneLt_of {A : Around} {s : Shared} {prog : Program} {w : World} {E : Value → Shared → Prop} {x y : Value} {b : Bool} {Q : Bool → Shared → Prop} (h : RcLtAt A s x y b) (q : Q b s) : wpAny (model prog w) A (oneLt' false x y) Q E s :=
  PySem.W.kat_one _ _ (h prog w E _ q)
theorem oneLtL (c : Enc) {pins : List (Addr × Obj)} {σ : St} {H : Hp} {s : Shared} (I : Inv X pins σ H s) {A : Around} {as bs : List c.O.α} {v u : V} {x y : Value} {prog : Program} {w : World} {E : Value → Shared → Prop} {Q : Bool → Shared → Prop} (h : IsDt X.K H v ((listE c).D as)) (h' : IsDt X.K H u ((listE c).D bs)) (r : RelV v x) (r' : RelV u y) (hA : A.units + (c.dep + 1) < cLine) (q : Q (listBlt c.O as bs) s) : wpAny (model prog w) A (oneLt' true x y) Q E s := by
  cases h with
  | lst h t =>
    cases h' with
    | lst h' t' =>
      cases r; cases r'
      obtain ⟨its, rr, p, _⟩ := I.list h
      obtain ⟨its', rr', p', _⟩ := I.list h'
      exact oneLt_lists p.isList p'.isList (c.lexL I (by rw [in1_units]; omega) t t' rr rr') (by omega) q
theorem call_bigLP (c d : Enc) (hu : X.A.units + 64 < cLine) (h1 : c.dep ≤ 50) (h2 : d.dep ≤ 50) : CallR X (.builtin "sorted") (rSortB X (pairE (listE c) d)) := by
  refine sortB_of (pairE (listE c) d) (tuples' true) (fun pins σ H s zs its Q I rv hz hl hq => ?_) fun pins σ H s z z' x y C I h h' r r' hC => ?_
  · obtain ⟨fs, k1, k2, k3⟩ := tups_of (pairE (listE c) d) I (k := fun p => [(listE c).D p.1, d.D p.2]) (g := fun p => [d.D p.2]) rv fun z hz' => ⟨_, rfl, hz z hz'⟩
    have hl2 := rv.length
    rw [List.length_map] at hl2
    refine PySem.W.kat_kind (T := .type "list") k1 (by omega) (fun v hv => ?_) (by decide) hq
    obtain ⟨u, ds, a1, a2⟩ := k3 v hv
    exact look_list I a1 a2
  · obtain ⟨v, p⟩ := z
    obtain ⟨u, q⟩ := z'
    dsimp only at h h' r r'
    change C ((pairE (listE c) d).O.blt p q) s at hC
    have hun : X.A.in1.in1.units = X.A.units + 1 + 1 := rfl
    cases h with
    | tup hs t =>
      cases h' with
      | tup hs' t' =>
        cases r; cases r'
        obtain ⟨its, rr, ⟨ox, hox, _, n, dx⟩, _⟩ := I.tuple hs
        obtain ⟨its', rr', ⟨oy, hoy, _, m, dy⟩, _⟩ := I.tuple hs'
        cases t with
        | cons t1 t => cases t with
          | cons t2 t => cases t; cases t' with
            | cons s1 t' => cases t' with
              | cons s2 t' => cases t'; cases rr with
                | cons r1 rr => cases rr with
                  | cons r2 rr => cases rr; cases rr' with
                    | cons q1 rr' => cases rr' with
                      | cons q2 rr' =>
                        cases rr'
                        refine PySem.W.kat_lt hox dx hoy dy (PySem.W.kat_cons ((listE c).eq (A := X.A.in1.in1) I t1 s1 r1 q1 (by rw [hun]; show _ + (c.dep + 1) < _; omega) _ _ _ _ ?_))
                        by_cases e1 : p.1 = q.1
                        · rw [dec_true e1]
                          rw [show (pairE (listE c) d).O.blt p q = d.O.blt p.2 q.2 from lexO_same p q e1] at hC
                          refine PySem.W.kat_yes (PySem.W.kat_cons (d.eq (A := X.A.in1.in1) I t2 s2 r2 q2 (by rw [hun]; omega) _ _ _ _ ?_))
                          by_cases e2 : p.2 = q.2
                          · rw [dec_true e2]
                            refine PySem.W.kat_yes (PySem.W.kat_nil ?_)
                            rw [e2, d.O.irrefl] at hC
                            exact hC
                          · rw [dec_false e2]
                            exact PySem.W.kat_no (oneLt_of (d.lt I t2 s2 r2 q2 (by rw [hun]; omega)) hC)
                        · rw [dec_false e1]
                          rw [show (pairE (listE c) d).O.blt p q = listBlt c.O p.1 q.1 from lexO_diff p q e1] at hC
                          exact PySem.W.kat_no (oneLtL c I t1 s1 r1 q1 (by rw [hun]; omega) hC)
theorem call_bigLT (c d e : Enc) (hu : X.A.units + 64 < cLine) (h1 : c.dep ≤ 50) (h2 : d.dep ≤ 50) (h3 : e.dep ≤ 50) : CallR X (.builtin "sorted") (rSortB X (tripE (listE c) d e)) := by
  refine sortB_of (tripE (listE c) d e) (tuples' true) (fun pins σ H s zs its Q I rv hz hl hq => ?_) fun pins σ H s z z' x y C I h h' r r' hC => ?_
  · obtain ⟨fs, k1, k2, k3⟩ := tups_of (tripE (listE c) d e) I (k := fun p => [(listE c).D p.1, d.D p.2.1, e.D p.2.2]) (g := fun p => [d.D p.2.1, e.D p.2.2]) rv fun z hz' => ⟨_, rfl, hz z hz'⟩
    have hl2 := rv.length
    rw [List.length_map] at hl2
    refine PySem.W.kat_kind (T := .type "list") k1 (by omega) (fun v hv => ?_) (by decide) hq
    obtain ⟨u, ds, a1, a2⟩ := k3 v hv
    exact look_list I a1 a2
  · obtain ⟨v, p⟩ := z
    obtain ⟨u, q⟩ := z'
    dsimp only at h h' r r'
    change C ((tripE (listE c) d e).O.blt p q) s at hC
    have hun : X.A.in1.in1.units = X.A.units + 1 + 1 := rfl
    cases h with
    | tup hs t =>
      cases h' with
      | tup hs' t' =>
        cases r; cases r'
        obtain ⟨its, rr, ⟨ox, hox, _, n, dx⟩, _⟩ := I.tuple hs
        obtain ⟨its', rr', ⟨oy, hoy, _, m, dy⟩, _⟩ := I.tuple hs'
        cases t with
        | cons t1 t => cases t with
          | cons t2 t => cases t with
            | cons t3 t => cases t; cases t' with
              | cons s1 t' => cases t' with
                | cons s2 t' => cases t' with
                  | cons s3 t' => cases t'; cases rr with
                    | cons r1 rr => cases rr with
                      | cons r2 rr => cases rr with
                        | cons r3 rr => cases rr; cases rr' with
                          | cons q1 rr' => cases rr' with
                            | cons q2 rr' => cases rr' with
                              | cons q3 rr' =>
                                cases rr'
                                refine PySem.W.kat_lt hox dx hoy dy (PySem.W.kat_cons ((listE c).eq (A := X.A.in1.in1) I t1 s1 r1 q1 (by rw [hun]; show _ + (c.dep + 1) < _; omega) _ _ _ _ ?_))
                                by_cases e1 : p.1 = q.1
                                · rw [dec_true e1]
                                  rw [show (tripE (listE c) d e).O.blt p q = (lexO d.O e.O).blt p.2 q.2 from lexO_same p q e1] at hC
                                  refine PySem.W.kat_yes (PySem.W.kat_cons (d.eq (A := X.A.in1.in1) I t2 s2 r2 q2 (by rw [hun]; omega) _ _ _ _ ?_))
                                  by_cases e2 : p.2.1 = q.2.1
                                  · rw [dec_true e2]
                                    rw [show (lexO d.O e.O).blt p.2 q.2 = e.O.blt p.2.2 q.2.2 from lexO_same p.2 q.2 e2] at hC
                                    refine PySem.W.kat_yes (PySem.W.kat_cons (e.eq (A := X.A.in1.in1) I t3 s3 r3 q3 (by rw [hun]; omega) _ _ _ _ ?_))
                                    by_cases e3 : p.2.2 = q.2.2
                                    · rw [dec_true e3]
                                      refine PySem.W.kat_yes (PySem.W.kat_nil ?_)
                                      rw [e3, e.O.irrefl] at hC
                                      exact hC
                                    · rw [dec_false e3]
                                      exact PySem.W.kat_no (oneLt_of (e.lt I t3 s3 r3 q3 (by rw [hun]; omega)) hC)
                                  · rw [dec_false e2]
                                    rw [show (lexO d.O e.O).blt p.2 q.2 = d.O.blt p.2.1 q.2.1 from lexO_diff p.2 q.2 e2] at hC
                                    exact PySem.W.kat_no (oneLt_of (d.lt I t2 s2 r2 q2 (by rw [hun]; omega)) hC)
                                · rw [dec_false e1]
                                  rw [show (tripE (listE c) d e).O.blt p q = listBlt c.O p.1 q.1 from lexO_diff p q e1] at hC
                                  exact PySem.W.kat_no (oneLtL c I t1 s1 r1 q1 (by rw [hun]; omega) hC)
end
end L2

namespace L2
open PySem PySem.Spec PyProof.Rows Ord
section
variable {X : Cx}
/-! ### l.insert(i, y) -/
def rIns : V → List V → Hp → VK → Prop := fun x vs H Q => ∃ l xs y, ∃ i : Int, x = .ref l ∧ vs = [.int i, y] ∧ H l = some (.lst xs) ∧ 0 ≤ i ∧ i ≤ xs.length ∧ xs.length ≤ 1000 ∧ Q .non (upd H l (.lst (xs.take i.toNat ++ y :: xs.drop i.toNat)))
theorem mr_insert : MtR X "list.insert" rIns := by
  intro pins s σ H x vs v us Q I rx rv h
  obtain ⟨l, xs, y, i, rfl, rfl, hH, h0, h1, hz, q⟩ := h
  cases rx
  obtain ⟨u1, u2, rfl, ru1, ru2⟩ := vals2 rv
  obtain ⟨t, rfl⟩ := ru1
  obtain ⟨z, its, n, r, hl, e⟩ := I.lstM hH
  have hs : (1001 : Nat) ≤ sizeLine := by decide
  have hfit : Builtin.List.listFitsIndex i = true := by
    unfold Builtin.List.listFitsIndex
    simp only [Bool.and_eq_true, decide_eq_true_eq]
    omega
  refine call_meets PySem.F.slot_list_insert ⟨_, e, rfl⟩ PySem.F.entry_list_insert (PySem.F.args_list_insert_3 _ _ _) (PySem.AutoSeq1.list_insert_list_int_val_1 l _ n i t u2 (by simp [hfit]) (by rw [List.size_toArray]; omega)) ⟨e, ?_⟩
  refine ⟨.non, _, I.lset (its' := its.take i.toNat ++ u2 :: its.drop i.toNat) hH e ?_ ((r.take i.toNat).append (.cons ru2 (r.drop i.toNat))) ?_, rfl, q⟩
  · have hk : (if i < 0 then (i + (its.toArray.size : Int)).toNat else min i.toNat its.toArray.size) = i.toNat := by
      rw [if_neg (by omega), List.size_toArray]; omega
    show (its.toArray.extract 0 (if i < 0 then (i + (its.toArray.size : Int)).toNat else min i.toNat its.toArray.size)).push u2 ++ its.toArray.extract (if i < 0 then (i + (its.toArray.size : Int)).toNat else min i.toNat its.toArray.size) = _
    rw [hk]
    simp
    rw [List.take_of_length_le (by rw [List.length_drop]; omega)]
  · rw [List.length_append, List.length_cons, List.length_take, List.length_drop]
    omega
/-! ### slices of texts -/
def cutS (x : Str) (l u : Option Int) : List Nat := (x.cps.toList.drop (l.getD 0).toNat).take ((u.map Int.toNat).getD x.length - (l.getD 0).toNat)
theorem drop_min {α : Type} (xs : List α) (a : Nat) : xs.drop (min a xs.length) = xs.drop a := by
  rcases Nat.le_total a xs.length with h | h
  · rw [Nat.min_eq_left h]
  · rw [Nat.min_eq_right h, List.drop_of_length_le h, List.drop_of_length_le (Nat.le_refl _)]
theorem slice_cps (x : Str) {l u : Option Int} (hl : ∀ i, l = some i → 0 ≤ i) (hu : ∀ i, u = some i → 0 ≤ i) : (Txt.slice x l u).cps.toList = cutS x l u := by
  have hxl : x.cps.toList.length = x.length := by rw [Array.length_toList]; rfl
  have e : Builtin.Str.strSliceIndices l u 1 x.length = (List.range (min ((u.map Int.toNat).getD x.length) x.length - min (l.getD 0).toNat x.length)).map (min (l.getD 0).toNat x.length + ·) := by
    rw [← sliceRange_one]
    unfold Builtin.Str.strSliceIndices
    cases l with
    | none =>
      cases u with
      | none => simp
      | some j =>
        have := hu j rfl
        simp only [show (1 : Int) > 0 by decide, if_true, Option.getD_none, Option.map_some, Option.getD_some]
        rw [if_neg (by omega)]
        congr 1 <;> omega
    | some i =>
      have := hl i rfl
      cases u with
      | none =>
        simp only [show (1 : Int) > 0 by decide, if_true, Option.getD_none, Option.map_none, Option.getD_some]
        rw [if_neg (by omega)]
        congr 1 <;> omega
      | some j =>
        have := hu j rfl
        simp only [show (1 : Int) > 0 by decide, if_true, Option.map_some, Option.getD_some]
        rw [if_neg (by omega), if_neg (by omega)]
        congr 1 <;> omega
  have key : ((Builtin.Str.strSliceIndices l u 1 x.length).filterMap (x.cps[·]?)) = cutS x l u := by
    rw [e, pick_run]
    unfold cutS
    rw [← hxl, drop_min]
    generalize (l.getD 0).toNat = a
    generalize (u.map Int.toNat).getD x.cps.toList.length = b
    rcases Nat.le_total b x.cps.toList.length with h | h
    · rw [Nat.min_eq_left h]
      rcases Nat.le_total a x.cps.toList.length with h2 | h2
      · rw [Nat.min_eq_left h2]
      · rw [List.drop_of_length_le h2, List.take_nil, List.take_nil]
    · rw [Nat.min_eq_right h]
      rcases Nat.le_total a x.cps.toList.length with h2 | h2
      · rw [Nat.min_eq_left h2, List.take_of_length_le (by rw [List.length_drop]; omega), List.take_of_length_le (by rw [List.length_drop]; omega)]
      · rw [List.drop_of_length_le h2, List.take_nil, List.take_nil]
  unfold Txt.slice
  split
  · rename_i h
    simp only [Bool.and_eq_true, beq_iff_eq] at h
    have h2 := h.2
    have hlen : (cutS x l u).length = x.length := by
      rw [← key, e, pick_run]
      rw [e, List.length_map, List.length_range] at h2
      rw [List.length_take, List.length_drop, hxl]
      omega
    unfold cutS at hlen ⊢
    rw [List.length_take, List.length_drop, hxl] at hlen
    have ha : (l.getD 0).toNat = 0 ∨ x.length = 0 := by omega
    rcases ha with ha | ha
    · rw [ha, List.drop_zero, List.take_of_length_le (by rw [hxl]; omega)]
    · have : x.cps.toList = [] := List.length_eq_zero_iff.mp (by rw [hxl]; exact ha)
      rw [this, List.drop_nil, List.take_nil]
  · exact key
def rSlS : V → Option Int → Option Int → Hp → VK → Prop := fun x lo hi H Q => ∃ a, x = .str a ∧ a.length ≤ sizeLine ∧ (∀ i, lo = some i → 0 ≤ i) ∧ (∀ i, hi = some i → 0 ≤ i) ∧ ∀ z : Str, z.cps.toList = cutS a lo hi → Q (.str z) H
theorem sl_str : SlR X rSlS := by
  intro pins s σ H x v vl vu lo hi sl Q I rx hs pl pu h
  obtain ⟨a, rfl, hz, hl, hu, q⟩ := h
  obtain ⟨t, rfl⟩ := rx
  obtain ⟨l', el, el2⟩ : ∃ l' : Option (Int × Tok), vl = partValue l' ∧ l'.map (·.1) = lo := by
    cases pl with
    | none => exact ⟨none, rfl, rfl⟩
    | int i t => exact ⟨some (i, t), rfl, rfl⟩
  obtain ⟨u', eu, eu2⟩ : ∃ u' : Option (Int × Tok), vu = partValue u' ∧ u'.map (·.1) = hi := by
    cases pu with
    | none => exact ⟨none, rfl, rfl⟩
    | int i t => exact ⟨some (i, t), rfl, rfl⟩
  subst el; subst eu; subst el2; subst eu2
  refine ⟨"str", _, F.slot_str_getitem.lookup, typeIs_str _ _ _, wpAny_getItem_str_slice (l := l') (u := u') (st := none) hs rfl ?_⟩
  exact post_val_or_str ⟨Nat.le_trans (Txt.slice_le a _ _) hz, fun t' k => ⟨.str _, H, I.tok k, ⟨_, rfl⟩, q _ (slice_cps a hl hu)⟩⟩
end
end L2

namespace L2
open PySem PySem.Spec PyProof.Rows Ord
theorem ps_augR {X : Cx} {pos : Pos} {i : Nat} {x : Str} {e : Expr} {te : TE} {op : Operator} {ti : R2} {pos' : Pos} (hN : X.N.Nodup) (hi : X.N[i]? = some x) (hx : Loc X.env.scope x) (he : PE X e te) (ho : OpR X (inplaceOp op) ti) (hf : X.fn x = true ∨ X.env.scope.names.lookup x = some .local := by first | exact .inl rfl | exact .inr rfl | assumption) :
    PS X (.AugAssign (.Name x pos') op e pos) (tAug i te ti) := ps_aug hN hi hx he ho hf
theorem four_le : ([] : List V).length + 1 + 1 + 1 + 1 ≤ sizeLine := by decide
theorem one_leT : ([] : List V).length + 1 ≤ sizeLine := by decide
/-! ### breadth first, one after the other -/
section
variable {β γ : Type}
/-- the list behind k of its rows looked at -/
def exL (f : β → List β) (b : β) : Nat → List β
  | 0 => [b]
  | k + 1 => exL f b k ++ match (exL f b k)[k]? with
    | some x => f x
    | none => []
theorem exL_len (f : β → List β) (b : β) (k : Nat) : (exL f b k).length ≤ (exL f b (k + 1)).length := by
  show _ ≤ (exL f b k ++ _).length
  rw [List.length_append]; omega
theorem exL_map {f : β → List β} {g : γ → List γ} {m : β → γ} (h : ∀ x, (f x).map m = g (m x)) (b : β) : ∀ k, (exL f b k).map m = exL g (m b) k
  | 0 => rfl
  | k + 1 => by
    show (exL f b k ++ _).map m = exL g (m b) k ++ _
    rw [List.map_append, exL_map h b k, ← exL_map h b k, List.getElem?_map]
    cases (exL f b k)[k]? with
    | none => rfl
    | some x => show _ ++ (f x).map m = _ ++ g (m x); rw [h]
theorem exL_at {f : β → List β} {b : β} {k : Nat} (h : k < (exL f b k).length) : exL f b (k + 1) = exL f b k ++ f (exL f b k)[k] := by
  show exL f b k ++ _ = _
  rw [List.getElem?_eq_getElem h]
theorem exL_all {P : β → Prop} {f : β → List β} {b : β} (h0 : P b) (hf : ∀ x, P x → ∀ y ∈ f x, P y) : ∀ k, ∀ x ∈ exL f b k, P x
  | 0, x, hx => by rw [List.mem_singleton.mp hx]; exact h0
  | k + 1, x, hx => by
    rcases List.mem_append.mp hx with hx | hx
    · exact exL_all h0 hf k x hx
    · cases e : (exL f b k)[k]? with
      | none => rw [e] at hx; simp at hx
      | some y =>
        rw [e] at hx
        exact hf y (exL_all h0 hf k y (List.mem_of_getElem? e)) x hx
/-- the looking stops here: all are looked at, or there are too many -/
structure StopL (f : β → List β) (b : β) (k : Nat) : Prop where
  bef : ∀ j, j < k → j < (exL f b j).length ∧ (exL f b j).length ≤ 200
  at_ : (k = (exL f b k).length ∧ (exL f b k).length ≤ 200) ∨ 200 < (exL f b k).length
theorem StopL.map {f : β → List β} {g : γ → List γ} {m : β → γ} (h : ∀ x, (f x).map m = g (m x)) {b : β} {k : Nat} (s : StopL g (m b) k) : StopL f b k := by
  have e : ∀ k, (exL f b k).length = (exL g (m b) k).length := fun k => by rw [← exL_map h b k, List.length_map]
  exact ⟨fun j hj => by rw [e]; exact s.bef j hj, by rw [e]; exact s.at_⟩
end
/-! ### a net of plain steps -/
/-- steps as they lie in the heap -/
structure Stp (H : Hp) (ts : List Addr) (ss : List (Str × Nat)) : Prop where
  len : ts.length = ss.length
  at_ : ∀ (n : Nat) (t : Addr) (p : Str × Nat), ts[n]? = some t → ss[n]? = some p → H t = some (.tup [.str p.1, .str "to", .int (p.2 : Int)])
theorem Stp.nil {H : Hp} : Stp H [] [] := ⟨rfl, fun n t p h => by simp at h⟩
theorem Stp.same {H H' : Hp} {ts : List Addr} {ss : List (Str × Nat)} (e : Same H H') (h : Stp H ts ss) : Stp H' ts ss := ⟨h.len, fun n t p a b => e _ _ (h.at_ n t p a b)⟩
theorem Stp.updL {H : Hp} {D : Addr} {o : HO} {xs : List V} {ts : List Addr} {ss : List (Str × Nat)} (hD : H D = some (.lst xs)) (h : Stp H ts ss) : Stp (upd H D o) ts ss := ⟨h.len, fun n t p a b => by
  have := h.at_ n t p a b
  rw [upd_ne fun z => by rw [z, hD] at this; cases this]
  exact this⟩
theorem Stp.ins {H : Hp} {t : Addr} {ts : List Addr} {ss : List (Str × Nat)} {p : Str × Nat} {k : Nat} (h : Stp H ts ss) (hk : k ≤ ss.length) (e : H t = some (.tup [.str p.1, .str "to", .int (p.2 : Int)])) : Stp H (ts.take k ++ t :: ts.drop k) (ss.take k ++ p :: ss.drop k) := by
  have hl := h.len
  refine ⟨by simp [hl], fun n v q h1 h2 => ?_⟩
  have l1 : (ts.take k).length = k := by rw [List.length_take]; omega
  have l2 : (ss.take k).length = k := by rw [List.length_take]; omega
  rcases Nat.lt_trichotomy n k with c | c | c
  · rw [List.getElem?_append_left (by omega), List.getElem?_take_of_lt c] at h1
    rw [List.getElem?_append_left (by omega), List.getElem?_take_of_lt c] at h2
    exact h.at_ n v q h1 h2
  · subst c
    rw [List.getElem?_append_right (by omega), l1, Nat.sub_self] at h1
    rw [List.getElem?_append_right (by omega), l2, Nat.sub_self] at h2
    cases h1; cases h2
    exact e
  · obtain ⟨d, rfl⟩ : ∃ d, n = k + 1 + d := ⟨n - k - 1, by omega⟩
    rw [List.getElem?_append_right (by omega), l1, show k + 1 + d - k = d + 1 by omega, List.getElem?_cons_succ, List.getElem?_drop] at h1
    rw [List.getElem?_append_right (by omega), l2, show k + 1 + d - k = d + 1 by omega, List.getElem?_cons_succ, List.getElem?_drop] at h2
    exact h.at_ (k + d) v q h1 h2
theorem Stp.snoc {H : Hp} {t : Addr} {ts : List Addr} {ss : List (Str × Nat)} {p : Str × Nat} (h : Stp H ts ss) (e : H t = some (.tup [.str p.1, .str "to", .int (p.2 : Int)])) : Stp H (ts ++ [t]) (ss ++ [p]) := by
  have := h.ins (Nat.le_refl _) e
  have l := h.len
  rwa [List.take_of_length_le (by omega), List.drop_of_length_le (by omega), List.take_of_length_le (Nat.le_refl _), List.drop_of_length_le (Nat.le_refl _)] at this
/-- seven scopes: the lists of their steps are their own -/
structure Scn (H : Hp) (sc : Addr) (us as bs tl : List Addr) (lab nam : Str) (S : Nat → List (Str × Nat)) : Prop where
  top : H sc = some (.lst (us.map V.ref))
  lu : us.length = 7
  la : as.length = 7
  lb : bs.length = 7
  lt : tl.length = 7
  sco : ∀ i, i < 7 → H (us.getD i 0) = some (.tup [.ref (as.getD i 0), .ref (bs.getD i 0)])
  tel : ∀ i, i < 7 → H (bs.getD i 0) = some (.lst [.ref (tl.getD i 0)])
  tol : ∀ i, i < 7 → H (tl.getD i 0) = some (.tup [.str lab, .str nam, .str "thing", .int 0])
  stp : ∀ i, i < 7 → ∃ ts, H (as.getD i 0) = some (.lst (ts.map V.ref)) ∧ Stp H ts (S i)
  nd : as.Nodup
  nsc : sc ∉ as
  nbs : ∀ x ∈ bs, x ∉ as
theorem Scn.same {H H' : Hp} {sc : Addr} {us as bs tl : List Addr} {lab nam : Str} {S : Nat → List (Str × Nat)} (e : Same H H') (h : Scn H sc us as bs tl lab nam S) : Scn H' sc us as bs tl lab nam S :=
  ⟨e _ _ h.top, h.lu, h.la, h.lb, h.lt, fun i hi => e _ _ (h.sco i hi), fun i hi => e _ _ (h.tel i hi), fun i hi => e _ _ (h.tol i hi), fun i hi => let ⟨ts, a, b⟩ := h.stp i hi; ⟨ts, e _ _ a, b.same e⟩, h.nd, h.nsc, h.nbs⟩
theorem getD_mem0 {l : List Addr} {i : Nat} (h : i < l.length) : l.getD i 0 ∈ l := by
  rw [List.getD_eq_getElem?_getD, List.getElem?_eq_getElem h]; exact List.getElem_mem h
theorem getD_at0 {l : List Addr} {i : Nat} (h : i < l.length) : l[i]? = some (l.getD i 0) := by
  rw [List.getD_eq_getElem?_getD, List.getElem?_eq_getElem h]; rfl
def setF (S : Nat → List (Str × Nat)) (v : Nat) (l : List (Str × Nat)) : Nat → List (Str × Nat) := fun i => if i = v then l else S i
/-- the steps of the scope v are set anew -/
theorem Scn.set {H : Hp} {sc : Addr} {us as bs tl : List Addr} {lab nam : Str} {S : Nat → List (Str × Nat)} (h : Scn H sc us as bs tl lab nam S) {v : Nat} (hv : v < 7) {ts' : List Addr} {l : List (Str × Nat)} (hs : Stp H ts' l) : Scn (upd H (as.getD v 0) (.lst (ts'.map V.ref))) sc us as bs tl lab nam (setF S v l) := by
  obtain ⟨ts, ea, _⟩ := h.stp v hv
  have ma : as.getD v 0 ∈ as := getD_mem0 (by rw [h.la]; exact hv)
  have nt : ∀ {x : Addr} {ys : List V}, H x = some (.tup ys) → x ≠ as.getD v 0 := fun e z => by rw [z, ea] at e; cases e
  refine ⟨by rw [upd_ne (show sc ≠ as.getD v 0 from fun z => h.nsc (by rw [z]; exact ma))]; exact h.top, h.lu, h.la, h.lb, h.lt, fun i hi => by rw [upd_ne (nt (h.sco i hi))]; exact h.sco i hi, fun i hi => by rw [upd_ne (show bs.getD i 0 ≠ as.getD v 0 from fun z => h.nbs _ (getD_mem0 (by rw [h.lb]; exact hi)) (by rw [z]; exact ma))]; exact h.tel i hi, fun i hi => by rw [upd_ne (nt (h.tol i hi))]; exact h.tol i hi, fun i hi => ?_, h.nd, h.nsc, h.nbs⟩
  by_cases e : i = v
  · subst e
    refine ⟨ts', upd_same, ?_⟩
    unfold setF
    rw [if_pos rfl]; exact hs.updL ea
  · obtain ⟨t2, e2, s2⟩ := h.stp i hi
    refine ⟨t2, ?_, ?_⟩
    · rw [upd_ne]; exact e2
      intro z
      have l1 : i < as.length := by rw [h.la]; exact hi
      have l2 : v < as.length := by rw [h.la]; exact hv
      rw [List.getD_eq_getElem?_getD, List.getElem?_eq_getElem l1, List.getD_eq_getElem?_getD, List.getElem?_eq_getElem l2] at z
      exact e ((List.getElem_inj h.nd).mp z)
    · unfold setF
      rw [if_neg e]; exact s2.updL ea
structure NetC (H : Hp) (n : Addr) (lab nam : Str) (S : Nat → List (Str × Nat)) : Prop where
  ex : ∃ sc th qu us as bs tl, H n = some (.tup [.ref sc, .ref th, .ref qu]) ∧ Scn H sc us as bs tl lab nam S
  le : ∀ i, i < 7 → (S i).length ≤ 8 ∧ ∀ x ∈ S i, x.2 < 7
theorem NetC.same {H H' : Hp} {n : Addr} {lab nam : Str} {S : Nat → List (Str × Nat)} (e : Same H H') (h : NetC H n lab nam S) : NetC H' n lab nam S :=
  ⟨let ⟨sc, th, qu, us, as, bs, tl, a, b⟩ := h.ex; ⟨sc, th, qu, us, as, bs, tl, e _ _ a, b.same e⟩, h.le⟩
/-- the table: one state that goes by one label to itself -/
structure TabC (H : Hp) (t : Addr) (lab : Str) : Prop where
  ex : ∃ a o u g e gt, H t = some (.tup [.ref a, .int 0, .ref o]) ∧ H a = some (.lst [.ref u]) ∧ H u = some (.tup [.ref g, .ref e]) ∧ H g = some (.lst [.ref gt]) ∧ H gt = some (.tup [.str lab, .int 0]) ∧ H e = some (.lst [.str lab])
theorem TabC.same {H H' : Hp} {t : Addr} {lab : Str} (s : Same H H') (h : TabC H t lab) : TabC H' t lab :=
  ⟨let ⟨a, o, u, g, e, gt, h1, h2, h3, h4, h5, h6⟩ := h.ex; ⟨a, o, u, g, e, gt, s _ _ h1, s _ _ h2, s _ _ h3, s _ _ h4, s _ _ h5, s _ _ h6⟩⟩
/-- the steps gone: their places and goals -/
def goneN (lab : Str) : Nat → List (Str × Nat) → List (Nat × Nat)
  | _, [] => []
  | i, p :: r => if p.1 = lab then (i, p.2) :: goneN lab (i + 1) r else goneN lab (i + 1) r
theorem goneN_snoc (lab : Str) : ∀ (l : List (Str × Nat)) (i : Nat) (p : Str × Nat), goneN lab i (l ++ [p]) = goneN lab i l ++ if p.1 = lab then [(i + l.length, p.2)] else []
  | [], i, p => by
    show (if p.1 = lab then [(i, p.2)] else []) = _
    simp [goneN]
  | q :: r, i, p => by
    have ih := goneN_snoc lab r (i + 1) p
    show (if q.1 = lab then (i, q.2) :: goneN lab (i + 1) (r ++ [p]) else goneN lab (i + 1) (r ++ [p])) = (if q.1 = lab then (i, q.2) :: goneN lab (i + 1) r else goneN lab (i + 1) r) ++ _
    rw [ih, List.length_cons, show i + (r.length + 1) = i + 1 + r.length by omega]
    split <;> simp
theorem goneN_len (lab : Str) : ∀ (l : List (Str × Nat)) (i : Nat), (goneN lab i l).length ≤ l.length
  | [], _ => Nat.le_refl _
  | q :: r, i => by
    have := goneN_len lab r (i + 1)
    show (if q.1 = lab then (i, q.2) :: goneN lab (i + 1) r else goneN lab (i + 1) r).length ≤ r.length + 1
    split
    · rw [List.length_cons]; omega
    · omega
theorem goneN_mem {lab : Str} : ∀ {l : List (Str × Nat)} {i : Nat} {x : Nat × Nat}, x ∈ goneN lab i l → ∃ p ∈ l, x.2 = p.2
  | [], _, _, h => by simp [goneN] at h
  | q :: r, i, x, h => by
    have h : x ∈ (if q.1 = lab then (i, q.2) :: goneN lab (i + 1) r else goneN lab (i + 1) r) := h
    split at h
    · rcases List.mem_cons.mp h with rfl | h
      · exact ⟨q, by simp, rfl⟩
      · obtain ⟨p, h1, h2⟩ := goneN_mem h
        exact ⟨p, List.mem_cons_of_mem _ h1, h2⟩
    · obtain ⟨p, h1, h2⟩ := goneN_mem h
      exact ⟨p, List.mem_cons_of_mem _ h1, h2⟩
theorem goneN_snd (lab : Str) : ∀ (l : List (Str × Nat)) (i : Nat), (goneN lab i l).map (·.2) = (l.filter fun p => decide (p.1 = lab)).map (·.2)
  | [], _ => rfl
  | q :: r, i => by
    have ih := goneN_snd lab r (i + 1)
    show (if q.1 = lab then (i, q.2) :: goneN lab (i + 1) r else goneN lab (i + 1) r).map _ = _
    by_cases e : q.1 = lab
    · rw [if_pos e, List.filter_cons_of_pos (by simpa using e), List.map_cons, List.map_cons, ih]
    · rw [if_neg e, List.filter_cons_of_neg (by simpa using e), ih]
/-! ### beginnings: marks, and where they come to -/
abbrev Bgn : Type := List (Nat × Nat) × Nat
abbrev scp (b : Bgn) : List Nat := b.1.map (·.1) ++ [b.2]
def kidB (lab : Str) (S : Nat → List (Str × Nat)) (b : Bgn) : List Bgn := ((goneN lab 0 (S b.2)).filter fun x => decide (x.2 ∉ scp b)).map fun x => (b.1 ++ [(b.2, x.1)], x.2)
def kidP (lab : Str) (S : Nat → List (Str × Nat)) (p : List Nat) : List (List Nat) := (((S (p.getLast?.getD 0)).filter fun q => decide (q.1 = lab)).filter fun q => decide (q.2 ∉ p)).map fun q => p ++ [q.2]
theorem kid_scp (lab : Str) (S : Nat → List (Str × Nat)) (b : Bgn) : (kidB lab S b).map scp = kidP lab S (scp b) := by
  have el : (scp b).getLast?.getD 0 = b.2 := by simp [scp]
  unfold kidB kidP
  rw [el, List.map_map]
  have e2 : ∀ (l : List (Nat × Nat)) (m : List (Str × Nat)), l.map (·.2) = m.map (·.2) → (l.filter fun x => decide (x.2 ∉ scp b)).map (scp ∘ fun x => (b.1 ++ [(b.2, x.1)], x.2)) = (m.filter fun q => decide (q.2 ∉ scp b)).map fun q => scp b ++ [q.2] := by
    intro l
    induction l with
    | nil => intro m h; cases m with
      | nil => rfl
      | cons _ _ => simp at h
    | cons x l ih =>
      intro m h
      cases m with
      | nil => simp at h
      | cons q m =>
        simp only [List.map_cons, List.cons.injEq] at h
        have := ih m h.2
        by_cases c : x.2 ∉ scp b
        · rw [List.filter_cons_of_pos (by simpa using c), List.filter_cons_of_pos (by rw [← h.1]; simpa using c), List.map_cons, List.map_cons, this]
          congr 1
          simp [scp, h.1]
        · rw [List.filter_cons_of_neg (by simpa using c), List.filter_cons_of_neg (by rw [← h.1]; simpa using c), this]
  exact e2 _ _ (goneN_snd lab _ 0)
theorem kidB_len {lab : Str} {S : Nat → List (Str × Nat)} {b : Bgn} (h : (S b.2).length ≤ 8) : (kidB lab S b).length ≤ 8 := by
  unfold kidB
  rw [List.length_map]
  exact Nat.le_trans (List.length_filter_le _ _) (Nat.le_trans (goneN_len _ _ _) h)
/-- marks in the heap -/
structure Mks (H : Hp) (ts : List Addr) (ms : List (Nat × Nat)) : Prop where
  len : ts.length = ms.length
  at_ : ∀ (n : Nat) (t : Addr) (p : Nat × Nat), ts[n]? = some t → ms[n]? = some p → H t = some (.tup [.int (p.1 : Int), .str "step", .int (p.2 : Int)])
theorem Mks.nil {H : Hp} : Mks H [] [] := ⟨rfl, fun n t p h => by simp at h⟩
theorem Mks.same {H H' : Hp} {ts : List Addr} {ms : List (Nat × Nat)} (e : Same H H') (h : Mks H ts ms) : Mks H' ts ms := ⟨h.len, fun n t p a b => e _ _ (h.at_ n t p a b)⟩
theorem Mks.updL {H : Hp} {D : Addr} {o : HO} {xs : List V} {ts : List Addr} {ss : List (Nat × Nat)} (hD : H D = some (.lst xs)) (h : Mks H ts ss) : Mks (upd H D o) ts ss := ⟨h.len, fun n t p a b => by
  have := h.at_ n t p a b
  rw [upd_ne fun z => by rw [z, hD] at this; cases this]
  exact this⟩
theorem Mks.snoc {H : Hp} {t : Addr} {ts : List Addr} {ms : List (Nat × Nat)} {p : Nat × Nat} (h : Mks H ts ms) (e : H t = some (.tup [.int (p.1 : Int), .str "step", .int (p.2 : Int)])) : Mks H (ts ++ [t]) (ms ++ [p]) := by
  refine ⟨by rw [List.length_append, List.length_append, h.len]; rfl, fun n v q h1 h2 => ?_⟩
  rcases Nat.lt_or_ge n ts.length with hlt | hge
  · rw [List.getElem?_append_left hlt] at h1
    rw [List.getElem?_append_left (by rw [← h.len]; exact hlt)] at h2
    exact h.at_ n v q h1 h2
  · have hn1 : n < (ts ++ [t]).length := (List.getElem?_eq_some_iff.mp h1).1
    rw [List.length_append, List.length_singleton] at hn1
    have e' : n = ts.length := by omega
    subst e'
    rw [List.getElem?_append_right (Nat.le_refl _), Nat.sub_self] at h1
    rw [List.getElem?_append_right (by rw [h.len]; exact Nat.le_refl _), h.len, Nat.sub_self] at h2
    cases h1; cases h2
    exact e
abbrev mkE : Enc := tripE intE strE intE
abbrev begE : Enc := tripE (listE mkE) intE intE
abbrev mkO (p : Nat × Nat) : mkE.O.α := ((p.1 : Int), "step", (p.2 : Int))
theorem Mks.dts {K : PySem.W.Frag} {H : Hp} {ts : List Addr} {ms : List (Nat × Nat)} (h : Mks H ts ms) : IsDts K H (ts.map V.ref) ((ms.map mkO).map mkE.D) := by
  refine IsDts.of_get (by simpa using h.len) fun n v d e1 e2 => ?_
  rw [List.getElem?_map] at e1 e2
  obtain ⟨t, h1, rfl⟩ := Option.map_eq_some_iff.mp e1
  obtain ⟨o, h2, rfl⟩ := Option.map_eq_some_iff.mp e2
  rw [List.getElem?_map] at h2
  obtain ⟨p, h3, rfl⟩ := Option.map_eq_some_iff.mp h2
  exact .tup (SqT.of (h.at_ n t p h1 h3)) (.cons (.int _) (.cons (.str _) (.cons (.int _) .nil)))
/-- a beginning in the heap -/
def BgC (H : Hp) (a : Addr) (b : Bgn) : Prop := ∃ ml ts, H a = some (.tup [.ref ml, .int (b.2 : Int), .int 0]) ∧ H ml = some (.lst (ts.map V.ref)) ∧ Mks H ts b.1
theorem BgC.same {H H' : Hp} {a : Addr} {b : Bgn} (e : Same H H') (h : BgC H a b) : BgC H' a b := let ⟨ml, ts, h1, h2, h3⟩ := h; ⟨ml, ts, e _ _ h1, e _ _ h2, h3.same e⟩
abbrev bgO (b : Bgn) : begE.O.α := (b.1.map mkO, (b.2 : Int), 0)
theorem BgC.dt {K : PySem.W.Frag} {H : Hp} {a : Addr} {b : Bgn} (h : BgC H a b) : IsDt K H (.ref a) (begE.D (bgO b)) := by
  obtain ⟨ml, ts, h1, h2, h3⟩ := h
  exact .tup (SqT.of h1) (.cons (.lst (SqL.of h2) h3.dts) (.cons (.int _) (.cons (.int _) .nil)))
theorem comp_rangeT {k : Nat} {caps : List Nat} {g : TG} {tc : TT} {te : TE} {σ : St} {H1 : Hp} {Q : Addr → Hp → Prop} {lo : Int} {n : Nat} (Pv : Addr → Nat → List V → Hp → Prop)
    (h0 : ∀ D, H1 D = none → Pv D 0 [] (upd H1 D (.lst [])))
    (hs : ∀ (D : Addr) (i : Nat) (ys : List V) (H2 : Hp) (R : VK) (R0 : Hp → Prop), H1 D = none → i < n → Pv D i ys H2 → (∀ y H6, H6 D = some (.lst ys) → ys.length < sizeLine → Pv D (i + 1) (ys ++ [y]) (upd H6 D (.lst (ys ++ [y]))) → R y H6) → (∀ H5, Pv D (i + 1) ys H5 → R0 H5) → g (.int (lo + i)) (compSt k caps σ) H2 fun σ4 H4 => tc σ4 H4 fun b H5 => if b = true then te σ4 H5 R else R0 H5)
    (hd : ∀ D ys H2, H1 D = none → Pv D n ys H2 → Q D H2) :
    ∀ D, H1 D = none → ∃ W : Nat → Nat → List V → Hp → Prop, (∃ m, W 0 m [] (upd H1 D (.lst []))) ∧ ∀ i m ys H2, W i m ys H2 →
      ((Itr lo n).stop i H2 ∧ Q D H2) ∨ ((Itr lo n).go i H2 ∧ ∀ x H3, (Itr lo n).yld i H2 x H3 → g x (compSt k caps σ) H3 fun σ4 H4 => tc σ4 H4 fun b H5 =>
        if b = true then te σ4 H5 fun y H6 => H6 D = some (.lst ys) ∧ ys.length < sizeLine ∧ ∃ m', m' < m ∧ W (i + 1) m' (ys ++ [y]) (upd H6 D (.lst (ys ++ [y]))) else ∃ m', m' < m ∧ W (i + 1) m' ys H5) := by
  intro D hD
  refine ⟨fun i m ys H2 => m = n - i ∧ i ≤ n ∧ Pv D i ys H2, ⟨n, rfl, Nat.zero_le _, h0 D hD⟩, ?_⟩
  rintro i m ys H2 ⟨rfl, hi, p⟩
  by_cases hlt : i < n
  · refine .inr ⟨hlt, fun x H3 y => ?_⟩
    obtain ⟨rfl, rfl⟩ := y
    refine hs D i ys H3 _ _ hD hlt p (fun v H6 e6 hz p6 => ?_) (fun H5 p5 => ?_)
    · exact ⟨e6, hz, n - (i + 1), by omega, rfl, hlt, p6⟩
    · exact ⟨n - (i + 1), by omega, rfl, hlt, p5⟩
  · have e : i = n := by omega
    subst e
    exact .inl ⟨Nat.le_refl _, hd D ys H2 hD p⟩
/-! ### rows of a net to be made: from, to, how many -/
abbrev Rw3 : Type := Nat × Nat × Nat
structure RwC (H : Hp) (ts : List Addr) (rs : List Rw3) : Prop where
  len : ts.length = rs.length
  at_ : ∀ (n : Nat) (t : Addr) (p : Rw3), ts[n]? = some t → rs[n]? = some p → H t = some (.tup [.int (p.1 : Int), .int (p.2.1 : Int), .int (p.2.2 : Int)])
theorem RwC.nil {H : Hp} : RwC H [] [] := ⟨rfl, fun n t p h => by simp at h⟩
theorem RwC.same {H H' : Hp} {ts : List Addr} {rs : List Rw3} (e : Same H H') (h : RwC H ts rs) : RwC H' ts rs := ⟨h.len, fun n t p a b => e _ _ (h.at_ n t p a b)⟩
theorem RwC.updL {H : Hp} {D : Addr} {o : HO} {xs : List V} {ts : List Addr} {rs : List Rw3} (hD : H D = some (.lst xs)) (h : RwC H ts rs) : RwC (upd H D o) ts rs := ⟨h.len, fun n t p a b => by
  have := h.at_ n t p a b
  rw [upd_ne fun z => by rw [z, hD] at this; cases this]
  exact this⟩
theorem RwC.app {H : Hp} {ts us : List Addr} {rs qs : List Rw3} (h : RwC H ts rs) (k : RwC H us qs) : RwC H (ts ++ us) (rs ++ qs) := by
  refine ⟨by rw [List.length_append, List.length_append, h.len, k.len], fun n t p a b => ?_⟩
  rcases Nat.lt_or_ge n ts.length with c | c
  · rw [List.getElem?_append_left c] at a
    rw [List.getElem?_append_left (by rw [← h.len]; exact c)] at b
    exact h.at_ n t p a b
  · rw [List.getElem?_append_right c] at a
    rw [List.getElem?_append_right (by rw [← h.len]; exact c), ← h.len] at b
    exact k.at_ _ t p a b
theorem RwC.one {H : Hp} {t : Addr} {p : Rw3} (e : H t = some (.tup [.int (p.1 : Int), .int (p.2.1 : Int), .int (p.2.2 : Int)])) : RwC H [t] [p] := ⟨rfl, fun n u q a b => by
  cases n with
  | zero => cases a; cases b; exact e
  | succ n => simp at a⟩
def tot (v : Nat) : List Rw3 → Nat
  | [] => 0
  | r :: l => (if r.1 = v then r.2.2 else 0) + tot v l
theorem tot_app (v : Nat) : ∀ (l m : List Rw3), tot v (l ++ m) = tot v l + tot v m
  | [], m => by simp [tot]
  | r :: l, m => by
    show (if r.1 = v then r.2.2 else 0) + tot v (l ++ m) = _
    rw [tot_app v l m]
    show _ = (if r.1 = v then r.2.2 else 0) + tot v l + tot v m
    omega
theorem tot_no {v : Nat} : ∀ {l : List Rw3}, (∀ r ∈ l, r.1 ≠ v) → tot v l = 0
  | [], _ => rfl
  | r :: l, h => by
    show (if r.1 = v then r.2.2 else 0) + tot v l = 0
    rw [if_neg (h r (by simp)), tot_no fun x hx => h x (List.mem_cons_of_mem _ hx)]
theorem tot_le {v b : Nat} : ∀ {l : List Rw3}, (∀ r ∈ l, r.2.2 ≤ b) → tot v l ≤ b * l.length
  | [], _ => Nat.zero_le _
  | r :: l, h => by
    have h1 := h r (by simp)
    have h2 := tot_le (v := v) (l := l) fun x hx => h x (List.mem_cons_of_mem _ hx)
    show (if r.1 = v then r.2.2 else 0) + tot v l ≤ b * (l.length + 1)
    rw [Nat.mul_add, Nat.mul_one]
    split <;> omega
structure Rwz (rs : List Rw3) : Prop where
  lt : ∀ r ∈ rs, r.1 < 7 ∧ r.2.1 < 7
  le : ∀ v, tot v rs ≤ 8
  len : rs.length ≤ 60
/-! ### paths of scopes -/
theorem stop_more {β : Type} {f : β → List β} {b : β} {j : Nat} (h : ∀ i, i < j → i < (exL f b i).length ∧ (exL f b i).length ≤ 200) (hj : ¬ (j < (exL f b j).length ∧ (exL f b j).length ≤ 200)) : StopL f b j := by
  refine ⟨h, ?_⟩
  have hle : j ≤ (exL f b j).length := by
    cases j with
    | zero => exact Nat.zero_le _
    | succ j =>
      have h1 := (h j (Nat.lt_succ_self j)).1
      have h2 := exL_len f b j
      omega
  omega
theorem TabC.updL {H : Hp} {x : Addr} {o : HO} {xs : List V} {t : Addr} {lab : Str} (hx : H x = some (.lst xs)) (h : ∃ a o u g e gt, H t = some (.tup [.ref a, .int 0, .ref o]) ∧ H a = some (.lst [.ref u]) ∧ H u = some (.tup [.ref g, .ref e]) ∧ H g = some (.lst [.ref gt]) ∧ H gt = some (.tup [.str lab, .int 0]) ∧ H e = some (.lst [.str lab]) ∧ a ≠ x ∧ g ≠ x ∧ e ≠ x) : TabC (upd H x o) t lab := by
  obtain ⟨a, o', u, g, e, gt, h1, h2, h3, h4, h5, h6, n1, n2, n3⟩ := h
  have nt : ∀ {y : Addr} {ys : List V}, H y = some (.tup ys) → y ≠ x := fun e z => by rw [z, hx] at e; cases e
  exact ⟨a, o', u, g, e, gt, by rw [upd_ne (nt h1)]; exact h1, by rw [upd_ne n1]; exact h2, by rw [upd_ne (nt h3)]; exact h3, by rw [upd_ne n2]; exact h4, by rw [upd_ne (nt h5)]; exact h5, by rw [upd_ne n3]; exact h6⟩
/-! ### the facts of the own errors, as they are asked of the part that is written out -/
theorem cls_of_mro {K : PySem.W.Frag} {C : Addr} {v : Value} {b : Bool} (h : PySem.W.mroIn K C v = some b) : (PySem.W.clsIn K C).isSome = true := by
  obtain ⟨cd, a, _⟩ := Option.bind_eq_some_iff.mp h
  rw [a]; rfl
theorem excCls_of {K : PySem.W.Frag} {C : Addr} (p : PySem.W.findIn K (.ref C) "__getattribute__" = some (some (.builtin "BaseException.__getattribute__"))) (p2 : PySem.W.findIn K (.ref C) "__getattr__" = some none) (p3 : PySem.W.mroIn K C (.type "BaseException") = some true) (q : PySem.W.findIn K (.ref C) "__class__" = some (some (.builtin "object.__class__"))) (hn : PySem.W.specialIn K (.builtin "object.__class__") "__get__" = some (some (.builtin "getset_descriptor.__get__"))) (ht : PySem.W.takesIn K (.builtin "object.__class__") = some true) (m : PySem.W.mroIn K C (.type "object") = some true) : ExcCls K C :=
  ⟨p, p2, p3, cls_of_mro m, q, hn, ht, m⟩
theorem sub_of_mro {K : PySem.W.Frag} {C Cp : Addr} (h : PySem.W.mroIn K C (.ref Cp) = some true) : L2.subIn K C Cp = true := by
  obtain ⟨cd, a, b⟩ := Option.bind_eq_some_iff.mp h
  unfold PySem.W.clsIn at a
  unfold L2.subIn
  split at a
  · rename_i ho
    cases a
    rw [ho]
    show cd.mro.contains (.ref Cp) = true
    split at b
    · cases b
    · exact Option.some.inj b
  · cases a
theorem askB_of {K : PySem.W.Frag} {C C2 : Addr} {b : Bool} (o : PySem.W.mroIn K C2 (.type "object") = some true) (t : PySem.W.typeIn K (.ref C2) = some (.type "type")) (r : PySem.W.subIn K (.ref C) (.ref C2) = some b) : askB K C C2 b = true := by
  unfold askB
  rw [cls_of_mro o, t, r]
  simp
end L2

namespace K22
open PySem PySem.Spec PyProof.Rows L2 Ord
def top (i : Nat) : Stmt := PySem.Challenge.pw_namepaths_k22_looks_that_are_tangled.main.body.getD i (.Pass ⟨0, 0, 0, 0⟩)
abbrev s__law_cell_at : Stmt := top 30
theorem sc__law_cell_at : FnScope ["_law_script", "_law_k"] ["_law_script", "_law_k"] (defScope s__law_cell_at) := ⟨rfl, rfl, rfl, by decide +kernel, rfl, by decide +kernel, by decide +kernel⟩
abbrev s__law_net : Stmt := top 32
theorem sc__law_net : FnScope ["_law_rows_here", "_law_turn", "_law_label", "_law_name", "_law_scopes", "_law_one", "_law_other", "_law_many", "_law_k", "_law_steps", "_law_tellings"] ["_law_rows_here", "_law_turn", "_law_label", "_law_name"] (defScope s__law_net) := ⟨rfl, rfl, rfl, by decide +kernel, rfl, by decide +kernel, by decide +kernel⟩
theorem _law_net_cs1 : CompScope (defScope s__law_net) ["_law_rows_here", "_law_turn", "_law_label", "_law_name", "_law_scopes", "_law_one", "_law_other", "_law_many", "_law_k", "_law_steps", "_law_tellings"] { kind := PySem.ScopeKind.function, names := [ (PySem.Str.ofString ".0", PySem.NameKind.local), (PySem.Str.ofString "_law_k", PySem.NameKind.local), (PySem.Str.ofString "_law_label", PySem.NameKind.free), (PySem.Str.ofString "_law_name", PySem.NameKind.free)], isGenerator := false, isCoroutine := false, more := [] : PySem.Scope } ["_law_k", "_law_label", "_law_name"] 1 [2, 3] := ⟨rfl, by decide +kernel, by decide +kernel, by decide +kernel, rfl, by decide +kernel, by decide +kernel⟩
abbrev s__law_rows : Stmt := top 31
theorem sc__law_rows : FnScope ["_law_script", "_law_way", "_law_many", "_law_rows_here", "_law_k", "_law_cell"] ["_law_script"] (defScope s__law_rows) := ⟨rfl, rfl, rfl, by decide +kernel, rfl, by decide +kernel, by decide +kernel⟩
theorem _law_rows_cs1 : CompScope (defScope s__law_rows) ["_law_script", "_law_way", "_law_many", "_law_rows_here", "_law_k", "_law_cell"] { kind := PySem.ScopeKind.function, names := [ (PySem.Str.ofString ".0", PySem.NameKind.local), (PySem.Str.ofString "_law_j", PySem.NameKind.local), (PySem.Str.ofString "_law_k", PySem.NameKind.free)], isGenerator := false, isCoroutine := false, more := [] : PySem.Scope } ["_law_j", "_law_k"] 1 [4] := ⟨rfl, by decide +kernel, by decide +kernel, by decide +kernel, rfl, by decide +kernel, by decide +kernel⟩
abbrev s_next_state : Stmt := top 18
theorem sc_next_state : FnScope ["table", "state", "label", "goes", "known", "number"] ["table", "state", "label"] (defScope s_next_state) := ⟨rfl, rfl, rfl, by decide +kernel, rfl, by decide +kernel, by decide +kernel⟩
abbrev s_inside_of_sort : Stmt := top 16
theorem sc_inside_of_sort : FnScope ["net", "answers", "question", "answer", "kind", "number"] ["net", "answers", "question"] (defScope s_inside_of_sort) := ⟨rfl, rfl, rfl, by decide +kernel, rfl, by decide +kernel, by decide +kernel⟩
abbrev s_inside : Stmt := top 14
theorem sc_inside : FnScope ["net", "answers", "thing", "kind", "number"] ["net", "answers", "thing"] (defScope s_inside) := ⟨rfl, rfl, rfl, by decide +kernel, rfl, by decide +kernel, by decide +kernel⟩
abbrev s_goal : Stmt := top 15
theorem sc_goal : FnScope ["net", "answers", "step", "label", "kind", "number", "answer"] ["net", "answers", "step"] (defScope s_goal) := ⟨rfl, rfl, rfl, by decide +kernel, rfl, by decide +kernel, by decide +kernel⟩
abbrev s_steps_gone : Stmt := top 28
theorem sc_steps_gone : FnScope ["net", "answers", "table", "scope", "state", "gone", "index", "step", "after", "kind", "number"] ["net", "answers", "table", "scope", "state"] (defScope s_steps_gone) := ⟨rfl, rfl, rfl, by decide +kernel, rfl, by decide +kernel, by decide +kernel⟩
abbrev s_longer_by_a_step : Stmt := top 27
theorem sc_longer_by_a_step : FnScope ["net", "answers", "table", "beginning", "marks", "last", "then", "come_to", "longer", "mark", "kind", "number", "after"] ["net", "answers", "table", "beginning"] (defScope s_longer_by_a_step) := ⟨rfl, rfl, rfl, by decide +kernel, rfl, by decide +kernel, by decide +kernel⟩
theorem longer_by_a_step_cs1 : CompScope (defScope s_longer_by_a_step) ["net", "answers", "table", "beginning", "marks", "last", "then", "come_to", "longer", "mark", "kind", "number", "after"] { kind := PySem.ScopeKind.function, names := [(PySem.Str.ofString ".0", PySem.NameKind.local), (PySem.Str.ofString "mark", PySem.NameKind.local)], isGenerator := false, isCoroutine := false, more := [] : PySem.Scope } ["mark"] 1 [] := ⟨rfl, by decide +kernel, by decide +kernel, by decide +kernel, rfl, by decide +kernel, by decide +kernel⟩
abbrev s_beginnings : Stmt := top 22
theorem sc_beginnings : FnScope ["net", "answers", "table", "scope", "state", "found", "place"] ["net", "answers", "table", "scope", "state"] (defScope s_beginnings) := ⟨rfl, rfl, rfl, by decide +kernel, rfl, by decide +kernel, by decide +kernel⟩
abbrev s_has_end : Stmt := top 19
theorem sc_has_end : FnScope ["table", "state", "label", "ends"] ["table", "state", "label"] (defScope s_has_end) := ⟨rfl, rfl, rfl, by decide +kernel, rfl, by decide +kernel, by decide +kernel⟩
abbrev s_found_behind : Stmt := top 25
theorem sc_found_behind : FnScope ["net", "table", "begun", "name", "ways", "marks", "last", "then", "index", "telling"] ["net", "table", "begun", "name"] (defScope s_found_behind) := ⟨rfl, rfl, rfl, by decide +kernel, rfl, by decide +kernel, by decide +kernel⟩
abbrev s_found_ways : Stmt := top 23
theorem sc_found_ways : FnScope ["net", "answers", "table", "scope", "state", "name"] ["net", "answers", "table", "scope", "state", "name"] (defScope s_found_ways) := ⟨rfl, rfl, rfl, by decide +kernel, rfl, by decide +kernel, by decide +kernel⟩
abbrev s_owed_behind : Stmt := top 26
theorem sc_owed_behind : FnScope ["net", "answers", "table", "begun", "ways", "marks", "last", "then", "mark", "kind", "number", "after"] ["net", "answers", "table", "begun"] (defScope s_owed_behind) := ⟨rfl, rfl, rfl, by decide +kernel, rfl, by decide +kernel, by decide +kernel⟩
abbrev s_owed_ways : Stmt := top 24
theorem sc_owed_ways : FnScope ["net", "answers", "table", "scope", "state"] ["net", "answers", "table", "scope", "state"] (defScope s_owed_ways) := ⟨rfl, rfl, rfl, by decide +kernel, rfl, by decide +kernel, by decide +kernel⟩
abbrev s__law_asked : Stmt := top 34
theorem sc__law_asked : FnScope ["_law_net_here", "_law_table", "_law_scope", "_law_way", "_law_name"] ["_law_net_here", "_law_table", "_law_scope", "_law_way", "_law_name"] (defScope s__law_asked) := ⟨rfl, rfl, rfl, by decide +kernel, rfl, by decide +kernel, by decide +kernel⟩
abbrev s__law_kinds_of : Stmt := top 35
theorem sc__law_kinds_of : FnScope ["_law_net_here", "_law_table", "_law_scope", "_law_way", "_law_name", "_law_kinds", "e"] ["_law_net_here", "_law_table", "_law_scope", "_law_way", "_law_name"] (defScope s__law_kinds_of) := ⟨rfl, rfl, rfl, by decide +kernel, rfl, by decide +kernel, by decide +kernel⟩
abbrev s__law_right : Stmt := top 36
theorem sc__law_right : FnScope ["_law_net_here", "_law_table", "_law_scope", "_law_name", "_law_many", "_law_due"] ["_law_net_here", "_law_table", "_law_scope", "_law_name", "_law_many"] (defScope s__law_right) := ⟨rfl, rfl, rfl, by decide +kernel, rfl, by decide +kernel, by decide +kernel⟩
theorem _law_right_cs1 : CompScope (defScope s__law_right) ["_law_net_here", "_law_table", "_law_scope", "_law_name", "_law_many", "_law_due"] { kind := PySem.ScopeKind.function, names := [(PySem.Str.ofString ".0", PySem.NameKind.local), (PySem.Str.ofString "_law_k", PySem.NameKind.local)], isGenerator := false, isCoroutine := false, more := [] : PySem.Scope } ["_law_k"] 1 [] := ⟨rfl, by decide +kernel, by decide +kernel, by decide +kernel, rfl, by decide +kernel, by decide +kernel⟩
theorem _law_right_cs2 : CompScope (defScope s__law_right) ["_law_net_here", "_law_table", "_law_scope", "_law_name", "_law_many", "_law_due"] { kind := PySem.ScopeKind.function, names := [ (PySem.Str.ofString ".0", PySem.NameKind.local), (PySem.Str.ofString "_law_way", PySem.NameKind.local), (PySem.Str.ofString "_law_kinds_of", PySem.NameKind.globalImplicit), (PySem.Str.ofString "_law_due", PySem.NameKind.free), (PySem.Str.ofString "_law_name", PySem.NameKind.free), (PySem.Str.ofString "_law_net_here", PySem.NameKind.free), (PySem.Str.ofString "_law_scope", PySem.NameKind.free), (PySem.Str.ofString "_law_table", PySem.NameKind.free)], isGenerator := false, isCoroutine := false, more := [] : PySem.Scope } ["_law_way", "_law_due", "_law_net_here", "_law_table", "_law_scope", "_law_name"] 1 [5, 0, 1, 2, 3] := ⟨rfl, by decide +kernel, by decide +kernel, by decide +kernel, rfl, by decide +kernel, by decide +kernel⟩
abbrev s__law_count : Stmt := top 33
theorem sc__law_count : FnScope ["_law_net_here", "_law_label", "_law_scope", "_law_rows_here", "_law_at", "_law_been", "_law_word", "_law_kind", "_law_number"] ["_law_net_here", "_law_label", "_law_scope"] (defScope s__law_count) := ⟨rfl, rfl, rfl, by decide +kernel, rfl, by decide +kernel, by decide +kernel⟩
abbrev s_law : Stmt := top 37
theorem sc_law : FnScope ["_law_script", "_law_label", "_law_name", "_law_turn", "_law_net_here", "_law_table"] ["_law_script"] (defScope s_law) := ⟨rfl, rfl, rfl, by decide +kernel, rfl, by decide +kernel, by decide +kernel⟩
structure Blt (mg : Str → Option Value) : Prop where
  b_ValueError : mg "ValueError" = none
  b_all : mg "all" = none
  b_enumerate : mg "enumerate" = none
  b_isinstance : mg "isinstance" = none
  b_len : mg "len" = none
  b_range : mg "range" = none
  b_sorted : mg "sorted" = none
  c_MOST_BEGINNINGS : ∃ t, mg "MOST_BEGINNINGS" = some (.int 200 t)
structure Ers (K : PySem.W.Frag) (mg : Str → Option Value) : Prop where
  e_Caught : mg "Caught" = some (.ref (clsA K "Caught"))
  e_NoName : mg "NoName" = some (.ref (clsA K "NoName"))
  e_NoPlace : mg "NoPlace" = some (.ref (clsA K "NoPlace"))
  e_NoRow : mg "NoRow" = some (.ref (clsA K "NoRow"))
  e_NoText : mg "NoText" = some (.ref (clsA K "NoText"))
  e_PathError : mg "PathError" = some (.ref (clsA K "PathError"))
  e_Ring : mg "Ring" = some (.ref (clsA K "Ring"))
  e_Tangled : mg "Tangled" = some (.ref (clsA K "Tangled"))
  e_TooGreat : mg "TooGreat" = some (.ref (clsA K "TooGreat"))
  e_Twice : mg "Twice" = some (.ref (clsA K "Twice"))
  k_PathError : Exk K mg "PathError" (clsA K "PathError")
  k_Tangled : Exk K mg "Tangled" (clsA K "Tangled")
  d_Tangled : ExcCls K (clsA K "Tangled")
  v_Tangled : AskC K (clsA K "Tangled") (.type "ValueError") true
  s_Tangled_PathError : L2.subIn K (clsA K "Tangled") (clsA K "PathError") = true
  a_Tangled_Caught : AskC K (clsA K "Tangled") (.ref (clsA K "Caught")) false
  a_Tangled_NoName : AskC K (clsA K "Tangled") (.ref (clsA K "NoName")) false
  a_Tangled_NoPlace : AskC K (clsA K "Tangled") (.ref (clsA K "NoPlace")) false
  a_Tangled_NoRow : AskC K (clsA K "Tangled") (.ref (clsA K "NoRow")) false
  a_Tangled_NoText : AskC K (clsA K "Tangled") (.ref (clsA K "NoText")) false
  a_Tangled_Ring : AskC K (clsA K "Tangled") (.ref (clsA K "Ring")) false
  a_Tangled_Tangled : AskC K (clsA K "Tangled") (.ref (clsA K "Tangled")) true
  a_Tangled_TooGreat : AskC K (clsA K "Tangled") (.ref (clsA K "TooGreat")) false
  a_Tangled_Twice : AskC K (clsA K "Tangled") (.ref (clsA K "Twice")) false
  n_Tangled_Caught : (Value.ref (clsA K "Tangled") == Value.ref (clsA K "Caught")) = false
  n_Tangled_NoName : (Value.ref (clsA K "Tangled") == Value.ref (clsA K "NoName")) = false
  n_Tangled_NoPlace : (Value.ref (clsA K "Tangled") == Value.ref (clsA K "NoPlace")) = false
  n_Tangled_NoRow : (Value.ref (clsA K "Tangled") == Value.ref (clsA K "NoRow")) = false
  n_Tangled_NoText : (Value.ref (clsA K "Tangled") == Value.ref (clsA K "NoText")) = false
  n_Tangled_Ring : (Value.ref (clsA K "Tangled") == Value.ref (clsA K "Ring")) = false
  n_Tangled_TooGreat : (Value.ref (clsA K "Tangled") == Value.ref (clsA K "TooGreat")) = false
  n_Tangled_Twice : (Value.ref (clsA K "Tangled") == Value.ref (clsA K "Twice")) = false
theorem len_1 {us : List Value} (h : us.length = 1) : ∃ x0, us = [x0] := by
  cases us with
  | nil => cases h
  | cons x0 t => exact ⟨x0, by rw [List.length_eq_zero_iff.mp (Nat.succ.inj h)]⟩
theorem len_2 {us : List Value} (h : us.length = 2) : ∃ x0 x1, us = [x0, x1] := by
  cases us with
  | nil => cases h
  | cons x0 t =>
    obtain ⟨x1, rfl⟩ := len_1 (Nat.succ.inj h)
    exact ⟨x0, x1, rfl⟩
theorem len_3 {us : List Value} (h : us.length = 3) : ∃ x0 x1 x2, us = [x0, x1, x2] := by
  cases us with
  | nil => cases h
  | cons x0 t =>
    obtain ⟨x1, x2, rfl⟩ := len_2 (Nat.succ.inj h)
    exact ⟨x0, x1, x2, rfl⟩
theorem len_4 {us : List Value} (h : us.length = 4) : ∃ x0 x1 x2 x3, us = [x0, x1, x2, x3] := by
  cases us with
  | nil => cases h
  | cons x0 t =>
    obtain ⟨x1, x2, x3, rfl⟩ := len_3 (Nat.succ.inj h)
    exact ⟨x0, x1, x2, x3, rfl⟩
theorem len_5 {us : List Value} (h : us.length = 5) : ∃ x0 x1 x2 x3 x4, us = [x0, x1, x2, x3, x4] := by
  cases us with
  | nil => cases h
  | cons x0 t =>
    obtain ⟨x1, x2, x3, x4, rfl⟩ := len_4 (Nat.succ.inj h)
    exact ⟨x0, x1, x2, x3, x4, rfl⟩
theorem len_6 {us : List Value} (h : us.length = 6) : ∃ x0 x1 x2 x3 x4 x5, us = [x0, x1, x2, x3, x4, x5] := by
  cases us with
  | nil => cases h
  | cons x0 t =>
    obtain ⟨x1, x2, x3, x4, x5, rfl⟩ := len_5 (Nat.succ.inj h)
    exact ⟨x0, x1, x2, x3, x4, x5, rfl⟩
theorem len_7 {us : List Value} (h : us.length = 7) : ∃ x0 x1 x2 x3 x4 x5 x6, us = [x0, x1, x2, x3, x4, x5, x6] := by
  cases us with
  | nil => cases h
  | cons x0 t =>
    obtain ⟨x1, x2, x3, x4, x5, x6, rfl⟩ := len_6 (Nat.succ.inj h)
    exact ⟨x0, x1, x2, x3, x4, x5, x6, rfl⟩
theorem len_8 {us : List Value} (h : us.length = 8) : ∃ x0 x1 x2 x3 x4 x5 x6 x7, us = [x0, x1, x2, x3, x4, x5, x6, x7] := by
  cases us with
  | nil => cases h
  | cons x0 t =>
    obtain ⟨x1, x2, x3, x4, x5, x6, x7, rfl⟩ := len_7 (Nat.succ.inj h)
    exact ⟨x0, x1, x2, x3, x4, x5, x6, x7, rfl⟩
section
variable {P : Program} {w : World} {K : PySem.W.Frag} {mg : Str → Option Value} {base : Heap}
theorem cell_some {ns : List Int} {k : Int} (hk : 0 ≤ k) (hlt : k < ns.length) : atI (ns.map V.int) k = some (V.int (cellAt ns k)) := by
  obtain ⟨n, rfl⟩ := Int.eq_ofNat_of_zero_le hk
  have hn : n < ns.length := by omega
  refine atI_nat ?_
  rw [List.getElem?_map, List.getElem?_eq_getElem hn]
  show some (V.int ns[n]) = some (V.int ((ns[((n : Int)).toNat]?).getD 0))
  rw [Int.toNat_natCast, List.getElem?_eq_getElem hn]
  rfl
theorem cell_none {ns : List Int} {k : Int} (hk : 0 ≤ k) (hlt : ¬ k < ns.length) : cellAt ns k = 0 := by
  unfold cellAt
  rw [List.getElem?_eq_none (by omega)]
  rfl

def sp__law_cell_at (K : PySem.W.Frag) : Sp := fun vs H Q _ => ∃ a ns k, vs = [.ref a, .int k] ∧ 0 ≤ k ∧ SqL K H a (ns.map V.int) ∧ Q (.int (cellAt ns k)) H
set_option maxHeartbeats 4000000 in
seal L2.PE L2.PA L2.PS L2.PSs L2.PT L2.PW L2.PC L2.PG L2.PGs L2.PI L2.PF L2.PSet L2.OpR L2.UnR L2.CallR L2.MtR L2.IxR L2.SlR L2.PO in
theorem ok__law_cell_at {f : Addr} {fd : FuncData} (B : Blt mg) (ER : Ers K mg)  (F : Fun K "_law_cell_at" "_law_cell_at" s__law_cell_at f fd) : FnOk P w K mg base CX0 1 f fd ["_law_script", "_law_k"] (sp__law_cell_at K) := by
  refine F.ok sc__law_cell_at (fun vs H Q E h => ?_) (fun cdv A outer s H vs Q E hr h => ?_)
  · obtain ⟨a, ns, k, rfl, _⟩ := h
    rfl
  · obtain ⟨a, ns, k, rfl, hk, hS, q⟩ := h
    refine ⟨_, (pss_cons (ps_if (pt_cmpR op_lt (pv 1) (pe_callB call_len B.b_len (pa_cons (pv 0) pa_nil)) (nomark _)) (pss_one (ps_ret (pe_ix ix_seq (pv 0) (pv 1)))) pss_nil)
      (pss_one (ps_ret pe_int))), ?_⟩
    refine ⟨_, rfl, _, rfl, _, _, rfl, Or.inl ⟨_, hS, rfl⟩, _, _, rfl, rfl, _, rfl, ?_⟩
    rw [List.length_map]
    refine ite2 (fun hlt => ?_) (fun hge => ?_)
    · have hlt := of_decide_eq_true hlt
      exact ⟨_, rfl, _, rfl, Or.inl ⟨_, _, _, _, rfl, rfl, hS, cell_some hk hlt, q⟩⟩
    · have hge : ¬ k < (ns.length : Int) := fun z => hge (decide_eq_true z)
      show Q (.int 0) H
      rw [cell_none hk hge] at q
      exact q
theorem call__law_cell_at {f : Addr} {fd : FuncData} (B : Blt mg) (ER : Ers K mg)  (F : Fun K "_law_cell_at" "_law_cell_at" s__law_cell_at f fd) (hm : mg "_law_cell_at" = some (.ref f)) : Callee P w K mg base "_law_cell_at" 1 ["_law_script", "_law_k"] (sp__law_cell_at K) :=
  ⟨f, fd, ok__law_cell_at B ER  F, hm, F.kp, F.binds fun _ _ _ _ _ _ us hl => (by obtain ⟨x0, x1, rfl⟩ := len_2 hl; rfl)⟩
theorem getD_ap1 {l : List Addr} {a : Addr} {i : Nat} (h : i < l.length) : (l ++ [a]).getD i 0 = l.getD i 0 := by
  rw [List.getD_eq_getElem?_getD, List.getElem?_append_left h, ← List.getD_eq_getElem?_getD]
theorem getD_ap2 {l : List Addr} {a : Addr} {i : Nat} (h : i = l.length) : (l ++ [a]).getD i 0 = a := by
  rw [List.getD_eq_getElem?_getD, h, List.getElem?_append_right (Nat.le_refl _), Nat.sub_self]; rfl
/-- scopes while they are made -/
structure Bld (H0 H : Hp) (D : Addr) (us as bs tl : List Addr) (lab nam : Str) (n : Nat) : Prop where
  lu : us.length = n
  la : as.length = n
  lb : bs.length = n
  lt : tl.length = n
  sco : ∀ i, i < n → H (us.getD i 0) = some (.tup [.ref (as.getD i 0), .ref (bs.getD i 0)])
  tel : ∀ i, i < n → H (bs.getD i 0) = some (.lst [.ref (tl.getD i 0)])
  tol : ∀ i, i < n → H (tl.getD i 0) = some (.tup [.str lab, .str nam, .str "thing", .int 0])
  stp : ∀ i, i < n → H (as.getD i 0) = some (.lst [])
  nd : as.Nodup
  nsc : D ∉ as
  nbd : D ∉ bs
  nbs : ∀ x ∈ bs, x ∉ as
  fr : ∀ x ∈ as, H0 x = none
theorem mem_at0 {l : List Addr} {x : Addr} (h : x ∈ l) : ∃ i, i < l.length ∧ x = l.getD i 0 := by
  obtain ⟨i, hi, e⟩ := List.mem_iff_getElem.mp h
  exact ⟨i, hi, by rw [List.getD_eq_getElem?_getD, List.getElem?_eq_getElem hi, ← e]; rfl⟩
theorem Bld.snoc {H0 H H' : Hp} {D : Addr} {us as bs tl : List Addr} {lab nam : Str} {n : Nat} {ua al bl tt : Addr} {ys : List V} {o : HO} (h : Bld H0 H D us as bs tl lab nam n) (eD : H D = some (.lst ys)) (e : Same H H') (e1 : H' ua = some (.tup [.ref al, .ref bl])) (e2 : H' bl = some (.lst [.ref tt])) (e3 : H' tt = some (.tup [.str lab, .str nam, .str "thing", .int 0])) (e4 : H' al = some (.lst [])) (f1 : H al = none) (f2 : H bl = none) (f3 : al ≠ bl) (f4 : H0 al = none) : Bld H0 (upd H' D o) D (us ++ [ua]) (as ++ [al]) (bs ++ [bl]) (tl ++ [tt]) lab nam (n + 1) := by
  have eD' := e _ _ eD
  have nt : ∀ {x : Addr} {zs : List V}, H' x = some (.tup zs) → x ≠ D := fun q z => by rw [z, eD'] at q; cases q
  have na : al ≠ D := fun z => by rw [z, eD] at f1; cases f1
  have nb : bl ≠ D := fun z => by rw [z, eD] at f2; cases f2
  have cs : ∀ i, i < n + 1 → i < n ∨ i = n := fun i hi => by omega
  refine ⟨by simp [h.lu], by simp [h.la], by simp [h.lb], by simp [h.lt], fun i hi => ?_, fun i hi => ?_, fun i hi => ?_, fun i hi => ?_, ?_, ?_, ?_, ?_, ?_⟩
  · rcases cs i hi with c | c
    · rw [getD_ap1 (by rw [h.lu]; exact c), getD_ap1 (by rw [h.la]; exact c), getD_ap1 (by rw [h.lb]; exact c), upd_ne (nt (e _ _ (h.sco i c)))]
      exact e _ _ (h.sco i c)
    · rw [getD_ap2 (by rw [h.lu]; exact c), getD_ap2 (by rw [h.la]; exact c), getD_ap2 (by rw [h.lb]; exact c), upd_ne (nt e1)]
      exact e1
  · rcases cs i hi with c | c
    · rw [getD_ap1 (by rw [h.lb]; exact c), getD_ap1 (by rw [h.lt]; exact c), upd_ne fun z => h.nbd (by rw [← z]; exact getD_mem0 (by rw [h.lb]; exact c))]
      exact e _ _ (h.tel i c)
    · rw [getD_ap2 (by rw [h.lb]; exact c), getD_ap2 (by rw [h.lt]; exact c), upd_ne nb]
      exact e2
  · rcases cs i hi with c | c
    · rw [getD_ap1 (by rw [h.lt]; exact c), upd_ne (nt (e _ _ (h.tol i c)))]
      exact e _ _ (h.tol i c)
    · rw [getD_ap2 (by rw [h.lt]; exact c), upd_ne (nt e3)]
      exact e3
  · rcases cs i hi with c | c
    · rw [getD_ap1 (by rw [h.la]; exact c), upd_ne fun z => h.nsc (by rw [← z]; exact getD_mem0 (by rw [h.la]; exact c))]
      exact e _ _ (h.stp i c)
    · rw [getD_ap2 (by rw [h.la]; exact c), upd_ne na]
      exact e4
  · refine nodup_snoc h.nd fun z => ?_
    obtain ⟨i, hi, ei⟩ := mem_at0 z
    rw [ei, h.stp i (by rw [← h.la]; exact hi)] at f1
    cases f1
  · intro z
    rcases List.mem_append.mp z with z | z
    · exact h.nsc z
    · exact na (List.mem_singleton.mp z).symm
  · intro z
    rcases List.mem_append.mp z with z | z
    · exact h.nbd z
    · exact nb (List.mem_singleton.mp z).symm
  · intro x hx hx2
    rcases List.mem_append.mp hx with hx | hx
    · rcases List.mem_append.mp hx2 with hx2 | hx2
      · exact h.nbs x hx hx2
      · rw [List.mem_singleton.mp hx2] at hx
        obtain ⟨i, hi, ei⟩ := mem_at0 hx
        rw [ei, h.tel i (by rw [← h.lb]; exact hi)] at f1
        cases f1
    · rw [List.mem_singleton.mp hx] at hx2
      rcases List.mem_append.mp hx2 with hx2 | hx2
      · obtain ⟨i, hi, ei⟩ := mem_at0 hx2
        rw [ei, h.stp i (by rw [← h.la]; exact hi)] at f2
        cases f2
      · exact f3 (List.mem_singleton.mp hx2).symm
  · intro x hx
    rcases List.mem_append.mp hx with hx | hx
    · exact h.fr x hx
    · rw [List.mem_singleton.mp hx]; exact f4
theorem Bld.scn {H0 H : Hp} {D : Addr} {us as bs tl : List Addr} {lab nam : Str} (h : Bld H0 H D us as bs tl lab nam 7) (eD : H D = some (.lst (us.map V.ref))) : Scn H D us as bs tl lab nam (fun _ => []) :=
  ⟨eD, h.lu, h.la, h.lb, h.lt, h.sco, h.tel, h.tol, fun i hi => ⟨[], h.stp i hi, Stp.nil⟩, h.nd, h.nsc, h.nbs⟩
theorem setF_at {S : Nat → List (Str × Nat)} {v : Nat} {l : List (Str × Nat)} : setF S v l v = l := if_pos rfl
theorem setF_ne {S : Nat → List (Str × Nat)} {v i : Nat} {l : List (Str × Nat)} (h : i ≠ v) : setF S v l i = S i := if_neg h

def sp__law_net (_ : PySem.W.Frag) : Sp := fun vs H Q _ => ∃ (R : Addr) (tr : List Addr) (rs : List Rw3) (turn : Nat) (lab nam : Str), vs = [.ref R, .int (turn : Int), .str lab, .str nam] ∧ turn < 7 ∧ lab.length ≤ 7 ∧ H R = some (.lst (tr.map V.ref)) ∧ RwC H tr rs ∧ Rwz rs ∧ ∀ (net : Addr) (S : Nat → List (Str × Nat)) (H' : Hp), H net = none → Same H H' → NetC H' net lab nam S → Q (.ref net) H'
set_option maxHeartbeats 4000000 in
seal L2.PE L2.PA L2.PS L2.PSs L2.PT L2.PW L2.PC L2.PG L2.PGs L2.PI L2.PF L2.PSet L2.OpR L2.UnR L2.CallR L2.MtR L2.IxR L2.SlR L2.PO in
theorem ok__law_net {f : Addr} {fd : FuncData} (B : Blt mg) (ER : Ers K mg)  (F : Fun K "_law_net" "_law_net" s__law_net f fd) : FnOk P w K mg base CX0 1 f fd ["_law_rows_here", "_law_turn", "_law_label", "_law_name"] (sp__law_net K) := by
  refine F.ok sc__law_net (fun vs H Q E h => ?_) (fun cdv A outer s H vs Q E hr h => ?_)
  · obtain ⟨R, tr, rs, turn, lab, nam, rfl, _⟩ := h
    rfl
  · obtain ⟨R, tr, rs, turn, lab, nam, rfl, ht7, hll, eR, RC, RZ, q⟩ := h
    refine ⟨_, (pss_cons (ps_setC (i := 4) sc__law_net.nd rfl (Or.inl rfl) rfl _law_net_cs1 (pi_range1 rfl B.b_range (pa_cons pe_int pa_nil)) (fun _ _ _ _ _ => (pg_name (i := 0) _law_net_cs1.nd)) (fun _ _ _ _ _ => pf_nil) (fun _ _ _ _ _ => (pe_tup (pa_cons (pe_lst pa_nil) (pa_cons (pe_lst (pa_cons (pe_tup (pa_cons (pv 1) (pa_cons (pv 2) (pa_cons pe_str (pa_cons pe_int pa_nil))))) pa_nil)) pa_nil)))))
      (pss_cons (ps_for PassesOwn.never rfl (pi_list (pv 0)) (pg_tup (n := 3) rfl (pgs_cons (pg_name (i := 5) sc__law_net.nd) (pgs_cons (pg_name (i := 6) sc__law_net.nd) (pgs_cons (pg_name (i := 7) sc__law_net.nd) pgs_nil)))) (pss_one (ps_for PassesOwn.never rfl (pi_range1 rfl B.b_range (pa_cons (pv 7) pa_nil)) (pg_name (i := 8) sc__law_net.nd) (pss_one (ps_expr (pe_bm PySem.F.plainAttrs_list PySem.F.slot_list_append PySem.F.type_list_append mr_append (pe_ix ix_seq (pe_ix ix_seq (pv 4) (pe_op op_mod (pe_op op_add (pv 5) (pv 1)) pe_int)) pe_int) (pa_cons (pe_tup (pa_cons (pv 2) (pa_cons pe_str (pa_cons (pe_op op_mod (pe_op op_add (pv 6) (pv 1)) pe_int) pa_nil)))) pa_nil)))))))
      (pss_cons (ps_for PassesOwn.never rfl (pi_list (pv 4)) (pg_tup (n := 2) rfl (pgs_cons (pg_name (i := 9) sc__law_net.nd) (pgs_cons (pg_name (i := 10) sc__law_net.nd) pgs_nil))) (pss_one (ps_if (pt_cmpR op_lt (pe_callB call_len B.b_len (pa_cons (pv 9) pa_nil)) pe_int (nomark _)) (pss_one (ps_expr (pe_bm PySem.F.plainAttrs_list PySem.F.slot_list_insert PySem.F.type_list_insert mr_insert (pv 9) (pa_cons (pe_op op_mod (pv 1) (pe_op op_add (pe_callB call_len B.b_len (pa_cons (pv 9) pa_nil)) pe_int)) (pa_cons (pe_tup (pa_cons (pe_op op_add_str (pv 2) pe_str) (pa_cons pe_str (pa_cons (pe_op op_mod (pv 1) pe_int) pa_nil)))) pa_nil))))) pss_nil)))
      (pss_one (ps_ret (pe_tup (pa_cons (pv 4) (pa_cons (pe_lst (pa_cons (pe_tup (pa_cons pe_str (pa_cons pe_int pa_nil))) pa_nil)) (pa_cons (pe_lst (pa_cons (pe_tup (pa_cons pe_int (pa_cons pe_int (pa_cons (pe_tup (pa_cons (pv 3) pa_nil)) pa_nil)))) pa_nil)) pa_nil))))))))), ?_⟩
    refine ⟨_, rfl, by decide, by decide, comp_rangeI (fun D i ys H' => ∃ (us as bs tl : List Addr), ys = us.map V.ref ∧ Same H H' ∧ H' D = some (.lst ys) ∧ Bld H H' D us as bs tl lab nam i) (fun D hD => ⟨[], [], [], [], rfl, same_new hD, upd_same, rfl, rfl, rfl, rfl, fun i hi => absurd hi (by omega), fun i hi => absurd hi (by omega), fun i hi => absurd hi (by omega), fun i hi => absurd hi (by omega), List.nodup_nil, fun z => by simp at z, fun z => by simp at z, fun x hx => by simp at hx, fun x hx => by simp at hx⟩) (fun D i ys H2 RR hD hi hv k => ?_) (fun D ys H2 hD hv => ?_)⟩
    · obtain ⟨us, as, bs, tl, rfl, s2, eD, BB⟩ := hv
      have hi : i < 7 := hi
      refine ⟨by decide, fun al hal => ?_⟩
      have s3 := same_new (o := .lst []) hal
      have e3 : (upd H2 al (.lst [])) al = some (.lst []) := upd_same
      generalize upd H2 al (.lst []) = H3 at s3 e3 ⊢
      refine ⟨_, rfl, _, rfl, four_le, fun tt htt => ?_⟩
      have s4 := same_new (o := .tup [.str lab, .str nam, .str "thing", .int 0]) htt
      have e4 : (upd H3 tt (.tup [.str lab, .str nam, .str "thing", .int 0])) tt = some (.tup [.str lab, .str nam, .str "thing", .int 0]) := upd_same
      generalize upd H3 tt (.tup [.str lab, .str nam, .str "thing", .int 0]) = H4 at s4 e4 ⊢
      refine ⟨one_leT, fun bl hbl => ?_⟩
      have s5 := same_new (o := .lst [.ref tt]) hbl
      have e5 : (upd H4 bl (.lst [.ref tt])) bl = some (.lst [.ref tt]) := upd_same
      have n5 : al ≠ bl := ne_of_none (s4 _ _ e3) hbl
      generalize upd H4 bl (.lst [.ref tt]) = H5 at s5 e5 ⊢
      refine ⟨two_le, fun ua hua => ?_⟩
      have s6 := same_new (o := .tup [.ref al, .ref bl]) hua
      have e6 : (upd H5 ua (.tup [.ref al, .ref bl])) ua = some (.tup [.ref al, .ref bl]) := upd_same
      generalize upd H5 ua (.tup [.ref al, .ref bl]) = H6 at s6 e6 ⊢
      have s26 := ((s3.trans s4).trans s5).trans s6
      refine k _ _ (s26 _ _ eD) (by rw [List.length_map, BB.lu]; exact small1000 (by omega)) ⟨us ++ [ua], as ++ [al], bs ++ [bl], tl ++ [tt], by rw [List.map_append]; rfl, fun x o e => ?_, upd_same, BB.snoc eD s26 e6 (s6 _ _ e5) (s6 _ _ (s5 _ _ e4)) (s6 _ _ (s5 _ _ (s4 _ _ e3))) hal ((s3.trans s4).free hbl) n5 (s2.free hal)⟩
      rw [upd_ne (ne_of_none e hD)]; exact s26 _ _ (s2 x o e)
    obtain ⟨us, as, bs, tl, rfl, s2, eD2, BB⟩ := hv
    have BB : Bld H H2 D us as bs tl lab nam 7 := BB
    have SC0 := BB.scn eD2
    have fr := BB.fr
    have lu := BB.lu
    have la := BB.la
    have hu : ∀ w, w < 7 → (us.map V.ref)[w]? = some (.ref (us.getD w 0)) := fun w hw => by rw [List.getElem?_map, getD_at0 (by rw [lu]; exact hw)]; rfl
    have frw : ∀ w, w < 7 → H (as.getD w 0) = none := fun w hw => fr _ (getD_mem0 (by rw [la]; exact hw))
    clear BB
    refine ⟨_, rfl, R, rfl, ⟨_, SqL.of (s2 _ _ eR)⟩, for_list (xs := tr.map V.ref) (fun i σ H' => ∃ (u5 u6 u7 u8 : Option V) (S : Nat → List (Str × Nat)), σ = [some (.ref R), some (.int (turn : Int)), some (.str lab), some (.str nam), some (.ref D), u5, u6, u7, u8, none, none] ∧ Same H H' ∧ Scn H' D us as bs tl lab nam S ∧ (∀ u, u < 7 → (S ((u + turn) % 7)).length ≤ tot u (rs.take i)) ∧ ∀ v, v < 7 → ∀ x ∈ S v, x.2 < 7)
      ⟨none, none, none, none, _, rfl, s2, SC0, fun u hu => Nat.zero_le _, fun v hv x hx => by simp at hx⟩ (fun i σ H' _ ⟨_, _, _, _, _, _, e, _⟩ => SqL.of (e _ _ eR)) ?_ ?_⟩
    · rintro i x σ H3 hx ⟨u5, u6, u7, u8, S, rfl, s3, SC, L3, B3⟩
      rw [List.getElem?_map] at hx
      obtain ⟨t, ht, rfl⟩ := Option.map_eq_some_iff.mp hx
      have hil : i < rs.length := by rw [← RC.len]; exact (List.getElem?_eq_some_iff.mp ht).1
      have hp := List.getElem?_eq_getElem hil
      have et := RC.at_ i t _ ht hp
      have etk : rs.take (i + 1) = rs.take i ++ [rs[i]] := by rw [List.take_succ, hp]; rfl
      obtain ⟨b1, b2⟩ := RZ.lt _ (List.getElem_mem hil)
      have b3 : tot rs[i].1 (rs.take i) + rs[i].2.2 ≤ 8 := by
        have h0 : ∀ u, tot u rs = tot u (rs.take (i + 1)) + tot u (rs.drop (i + 1)) := fun u => by rw [← tot_app, List.take_append_drop]
        have h1 := RZ.le rs[i].1
        rw [h0, etk, tot_app] at h1
        have h2 : tot rs[i].1 [rs[i]] = rs[i].2.2 := by simp [tot]
        omega
      have b4 : ∀ u, tot u (rs.take (i + 1)) = tot u (rs.take i) + if rs[i].1 = u then rs[i].2.2 else 0 := fun u => by rw [etk, tot_app]; simp [tot]
      generalize rs[i] = p at et b1 b2 b3 b4
      refine ⟨t, _, rfl, SqT.of (s3 _ _ et), rfl, _, _, rfl, _, _, rfl, _, _, rfl, rfl, ?_⟩
      have ep : ((p.2.2 : Nat) : Int).toNat = p.2.2 := Int.toNat_natCast _
      have hw : (p.1 + turn) % 7 < 7 := Nat.mod_lt _ (by decide)
      have ew : ((p.1 : Int) + (turn : Int)) % 7 = (((p.1 + turn) % 7 : Nat) : Int) := by omega
      have ew2 : ((p.2.1 : Int) + (turn : Int)) % 7 = (((p.2.1 + turn) % 7 : Nat) : Int) := by omega
      refine ⟨_, rfl, _, rfl, by omega, by omega, for_range (lo := 0) (n := ((p.2.2 : Nat) : Int).toNat) (fun j σ H' => ∃ (u8 : Option V) (S : Nat → List (Str × Nat)), σ = [some (.ref R), some (.int (turn : Int)), some (.str lab), some (.str nam), some (.ref D), some (.int (p.1 : Int)), some (.int (p.2.1 : Int)), some (.int (p.2.2 : Int)), u8, none, none] ∧ Same H H' ∧ Scn H' D us as bs tl lab nam S ∧ (∀ u, u < 7 → (S ((u + turn) % 7)).length ≤ tot u (rs.take i) + if p.1 = u then j else 0) ∧ ∀ v, v < 7 → ∀ x ∈ S v, x.2 < 7)
        ⟨_, S, rfl, s3, SC, fun u hu => by have := L3 u hu; split <;> omega, B3⟩ ?_ ?_⟩
      · rintro j σ H4 hj ⟨u8, S, rfl, s4, SC4, L4, B4⟩
        rw [ep] at hj
        obtain ⟨ts, ea, hs⟩ := SC4.stp _ hw
        have hlt := hs.len
        have l4 := L4 p.1 b1
        rw [if_pos rfl] at l4
        refine ⟨_, rfl, _, rfl, _, rfl, _, _, rfl, rfl, _, _, rfl, rfl, (by show (0 : Int) < _; decide), Or.inl ⟨D, _, _, .ref (us.getD ((p.1 + turn) % 7) 0), rfl, rfl, SqL.of SC4.top, (by rw [ew]; exact atI_nat (hu _ hw)), Or.inr (Or.inl ⟨us.getD ((p.1 + turn) % 7) 0, _, _, .ref (as.getD ((p.1 + turn) % 7) 0), rfl, rfl, SqT.of (SC4.sco _ hw), rfl, Or.inl ⟨rfl, _, SqL.of ea⟩, _, rfl, _, rfl, _, rfl, _, _, rfl, rfl, _, _, rfl, rfl, (by show (0 : Int) < _; decide), three_le, fun t2 ht2 => ?_⟩)⟩⟩
        dsimp only
        rw [ew2]
        have s5 := same_new (o := .tup [.str lab, .str "to", .int (((p.2.1 + turn) % 7 : Nat) : Int)]) ht2
        have e5 : (upd H4 t2 (.tup [.str lab, .str "to", .int (((p.2.1 + turn) % 7 : Nat) : Int)])) t2 = some (.tup [.str lab, .str "to", .int (((p.2.1 + turn) % 7 : Nat) : Int)]) := upd_same
        generalize upd H4 t2 (.tup [.str lab, .str "to", .int (((p.2.1 + turn) % 7 : Nat) : Int)]) = H5 at s5 e5 ⊢
        have SC5 := (SC4.same s5).set hw ((hs.same s5).snoc (p := (lab, (p.2.1 + turn) % 7)) e5)
        refine ⟨as.getD ((p.1 + turn) % 7) 0, _, _, rfl, rfl, s5 _ _ ea, by rw [List.length_map]; exact small1000 (by omega), ?_⟩
        rw [List.map_append] at SC5
        refine ⟨_, _, rfl, fun x o e => ?_, SC5, fun u hu => ?_, fun v hv x hx => ?_⟩
        · rw [upd_ne (ne_of_none e (frw _ hw))]; exact s5 _ _ (s4 x o e)
        · by_cases c : p.1 = u
          · subst c
            rw [if_pos rfl, setF_at, List.length_append, List.length_singleton]
            omega
          · have := L4 u hu
            rw [if_neg c] at this ⊢
            rw [setF_ne (by omega)]
            exact this
        · by_cases c : v = (p.1 + turn) % 7
          · subst c
            rw [setF_at] at hx
            rcases List.mem_append.mp hx with hx | hx
            · exact B4 _ hw x hx
            · rw [List.mem_singleton.mp hx]; exact Nat.mod_lt _ (by decide)
          · rw [setF_ne c] at hx
            exact B4 v hv x hx
      · rintro σ H4 ⟨u8, S, rfl, s4, SC4, L4, B4⟩
        rw [ep] at L4
        exact ⟨_, _, _, _, S, rfl, s4, SC4, fun u hu => by rw [b4 u]; exact L4 u hu, B4⟩
    rintro σ H3 ⟨u5, u6, u7, u8, S, rfl, s3, SC, L3, B3⟩
    rw [List.length_map, RC.len, List.take_length] at L3
    have L8 : ∀ v, v < 7 → (S v).length ≤ 8 ∧ ∀ x ∈ S v, x.2 < 7 := fun v hv => by
      have h1 := L3 ((v + 7 - turn) % 7) (Nat.mod_lt _ (by decide))
      rw [show ((v + 7 - turn) % 7 + turn) % 7 = v by omega] at h1
      exact ⟨Nat.le_trans h1 (RZ.le _), B3 v hv⟩
    clear L3 B3
    refine ⟨_, rfl, D, rfl, ⟨_, SqL.of SC.top⟩, for_list (xs := us.map V.ref) (fun i σ H' => ∃ (u9 u10 : Option V) (S : Nat → List (Str × Nat)), σ = [some (.ref R), some (.int (turn : Int)), some (.str lab), some (.str nam), some (.ref D), u5, u6, u7, u8, u9, u10] ∧ Same H H' ∧ Scn H' D us as bs tl lab nam S ∧ ∀ v, v < 7 → (S v).length ≤ 8 ∧ ∀ x ∈ S v, x.2 < 7)
      ⟨none, none, S, rfl, s3, SC, L8⟩ (fun i σ H' _ ⟨_, _, _, _, _, e, _⟩ => SqL.of e.top) ?_ ?_⟩
    · rintro i x σ H4 hx ⟨u9, u10, S, rfl, s4, SC4, L4⟩
      have hi : i < 7 := by
        have := (List.getElem?_eq_some_iff.mp hx).1
        rwa [List.length_map, lu] at this
      rw [hu i hi] at hx
      cases hx
      obtain ⟨ts, ea, hs⟩ := SC4.stp i hi
      have hlt := hs.len
      refine ⟨us.getD i 0, _, rfl, SqT.of (SC4.sco i hi), rfl, _, _, rfl, _, _, rfl, rfl, ?_⟩
      refine ⟨_, rfl, _, _, rfl, Or.inl ⟨_, SqL.of ea, rfl⟩, _, _, rfl, rfl, _, rfl, ?_⟩
      rw [List.length_map]
      by_cases c : ts.length < 8
      · rw [decide_eq_true (show (ts.length : Int) < 8 by omega)]
        have hm : turn % (ts.length + 1) < ts.length + 1 := Nat.mod_lt _ (Nat.succ_pos _)
        have em : (turn : Int) % ((ts.length : Int) + 1) = ((turn % (ts.length + 1) : Nat) : Int) := by rw [Int.natCast_emod]; rfl
        have em7 : (turn : Int) % 7 = ((turn : Nat) : Int) := by omega
        refine iteT ⟨_, rfl, Or.inl ⟨rfl, _, SqL.of ea⟩, _, rfl, _, rfl, _, _, rfl, Or.inl ⟨_, SqL.of ea, rfl⟩, _, _, rfl, rfl, _, _, rfl, rfl, (by show (0 : Int) < _; omega), _, rfl, _, _, rfl, rfl, Nat.le_of_lt (small1000 (show lab.length + 1 ≤ 1000 by omega)), _, rfl, _, _, rfl, rfl, (by show (0 : Int) < _; decide), three_le, fun t2 ht2 => ?_⟩
        dsimp only
        rw [List.length_map, em7]
        have s5 := same_new (o := .tup [.str (lab ++ "b"), .str "to", .int (turn : Int)]) ht2
        have e5 : (upd H4 t2 (.tup [.str (lab ++ "b"), .str "to", .int (turn : Int)])) t2 = some (.tup [.str (lab ++ "b"), .str "to", .int (turn : Int)]) := upd_same
        generalize upd H4 t2 (.tup [.str (lab ++ "b"), .str "to", .int (turn : Int)]) = H5 at s5 e5 ⊢
        have SC5 := (SC4.same s5).set hi ((hs.same s5).ins (p := (lab ++ "b", turn)) (k := turn % (ts.length + 1)) (by omega) e5)
        refine ⟨as.getD i 0, _, _, _, rfl, rfl, s5 _ _ ea, (by rw [em]; omega), (by rw [em, List.length_map]; omega), by rw [List.length_map]; omega, ?_⟩
        rw [em, Int.toNat_natCast]
        rw [List.map_append, List.map_cons, List.map_take, List.map_drop] at SC5
        refine ⟨_, _, _, rfl, fun x o e => ?_, SC5, fun v hv => ?_⟩
        · rw [upd_ne (ne_of_none e (frw _ hi))]; exact s5 _ _ (s4 x o e)
        · by_cases c2 : v = i
          · subst c2
            rw [setF_at]
            refine ⟨?_, fun x hx => ?_⟩
            · rw [List.length_append, List.length_cons, List.length_take, List.length_drop]
              omega
            · rcases List.mem_append.mp hx with hx | hx
              · exact (L4 v hv).2 x (List.mem_of_mem_take hx)
              · rcases List.mem_cons.mp hx with rfl | hx
                · exact ht7
                · exact (L4 v hv).2 x (List.mem_of_mem_drop hx)
          · rw [setF_ne c2]; exact L4 v hv
      · rw [decide_eq_false (show ¬ (ts.length : Int) < 8 by omega)]
        exact iteF ⟨_, _, S, rfl, s4, SC4, L4⟩
    rintro σ H4 ⟨u9, u10, S, rfl, s4, SC4, L4⟩
    refine ⟨_, rfl, two_le, fun a1 h1 => ?_⟩
    have t1 := same_new (o := .tup [.str "plain", .int 0]) h1
    refine ⟨one_leT, fun a2 h2 => ?_⟩
    have t2 := t1.trans (same_new (o := .lst [.ref a1]) h2)
    refine ⟨_, rfl, one_leT, fun a3 h3 => ?_⟩
    have t3 := t2.trans (same_new (o := .tup [.str nam]) h3)
    refine ⟨three_le, fun a4 h4 => ?_⟩
    have t4 := t3.trans (same_new (o := .tup [.int 0, .int 0, .ref a3]) h4)
    refine ⟨one_leT, fun a5 h5 => ?_⟩
    have t5 := t4.trans (same_new (o := .lst [.ref a4]) h5)
    refine ⟨three_le, fun net hn => ?_⟩
    have t6 := t5.trans (same_new (o := .tup [.ref D, .ref a2, .ref a5]) hn)
    exact q net S _ ((s4.trans t5).free hn) (s4.trans t6) ⟨⟨D, a2, a5, us, as, bs, tl, upd_same, SC4.same t6⟩, L4⟩
theorem call__law_net {f : Addr} {fd : FuncData} (B : Blt mg) (ER : Ers K mg)  (F : Fun K "_law_net" "_law_net" s__law_net f fd) (hm : mg "_law_net" = some (.ref f)) : Callee P w K mg base "_law_net" 1 ["_law_rows_here", "_law_turn", "_law_label", "_law_name"] (sp__law_net K) :=
  ⟨f, fd, ok__law_net B ER  F, hm, F.kp, F.binds fun _ _ _ _ _ _ us hl => (by obtain ⟨x0, x1, x2, x3, rfl⟩ := len_4 hl; rfl)⟩

def sp__law_rows (K : PySem.W.Frag) : Sp := fun vs H Q _ => ∃ (a : Addr) (ns : List Int), vs = [.ref a] ∧ SqL K H a (ns.map V.int) ∧ ∀ (R : Addr) (ts : List Addr) (rs : List Rw3) (H' : Hp), H R = none → Same H H' → H' R = some (.lst (ts.map V.ref)) → RwC H' ts rs → Rwz rs → Q (.ref R) H'
set_option maxHeartbeats 4000000 in
seal L2.PE L2.PA L2.PS L2.PSs L2.PT L2.PW L2.PC L2.PG L2.PGs L2.PI L2.PF L2.PSet L2.OpR L2.UnR L2.CallR L2.MtR L2.IxR L2.SlR L2.PO in
theorem ok__law_rows {f : Addr} {fd : FuncData} (B : Blt mg) (ER : Ers K mg) (c__law_cell_at : Callee P w K mg base "_law_cell_at" 1 ["_law_script", "_law_k"] (sp__law_cell_at K)) (F : Fun K "_law_rows" "_law_rows" s__law_rows f fd) : FnOk P w K mg base CX0 2 f fd ["_law_script"] (sp__law_rows K) := by
  refine F.ok sc__law_rows (fun vs H Q E h => ?_) (fun cdv A outer s H vs Q E hr h => ?_)
  · obtain ⟨a, ns, rfl, _⟩ := h
    rfl
  · obtain ⟨a, ns, rfl, hS, q⟩ := h
    refine ⟨_, (pss_cons (ps_set (i := 1) sc__law_rows.nd (pe_op op_mod (pe_fn c__law_cell_at (pa_cons (pv 0) (pa_cons pe_int pa_nil))) pe_int))
      (pss_cons (ps_if (pt_cmpR op_eq (pv 1) pe_int (nomark _)) (pss_one (ps_ret (pe_lst (pa_cons (pe_tup (pa_cons pe_int (pa_cons pe_int (pa_cons pe_int pa_nil)))) (pa_cons (pe_tup (pa_cons pe_int (pa_cons pe_int (pa_cons pe_int pa_nil)))) (pa_cons (pe_tup (pa_cons pe_int (pa_cons pe_int (pa_cons pe_int pa_nil)))) (pa_cons (pe_tup (pa_cons pe_int (pa_cons pe_int (pa_cons pe_int pa_nil)))) (pa_cons (pe_tup (pa_cons pe_int (pa_cons pe_int (pa_cons (pe_op op_add pe_int (pe_op op_mod (pe_op op_fdiv (pe_fn c__law_cell_at (pa_cons (pv 0) (pa_cons pe_int pa_nil))) pe_int) pe_int)) pa_nil)))) pa_nil)))))))) pss_nil)
      (pss_cons (ps_if (pt_cmpR op_eq (pv 1) pe_int (nomark _)) (pss_cons (ps_set (i := 2) sc__law_rows.nd (pe_op op_add pe_int (pe_op op_mod (pe_op op_fdiv (pe_fn c__law_cell_at (pa_cons (pv 0) (pa_cons pe_int pa_nil))) pe_int) pe_int)))
        (pss_cons (ps_set (i := 3) sc__law_rows.nd (pe_lst pa_nil))
        (pss_cons (ps_for PassesOwn.never rfl (pi_range1 rfl B.b_range (pa_cons (pv 2) pa_nil)) (pg_name (i := 4) sc__law_rows.nd) (pss_one (ps_set (i := 3) sc__law_rows.nd (pe_op op_cat (pv 3) (pe_comp rfl _law_rows_cs1 (pi_range1 rfl B.b_range (pa_cons (pv 2) pa_nil)) (fun _ _ _ _ _ => (pg_name (i := 0) _law_rows_cs1.nd)) (fun _ _ _ _ _ => (pf_one (pt_cmpR op_ne (pv 0) (pv 1) (nomark _)))) (fun _ _ _ _ _ => (pe_tup (pa_cons (pv 1) (pa_cons (pv 0) (pa_cons pe_int pa_nil))))))))))
        (pss_one (ps_ret (pv 3)))))) pss_nil)
      (pss_cons (ps_set (i := 3) sc__law_rows.nd (pe_lst pa_nil))
      (pss_cons (ps_for PassesOwn.never rfl (pi_range1 rfl B.b_range (pa_cons pe_int pa_nil)) (pg_name (i := 4) sc__law_rows.nd) (pss_cons (ps_set (i := 5) sc__law_rows.nd (pe_fn c__law_cell_at (pa_cons (pv 0) (pa_cons (pe_op op_add pe_int (pv 4)) pa_nil))))
        (pss_cons (ps_expr (pe_bm PySem.F.plainAttrs_list PySem.F.slot_list_append PySem.F.type_list_append mr_append (pv 3) (pa_cons (pe_tup (pa_cons (pv 4) (pa_cons (pe_op op_mod (pe_op op_add (pe_op op_add (pv 4) pe_int) (pe_op op_mod (pe_op op_fdiv (pv 5) pe_int) pe_int)) pe_int) (pa_cons (pe_op op_mod (pv 5) pe_int) pa_nil)))) pa_nil)))
        (pss_one (ps_expr (pe_bm PySem.F.plainAttrs_list PySem.F.slot_list_append PySem.F.type_list_append mr_append (pv 3) (pa_cons (pe_tup (pa_cons (pv 4) (pa_cons (pe_op op_mod (pe_op op_fdiv (pv 5) pe_int) pe_int) (pa_cons (pe_op op_mod (pe_op op_fdiv (pv 5) pe_int) pe_int) pa_nil)))) pa_nil)))))))
      (pss_one (ps_ret (pv 3)))))))), ?_⟩
    refine ⟨_, rfl, a, ns, 0, rfl, by decide, hS, _, _, rfl, rfl, (by show (0 : Int) < _; decide), ?_⟩
    refine g_in ?_
    try dsimp only
    refine ⟨_, rfl, rfl, _, rfl, ite2 (fun h => ?_) (fun h => ?_)⟩
    · refine ⟨three_le, fun t1 h1 => ?_⟩
      have s1 := same_new (o := .tup [.int 0, .int 1, .int 7]) h1
      have e1 : (upd H t1 (.tup [.int 0, .int 1, .int 7])) t1 = some (.tup [.int 0, .int 1, .int 7]) := upd_same
      generalize upd H t1 (.tup [.int 0, .int 1, .int 7]) = H1 at s1 e1 ⊢
      refine ⟨three_le, fun t2 h2 => ?_⟩
      have s2 := same_new (o := .tup [.int 1, .int 2, .int 3]) h2
      have e2 : (upd H1 t2 (.tup [.int 1, .int 2, .int 3])) t2 = some (.tup [.int 1, .int 2, .int 3]) := upd_same
      generalize upd H1 t2 (.tup [.int 1, .int 2, .int 3]) = H2 at s2 e2 ⊢
      refine ⟨three_le, fun t3 h3 => ?_⟩
      have s3 := same_new (o := .tup [.int 2, .int 3, .int 8]) h3
      have e3 : (upd H2 t3 (.tup [.int 2, .int 3, .int 8])) t3 = some (.tup [.int 2, .int 3, .int 8]) := upd_same
      generalize upd H2 t3 (.tup [.int 2, .int 3, .int 8]) = H3 at s3 e3 ⊢
      refine ⟨three_le, fun t4 h4 => ?_⟩
      have s4 := same_new (o := .tup [.int 0, .int 4, .int 1]) h4
      have e4 : (upd H3 t4 (.tup [.int 0, .int 4, .int 1])) t4 = some (.tup [.int 0, .int 4, .int 1]) := upd_same
      generalize upd H3 t4 (.tup [.int 0, .int 4, .int 1]) = H4 at s4 e4 ⊢
      have s04 := ((s1.trans s2).trans s3).trans s4
      refine ⟨_, rfl, a, ns, 0, rfl, by decide, s04.seq hS, _, _, rfl, rfl, ⟨by decide, by decide⟩, _, _, rfl, rfl, (by show (0 : Int) < _; decide), _, _, rfl, rfl, three_le, fun t5 h5 => ?_⟩
      obtain ⟨m, hm, lm⟩ : ∃ n : Nat, 2 + cellAt ns 0 / 4 % 2 = (n : Int) ∧ n ≤ 3 := ⟨(2 + cellAt ns 0 / 4 % 2).toNat, by omega, by omega⟩
      dsimp only
      rw [hm]
      have s5 := same_new (o := .tup [.int 4, .int 5, .int (m : Int)]) h5
      have e5 : (upd H4 t5 (.tup [.int 4, .int 5, .int (m : Int)])) t5 = some (.tup [.int 4, .int 5, .int (m : Int)]) := upd_same
      generalize upd H4 t5 (.tup [.int 4, .int 5, .int (m : Int)]) = H5 at s5 e5 ⊢
      refine ⟨show 5 ≤ sizeLine by decide, fun R hR => ?_⟩
      have s6 := same_new (o := .lst [.ref t1, .ref t2, .ref t3, .ref t4, .ref t5]) hR
      have s05 := s04.trans s5
      refine q R [t1, t2, t3, t4, t5] [(0, 1, 7), (1, 2, 3), (2, 3, 8), (0, 4, 1), (4, 5, m)] _ (s05.free hR) (s05.trans s6) upd_same ?_ ⟨?_, ?_, show 5 ≤ 60 by decide⟩
      · refine RwC.same s6 ?_
        have z4 := s4.trans s5
        have z3 := s3.trans z4
        have z2 := s2.trans z3
        exact (RwC.one (p := (0, 1, 7)) (z2 _ _ e1)).app ((RwC.one (p := (1, 2, 3)) (z3 _ _ e2)).app ((RwC.one (p := (2, 3, 8)) (z4 _ _ e3)).app ((RwC.one (p := (0, 4, 1)) (s5 _ _ e4)).app (RwC.one (p := (4, 5, m)) e5))))
      · intro r hr
        simp only [List.mem_cons, List.not_mem_nil, or_false] at hr
        rcases hr with rfl | rfl | rfl | rfl | rfl <;> refine ⟨?_, ?_⟩ <;> (dsimp only; omega)
      · intro v
        simp only [tot]
        (repeat' split) <;> omega
    refine ⟨_, rfl, rfl, _, rfl, ite2 (fun h => ?_) (fun h => ?_)⟩
    · refine ⟨_, rfl, a, ns, 0, rfl, by decide, hS, _, _, rfl, rfl, ⟨by decide, by decide⟩, _, _, rfl, rfl, (by show (0 : Int) < _; decide), _, _, rfl, rfl, ?_⟩
      obtain ⟨m, hm, lm⟩ : ∃ n : Nat, 4 + cellAt ns 0 / 4 % 4 = (n : Int) ∧ n ≤ 7 := ⟨(4 + cellAt ns 0 / 4 % 4).toNat, by omega, by omega⟩
      dsimp only
      rw [hm]
      refine g_in ?_
      try dsimp only
      refine ⟨by decide, fun L0 hL0 => ?_⟩
      have s1 := same_new (o := .lst []) hL0
      have e1 : (upd H L0 (.lst [])) L0 = some (.lst []) := upd_same
      generalize upd H L0 (.lst []) = H1 at s1 e1 ⊢
      refine g_in ?_
      try dsimp only
      have em : ((m : Nat) : Int).toNat = m := Int.toNat_natCast _
      refine ⟨_, rfl, _, rfl, by omega, by omega, for_range (lo := 0) (n := ((m : Nat) : Int).toNat) (fun i σ H' => ∃ (L : Addr) (ts : List Addr) (rs : List Rw3) (u4 u5 : Option V), σ = [some (.ref a), some (.int (cellAt ns 0 % 4)), some (.int (m : Int)), some (.ref L), u4, u5] ∧ Same H H' ∧ H L = none ∧ H' L = some (.lst (ts.map V.ref)) ∧ RwC H' ts rs ∧ (∀ r ∈ rs, r.1 < i ∧ r.2.1 < 7) ∧ (∀ v, tot v rs ≤ 7) ∧ rs.length ≤ 7 * i)
        ⟨L0, [], [], none, none, rfl, s1, hL0, e1, RwC.nil, fun r hr => by simp at hr, fun v => Nat.zero_le _, Nat.le_refl _⟩ ?_ ?_⟩
      · rintro i σ H2 hi ⟨L, ts, rs, u4, u5, rfl, s2, fL, eL, C2, B2, T2, N2⟩
        rw [em] at hi
        simp only [Int.zero_add]
        have lt2 := C2.len
        refine ⟨_, rfl, _, rfl, _, rfl, by omega, by omega, comp_rangeT (lo := 0) (n := ((m : Nat) : Int).toNat) (fun E j ys H' => ∃ (tz : List Addr) (rz : List Rw3), ys = tz.map V.ref ∧ Same H2 H' ∧ H' E = some (.lst ys) ∧ RwC H' tz rz ∧ (∀ r ∈ rz, r.1 = i ∧ r.2.1 < 7 ∧ r.2.2 ≤ 1) ∧ rz.length ≤ j) (fun E hE => ⟨[], [], rfl, same_new hE, upd_same, RwC.nil, fun r hr => by simp at hr, Nat.le_refl _⟩) (fun E j ys H3 RR R0 hE hj p k k0 => ?_) (fun E ys H3 hE p => ?_)⟩
        · obtain ⟨tz, rz, rfl, s3, eE, C3, B3, N3⟩ := p
          rw [em] at hj
          simp only [Int.zero_add]
          refine ⟨_, rfl, _, rfl, rfl, _, rfl, ?_⟩
          by_cases c : j = i
          · subst c
            rw [decide_eq_true (show V.int (j : Int) = V.int (j : Int) from rfl)]
            exact iteF (k0 _ ⟨tz, rz, rfl, s3, eE, C3, B3, by omega⟩)
          · rw [decide_eq_false (show ¬ V.int (j : Int) = V.int (i : Int) from fun z => c (by have := V.int.inj z; omega))]
            refine iteT ⟨_, rfl, _, rfl, three_le, fun t ht => ?_⟩
            have s4 := same_new (o := .tup [.int (i : Int), .int (j : Int), .int 1]) ht
            have et : (upd H3 t (.tup [.int (i : Int), .int (j : Int), .int 1])) t = some (.tup [.int (i : Int), .int (j : Int), .int 1]) := upd_same
            generalize upd H3 t (.tup [.int (i : Int), .int (j : Int), .int 1]) = H4 at s4 et ⊢
            have lz := C3.len
            refine k _ _ (s4 _ _ eE) (by rw [List.length_map]; exact small1000 (by omega)) ⟨tz ++ [t], rz ++ [(i, j, 1)], by rw [List.map_append]; rfl, fun x o e => ?_, upd_same, ((C3.same s4).app (RwC.one (p := (i, j, 1)) et)).updL (s4 _ _ eE), fun r hr => ?_, by rw [List.length_append, List.length_singleton]; omega⟩
            · rw [upd_ne (ne_of_none e hE)]; exact s4 _ _ (s3 x o e)
            · rcases List.mem_append.mp hr with hr | hr
              · exact B3 r hr
              · rw [List.mem_singleton.mp hr]; exact ⟨rfl, by show j < 7; omega, Nat.le_refl _⟩
        · obtain ⟨tz, rz, rfl, s3, eE, C3, B3, N3⟩ := p
          have lz := C3.len
          refine ⟨L, E, _, _, rfl, rfl, s3 _ _ eL, eE, by rw [List.length_map, List.length_map]; exact Nat.le_of_lt (small1000 (by omega)), fun L3 hL3 => ?_⟩
          refine g_in ?_
          try dsimp only
          have s4 := same_new (o := .lst (ts.map V.ref ++ tz.map V.ref)) hL3
          refine ⟨L3, ts ++ tz, rs ++ rz, _, _, rfl, (s2.trans s3).trans s4, (s2.trans s3).free hL3, by rw [upd_same, List.map_append], (((C2.same s3).app C3).same s4), fun r hr => ?_, fun v => ?_, by rw [List.length_append]; omega⟩
          · rcases List.mem_append.mp hr with hr | hr
            · have := B2 r hr; exact ⟨by omega, this.2⟩
            · have := B3 r hr; exact ⟨by omega, this.2.1⟩
          · rw [tot_app]
            have t3 := tot_le (v := v) fun r hr => (B3 r hr).2.2
            have t2 := T2 v
            by_cases c : v = i
            · subst c
              rw [tot_no fun r hr => by have := (B2 r hr).1; omega]
              omega
            · rw [tot_no (l := rz) fun r hr => by have := (B3 r hr).1; omega]
              omega
      · rintro σ H2 ⟨L, ts, rs, u4, u5, rfl, s2, fL, eL, C2, B2, T2, N2⟩
        rw [em] at B2 N2
        exact ⟨_, rfl, q L ts rs H2 fL s2 eL C2 ⟨fun r hr => by have := B2 r hr; exact ⟨by omega, this.2⟩, fun v => by have := T2 v; omega, by omega⟩⟩
    refine ⟨by decide, fun D hD => ?_⟩
    have s1 := same_new (o := .lst []) hD
    have e1 : (upd H D (.lst [])) D = some (.lst []) := upd_same
    generalize upd H D (.lst []) = H1 at s1 e1 ⊢
    refine g_in ?_
    try dsimp only
    refine ⟨_, rfl, by decide, by decide, for_range (lo := 0) (n := (6 : Int).toNat) (fun i σ H' => ∃ (ts : List Addr) (rs : List Rw3) (u4 u5 : Option V), σ = [some (.ref a), some (.int (cellAt ns 0 % 4)), none, some (.ref D), u4, u5] ∧ Same H H' ∧ H' D = some (.lst (ts.map V.ref)) ∧ RwC H' ts rs ∧ (∀ r ∈ rs, r.1 < i ∧ r.2.1 < 7) ∧ (∀ v, tot v rs ≤ 7) ∧ rs.length = 2 * i)
      ⟨[], [], none, none, rfl, s1, e1, RwC.nil, fun r hr => by simp at hr, fun v => Nat.zero_le _, rfl⟩ ?_ ?_⟩
    · rintro i σ H2 hi ⟨ts, rs, u4, u5, rfl, s2, eD, C2, B2, T2, N2⟩
      have hi : i < 6 := hi
      simp only [Int.zero_add]
      have lt2 := C2.len
      refine ⟨_, rfl, _, rfl, _, _, rfl, rfl, a, ns, 2 + (i : Int), rfl, by omega, s2.seq hS, ?_⟩
      generalize cellAt ns (2 + (i : Int)) = c
      refine g_in ?_
      try dsimp only
      refine ⟨_, rfl, Or.inl ⟨rfl, _, SqL.of eD⟩, _, rfl, _, rfl, _, _, rfl, rfl, _, rfl, _, _, rfl, rfl, ⟨by decide, by decide⟩, _, _, rfl, rfl, (by show (0 : Int) < _; decide), _, _, rfl, rfl, _, _, rfl, rfl, (by show (0 : Int) < _; decide), _, rfl, _, _, rfl, rfl, (by show (0 : Int) < _; decide), three_le, fun t ht => ?_⟩
      obtain ⟨o1, ho1, lo1⟩ : ∃ n : Nat, ((i : Int) + 1 + c / 9 % 2) % 7 = (n : Int) ∧ n < 7 := ⟨(((i : Int) + 1 + c / 9 % 2) % 7).toNat, by omega, by omega⟩
      obtain ⟨m1, hm1, lm1⟩ : ∃ n : Nat, c % 6 = (n : Int) ∧ n < 6 := ⟨(c % 6).toNat, by omega, by omega⟩
      obtain ⟨o2, ho2, lo2⟩ : ∃ n : Nat, c / 18 % 7 = (n : Int) ∧ n < 7 := ⟨(c / 18 % 7).toNat, by omega, by omega⟩
      obtain ⟨m2, hm2, lm2⟩ : ∃ n : Nat, c / 126 % 3 = (n : Int) ∧ n < 3 := ⟨(c / 126 % 3).toNat, by omega, by omega⟩
      dsimp only
      rw [ho1, hm1]
      have s3 := same_new (o := .tup [.int (i : Int), .int (o1 : Int), .int (m1 : Int)]) ht
      have et : (upd H2 t (.tup [.int (i : Int), .int (o1 : Int), .int (m1 : Int)])) t = some (.tup [.int (i : Int), .int (o1 : Int), .int (m1 : Int)]) := upd_same
      generalize upd H2 t (.tup [.int (i : Int), .int (o1 : Int), .int (m1 : Int)]) = H3 at s3 et ⊢
      have eD3 := s3 _ _ eD
      refine ⟨D, _, _, rfl, rfl, eD3, by rw [List.length_map]; exact small1000 (by omega), ?_⟩
      have s4 : Same H (upd H3 D (.lst (ts.map V.ref ++ [.ref t]))) := fun x o e => by rw [upd_ne (ne_of_none e hD)]; exact s3 _ _ (s2 x o e)
      have e4 : (upd H3 D (.lst (ts.map V.ref ++ [.ref t]))) D = some (.lst ((ts ++ [t]).map V.ref)) := by rw [upd_same, List.map_append]; rfl
      have C4 := ((C2.same s3).app (RwC.one (p := (i, o1, m1)) et)).updL (o := .lst (ts.map V.ref ++ [.ref t])) eD3
      generalize upd H3 D (.lst (ts.map V.ref ++ [.ref t])) = H4 at s4 e4 C4 ⊢
      refine ⟨_, rfl, Or.inl ⟨rfl, _, SqL.of e4⟩, _, rfl, _, rfl, _, _, rfl, rfl, ⟨by decide, by decide⟩, _, _, rfl, rfl, (by show (0 : Int) < _; decide), _, rfl, _, _, rfl, rfl, ⟨by decide, by decide⟩, _, _, rfl, rfl, (by show (0 : Int) < _; decide), three_le, fun t2 ht2 => ?_⟩
      dsimp only
      rw [ho2, hm2]
      have s5 := same_new (o := .tup [.int (i : Int), .int (o2 : Int), .int (m2 : Int)]) ht2
      have et2 : (upd H4 t2 (.tup [.int (i : Int), .int (o2 : Int), .int (m2 : Int)])) t2 = some (.tup [.int (i : Int), .int (o2 : Int), .int (m2 : Int)]) := upd_same
      generalize upd H4 t2 (.tup [.int (i : Int), .int (o2 : Int), .int (m2 : Int)]) = H5 at s5 et2 ⊢
      have eD5 := s5 _ _ e4
      refine ⟨D, _, _, rfl, rfl, eD5, by rw [List.length_map, List.length_append, List.length_singleton]; exact small1000 (by omega), ?_⟩
      refine ⟨ts ++ [t] ++ [t2], rs ++ [(i, o1, m1)] ++ [(i, o2, m2)], _, _, rfl, fun x o e => ?_, by rw [upd_same, List.map_append (l₁ := ts ++ [t])]; rfl, ((C4.same s5).app (RwC.one (p := (i, o2, m2)) et2)).updL eD5, fun r hr => ?_, fun v => ?_, by rw [List.length_append, List.length_append, List.length_singleton, List.length_singleton]; omega⟩
      · rw [upd_ne (ne_of_none e hD)]; exact s5 _ _ (s4 x o e)
      · rcases List.mem_append.mp hr with hr | hr
        · rcases List.mem_append.mp hr with hr | hr
          · have := B2 r hr; exact ⟨by omega, this.2⟩
          · rw [List.mem_singleton.mp hr]; exact ⟨Nat.lt_succ_self i, lo1⟩
        · rw [List.mem_singleton.mp hr]; exact ⟨Nat.lt_succ_self i, lo2⟩
      · rw [tot_app, tot_app]
        have t2 := T2 v
        simp only [tot]
        by_cases c : i = v
        · subst c
          rw [tot_no fun r hr => by have := (B2 r hr).1; omega]
          simp
          omega
        · rw [if_neg c, if_neg c]
          omega
    · rintro σ H2 ⟨ts, rs, u4, u5, rfl, s2, eD, C2, B2, T2, N2⟩
      exact ⟨_, rfl, q D ts rs H2 hD s2 eD C2 ⟨fun r hr => by have := B2 r hr; exact ⟨Nat.lt_of_lt_of_le this.1 (by decide), this.2⟩, fun v => by have := T2 v; omega, by rw [N2]; decide⟩⟩
theorem call__law_rows {f : Addr} {fd : FuncData} (B : Blt mg) (ER : Ers K mg) (c__law_cell_at : Callee P w K mg base "_law_cell_at" 1 ["_law_script", "_law_k"] (sp__law_cell_at K)) (F : Fun K "_law_rows" "_law_rows" s__law_rows f fd) (hm : mg "_law_rows" = some (.ref f)) : Callee P w K mg base "_law_rows" 2 ["_law_script"] (sp__law_rows K) :=
  ⟨f, fd, ok__law_rows B ER c__law_cell_at F, hm, F.kp, F.binds fun _ _ _ _ _ _ us hl => (by obtain ⟨x0, rfl⟩ := len_1 hl; rfl)⟩

def sp_next_state (_ : PySem.W.Frag) : Sp := fun vs H Q _ => ∃ (t : Addr) (lab w : Str), vs = [.ref t, .int 0, .str w] ∧ TabC H t lab ∧ (lab = w → Q (.int 0) H) ∧ (lab ≠ w → Q .non H)
set_option maxHeartbeats 4000000 in
seal L2.PE L2.PA L2.PS L2.PSs L2.PT L2.PW L2.PC L2.PG L2.PGs L2.PI L2.PF L2.PSet L2.OpR L2.UnR L2.CallR L2.MtR L2.IxR L2.SlR L2.PO in
theorem ok_next_state {f : Addr} {fd : FuncData} (B : Blt mg) (ER : Ers K mg)  (F : Fun K "next_state" "next_state" s_next_state f fd) : FnOk P w K mg base CX0 1 f fd ["table", "state", "label"] (sp_next_state K) := by
  refine F.ok sc_next_state (fun vs H Q E h => ?_) (fun cdv A outer s H vs Q E hr h => ?_)
  · obtain ⟨t, lab, w, rfl, _⟩ := h
    rfl
  · obtain ⟨t, lab, w, rfl, ⟨a, o, u, g, e, gt, h1, h2, h3, h4, h5, h6⟩, qy, qn⟩ := h
    refine ⟨_, (pss_cons (ps_set (i := 3) sc_next_state.nd (pe_ix ix_seq (pe_ix ix_seq (pe_ix ix_seq (pv 0) pe_int) (pv 1)) pe_int))
      (pss_cons (ps_for PassesOwn.never rfl (pi_list (pv 3)) (pg_tup (n := 2) rfl (pgs_cons (pg_name (i := 4) sc_next_state.nd) (pgs_cons (pg_name (i := 5) sc_next_state.nd) pgs_nil))) (pss_one (ps_if (pt_cmpR op_eq (pv 4) (pv 2) (nomark _)) (pss_one (ps_ret (pv 5))) pss_nil)))
      (pss_one (ps_ret pe_non)))), ?_⟩
    refine ⟨_, rfl, Or.inr (Or.inl ⟨t, _, _, .ref a, rfl, rfl, SqT.of h1, rfl, _, rfl, Or.inl ⟨a, _, _, .ref u, rfl, rfl, SqL.of h2, rfl, Or.inr (Or.inl ⟨u, _, _, .ref g, rfl, rfl, SqT.of h3, rfl, ?_⟩)⟩⟩)⟩
    refine g_in ?_
    try dsimp only
    refine ⟨_, rfl, g, rfl, ⟨_, SqL.of h4⟩, for_list (xs := [.ref gt]) (fun i σ H' => ∃ u4 u5, σ = [some (.ref t), some (.int 0), some (.str w), some (.ref g), u4, u5] ∧ H' = H ∧ (0 < i → lab ≠ w)) ⟨none, none, rfl, rfl, fun z => absurd z (Nat.lt_irrefl _)⟩ (fun i σ H' _ ⟨_, _, _, e, _⟩ => by rw [e]; exact SqL.of h4) ?_ ?_⟩
    · rintro i x σ H2 hx ⟨u4, u5, rfl, rfl, _⟩
      obtain rfl : x = .ref gt := by
        cases i with
        | zero => cases hx; rfl
        | succ i => simp at hx
      refine ⟨gt, _, rfl, SqT.of h5, rfl, _, _, rfl, _, _, rfl, rfl, ?_⟩
      refine ⟨_, rfl, _, rfl, rfl, _, rfl, ?_⟩
      by_cases e : lab = w
      · rw [decide_eq_true (show V.str lab = V.str w by rw [e])]
        exact iteT ⟨_, rfl, qy e⟩
      · rw [decide_eq_false (show ¬ V.str lab = V.str w from fun z => e (V.str.inj z))]
        exact iteF ⟨_, _, rfl, rfl, fun _ => e⟩
    · rintro σ H2 ⟨u4, u5, rfl, rfl, hn⟩
      exact qn (hn Nat.zero_lt_one)
theorem call_next_state {f : Addr} {fd : FuncData} (B : Blt mg) (ER : Ers K mg)  (F : Fun K "next_state" "next_state" s_next_state f fd) (hm : mg "next_state" = some (.ref f)) : Callee P w K mg base "next_state" 1 ["table", "state", "label"] (sp_next_state K) :=
  ⟨f, fd, ok_next_state B ER  F, hm, F.kp, F.binds fun _ _ _ _ _ _ us hl => (by obtain ⟨x0, x1, x2, rfl⟩ := len_3 hl; rfl)⟩

def sp_inside_of_sort (_ : PySem.W.Frag) : Sp := fun vs _ _ _ => vs.length = 3 ∧ False
set_option maxHeartbeats 4000000 in
seal L2.PE L2.PA L2.PS L2.PSs L2.PT L2.PW L2.PC L2.PG L2.PGs L2.PI L2.PF L2.PSet L2.OpR L2.UnR L2.CallR L2.MtR L2.IxR L2.SlR L2.PO in
theorem ok_inside_of_sort {f : Addr} {fd : FuncData} (B : Blt mg) (ER : Ers K mg)  (F : Fun K "inside_of_sort" "inside_of_sort" s_inside_of_sort f fd) : FnOk P w K mg base CX0 1 f fd ["net", "answers", "question"] (sp_inside_of_sort K) := by
  refine F.ok sc_inside_of_sort (fun vs H Q E h => ?_) (fun cdv A outer s H vs Q E hr h => ?_)
  · exact h.1
  · have hf : False := h.2
    refine ⟨_, (pss_cons (ps_set (i := 3) sc_inside_of_sort.nd (pe_ix ix_seq (pv 1) (pv 2)))
      (pss_cons (ps_if (pt_cmp (pc_isN (pv 3))) (pss_one (ps_ret (pe_tup (pa_cons pe_str (pa_cons (pv 2) pa_nil))))) pss_nil)
      (pss_cons (ps_if (pt_cmpR op_eq (pe_ix ix_seq (pv 3) pe_int) pe_str (nomark _)) (pss_cons (ps_asg (pe_ix ix_seq (pe_ix ix_seq (pv 0) pe_int) (pe_ix ix_seq (pv 3) pe_int)) (pg_tup (n := 2) rfl (pgs_cons (pg_name (i := 4) sc_inside_of_sort.nd) (pgs_cons (pg_name (i := 5) sc_inside_of_sort.nd) pgs_nil))))
        (pss_one (ps_if (pt_cmpR op_eq (pv 4) pe_str (nomark _)) (pss_one (ps_ret (pe_tup (pa_cons pe_str (pa_cons (pv 5) pa_nil))))) pss_nil))) pss_nil)
      (pss_one (ps_ret (pe_tup (pa_cons pe_str (pa_cons pe_int pa_nil)))))))), ?_⟩
    exact hf.elim
theorem call_inside_of_sort {f : Addr} {fd : FuncData} (B : Blt mg) (ER : Ers K mg)  (F : Fun K "inside_of_sort" "inside_of_sort" s_inside_of_sort f fd) (hm : mg "inside_of_sort" = some (.ref f)) : Callee P w K mg base "inside_of_sort" 1 ["net", "answers", "question"] (sp_inside_of_sort K) :=
  ⟨f, fd, ok_inside_of_sort B ER  F, hm, F.kp, F.binds fun _ _ _ _ _ _ us hl => (by obtain ⟨x0, x1, x2, rfl⟩ := len_3 hl; rfl)⟩

def sp_inside (_ : PySem.W.Frag) : Sp := fun vs _ _ _ => vs.length = 3 ∧ False
set_option maxHeartbeats 4000000 in
seal L2.PE L2.PA L2.PS L2.PSs L2.PT L2.PW L2.PC L2.PG L2.PGs L2.PI L2.PF L2.PSet L2.OpR L2.UnR L2.CallR L2.MtR L2.IxR L2.SlR L2.PO in
theorem ok_inside {f : Addr} {fd : FuncData} (B : Blt mg) (ER : Ers K mg) (c_inside_of_sort : Callee P w K mg base "inside_of_sort" 1 ["net", "answers", "question"] (sp_inside_of_sort K)) (F : Fun K "inside" "inside" s_inside f fd) : FnOk P w K mg base CX0 2 f fd ["net", "answers", "thing"] (sp_inside K) := by
  refine F.ok sc_inside (fun vs H Q E h => ?_) (fun cdv A outer s H vs Q E hr h => ?_)
  · exact h.1
  · have hf : False := h.2
    refine ⟨_, (pss_cons (ps_asg (pe_ix ix_seq (pe_ix ix_seq (pv 0) pe_int) (pv 2)) (pg_tup (n := 2) rfl (pgs_cons (pg_name (i := 3) sc_inside.nd) (pgs_cons (pg_name (i := 4) sc_inside.nd) pgs_nil))))
      (pss_cons (ps_if (pt_cmpR op_eq (pv 3) pe_str (nomark _)) (pss_one (ps_ret (pe_tup (pa_cons pe_str (pa_cons (pv 4) pa_nil))))) pss_nil)
      (pss_cons (ps_if (pt_cmpR op_eq (pv 3) pe_str (nomark _)) (pss_one (ps_ret (pe_fn c_inside_of_sort (pa_cons (pv 0) (pa_cons (pv 1) (pa_cons (pv 4) pa_nil)))))) pss_nil)
      (pss_one (ps_ret (pe_tup (pa_cons pe_str (pa_cons pe_int pa_nil)))))))), ?_⟩
    exact hf.elim
theorem call_inside {f : Addr} {fd : FuncData} (B : Blt mg) (ER : Ers K mg) (c_inside_of_sort : Callee P w K mg base "inside_of_sort" 1 ["net", "answers", "question"] (sp_inside_of_sort K)) (F : Fun K "inside" "inside" s_inside f fd) (hm : mg "inside" = some (.ref f)) : Callee P w K mg base "inside" 2 ["net", "answers", "thing"] (sp_inside K) :=
  ⟨f, fd, ok_inside B ER c_inside_of_sort F, hm, F.kp, F.binds fun _ _ _ _ _ _ us hl => (by obtain ⟨x0, x1, x2, rfl⟩ := len_3 hl; rfl)⟩

def sp_goal (K : PySem.W.Frag) : Sp := fun vs H Q _ => ∃ (net ans : V) (t : Addr) (w : Str) (k : Int), vs = [net, ans, .ref t] ∧ SqT K H t [.str w, .str "to", .int k] ∧ ∀ (r : Addr) (H' : Hp), H r = none → Same H H' → H' r = some (.tup [.str "to", .int k]) → Q (.ref r) H'
set_option maxHeartbeats 4000000 in
seal L2.PE L2.PA L2.PS L2.PSs L2.PT L2.PW L2.PC L2.PG L2.PGs L2.PI L2.PF L2.PSet L2.OpR L2.UnR L2.CallR L2.MtR L2.IxR L2.SlR L2.PO in
theorem ok_goal {f : Addr} {fd : FuncData} (B : Blt mg) (ER : Ers K mg) (c_inside : Callee P w K mg base "inside" 2 ["net", "answers", "thing"] (sp_inside K)) (F : Fun K "goal" "goal" s_goal f fd) : FnOk P w K mg base CX0 3 f fd ["net", "answers", "step"] (sp_goal K) := by
  refine F.ok sc_goal (fun vs H Q E h => ?_) (fun cdv A outer s H vs Q E hr h => ?_)
  · obtain ⟨net, ans, t, w, k, rfl, _⟩ := h
    rfl
  · obtain ⟨net, ans, t, w, k, rfl, hT, q⟩ := h
    refine ⟨_, (pss_cons (ps_asg (pv 2) (pg_tup (n := 3) rfl (pgs_cons (pg_name (i := 3) sc_goal.nd) (pgs_cons (pg_name (i := 4) sc_goal.nd) (pgs_cons (pg_name (i := 5) sc_goal.nd) pgs_nil)))))
      (pss_cons (ps_if (pt_cmpR op_eq (pv 4) pe_str (nomark _)) (pss_one (ps_ret (pe_tup (pa_cons pe_str (pa_cons (pv 5) pa_nil))))) pss_nil)
      (pss_cons (ps_set (i := 6) sc_goal.nd (pe_ix ix_seq (pv 1) (pv 5)))
      (pss_cons (ps_if (pt_cmp (pc_isN (pv 6))) (pss_one (ps_ret (pe_tup (pa_cons pe_str (pa_cons (pv 5) pa_nil))))) pss_nil)
      (pss_cons (ps_if (pt_cmpR op_eq (pe_ix ix_seq (pv 6) pe_int) pe_str (nomark _)) (pss_one (ps_ret (pe_fn c_inside (pa_cons (pv 0) (pa_cons (pv 1) (pa_cons (pe_ix ix_seq (pv 6) pe_int) pa_nil)))))) pss_nil)
      (pss_one (ps_ret (pe_tup (pa_cons pe_str (pa_cons pe_int pa_nil)))))))))), ?_⟩
    refine ⟨_, rfl, t, _, rfl, hT, rfl, _, _, rfl, _, _, rfl, _, _, rfl, rfl, ?_⟩
    refine ⟨_, rfl, rfl, _, rfl, iteT ?_⟩
    exact ⟨_, rfl, two_le, fun r hr => q r _ hr (same_new hr) upd_same⟩
theorem call_goal {f : Addr} {fd : FuncData} (B : Blt mg) (ER : Ers K mg) (c_inside : Callee P w K mg base "inside" 2 ["net", "answers", "thing"] (sp_inside K)) (F : Fun K "goal" "goal" s_goal f fd) (hm : mg "goal" = some (.ref f)) : Callee P w K mg base "goal" 3 ["net", "answers", "step"] (sp_goal K) :=
  ⟨f, fd, ok_goal B ER c_inside F, hm, F.kp, F.binds fun _ _ _ _ _ _ us hl => (by obtain ⟨x0, x1, x2, rfl⟩ := len_3 hl; rfl)⟩
/-- steps gone, as they are told -/
structure Gn (H : Hp) (v : Nat) (gs : List Addr) (xs : List (Nat × Nat)) : Prop where
  len : gs.length = xs.length
  at_ : ∀ (n : Nat) (g : Addr) (x : Nat × Nat), gs[n]? = some g → xs[n]? = some x → ∃ m, H g = some (.tup [.ref m, .str "to", .int (x.2 : Int), .int 0]) ∧ H m = some (.tup [.int (v : Int), .str "step", .int (x.1 : Int)])
theorem Gn.nil {H : Hp} {v : Nat} : Gn H v [] [] := ⟨rfl, fun n g x h => by simp at h⟩
theorem Gn.same {H H' : Hp} {v : Nat} {gs : List Addr} {xs : List (Nat × Nat)} (e : Same H H') (h : Gn H v gs xs) : Gn H' v gs xs := ⟨h.len, fun n g x a b => let ⟨m, h1, h2⟩ := h.at_ n g x a b; ⟨m, e _ _ h1, e _ _ h2⟩⟩
theorem Gn.updL {H : Hp} {v : Nat} {D : Addr} {o : HO} {ys : List V} {gs : List Addr} {xs : List (Nat × Nat)} (hD : H D = some (.lst ys)) (h : Gn H v gs xs) : Gn (upd H D o) v gs xs := ⟨h.len, fun n g x a b => by
  obtain ⟨m, h1, h2⟩ := h.at_ n g x a b
  exact ⟨m, by rw [upd_ne fun z => by rw [z, hD] at h1; cases h1]; exact h1, by rw [upd_ne fun z => by rw [z, hD] at h2; cases h2]; exact h2⟩⟩
theorem Gn.snoc {H : Hp} {v : Nat} {g m : Addr} {gs : List Addr} {xs : List (Nat × Nat)} {x : Nat × Nat} (h : Gn H v gs xs) (e1 : H g = some (.tup [.ref m, .str "to", .int (x.2 : Int), .int 0])) (e2 : H m = some (.tup [.int (v : Int), .str "step", .int (x.1 : Int)])) : Gn H v (gs ++ [g]) (xs ++ [x]) := by
  refine ⟨by rw [List.length_append, List.length_append, h.len]; rfl, fun n v' q h1 h2 => ?_⟩
  rcases Nat.lt_or_ge n gs.length with hlt | hge
  · rw [List.getElem?_append_left hlt] at h1
    rw [List.getElem?_append_left (by rw [← h.len]; exact hlt)] at h2
    exact h.at_ n v' q h1 h2
  · have hn1 : n < (gs ++ [g]).length := (List.getElem?_eq_some_iff.mp h1).1
    rw [List.length_append, List.length_singleton] at hn1
    have e' : n = gs.length := by omega
    subst e'
    rw [List.getElem?_append_right (Nat.le_refl _), Nat.sub_self] at h1
    rw [List.getElem?_append_right (by rw [h.len]; exact Nat.le_refl _), h.len, Nat.sub_self] at h2
    cases h1; cases h2
    exact ⟨m, e1, e2⟩

def sp_steps_gone (_ : PySem.W.Frag) : Sp := fun vs H Q _ => ∃ (net t : Addr) (ans : V) (v : Nat) (lab nam : Str) (S : Nat → List (Str × Nat)), vs = [.ref net, ans, .ref t, .int (v : Int), .int 0] ∧ v < 7 ∧ NetC H net lab nam S ∧ TabC H t lab ∧ ∀ (D : Addr) (gs : List Addr) (H' : Hp), H D = none → Same H H' → H' D = some (.lst (gs.map V.ref)) → Gn H' v gs (goneN lab 0 (S v)) → Q (.ref D) H'
set_option maxHeartbeats 4000000 in
seal L2.PE L2.PA L2.PS L2.PSs L2.PT L2.PW L2.PC L2.PG L2.PGs L2.PI L2.PF L2.PSet L2.OpR L2.UnR L2.CallR L2.MtR L2.IxR L2.SlR L2.PO in
theorem ok_steps_gone {f : Addr} {fd : FuncData} (B : Blt mg) (ER : Ers K mg) (c_next_state : Callee P w K mg base "next_state" 1 ["table", "state", "label"] (sp_next_state K)) (c_goal : Callee P w K mg base "goal" 3 ["net", "answers", "step"] (sp_goal K)) (F : Fun K "steps_gone" "steps_gone" s_steps_gone f fd) : FnOk P w K mg base CX0 4 f fd ["net", "answers", "table", "scope", "state"] (sp_steps_gone K) := by
  refine F.ok sc_steps_gone (fun vs H Q E h => ?_) (fun cdv A outer s H vs Q E hr h => ?_)
  · obtain ⟨net, t, ans, v, lab, nam, S, rfl, _⟩ := h
    rfl
  · obtain ⟨net, t, ans, v, lab, nam, S, rfl, hv, N, T, q⟩ := h
    obtain ⟨sc, th, qu, us, as, bs, tl, en, SC⟩ := id N.ex
    obtain ⟨ts, ea, hs⟩ := SC.stp v hv
    have eu := SC.sco v hv
    have h8 := (N.le v hv).1
    have hlt := hs.len
    refine ⟨_, (pss_cons (ps_set (i := 5) sc_steps_gone.nd (pe_lst pa_nil))
      (pss_cons (ps_for PassesOwn.never rfl (pi_enum rfl B.b_enumerate (pa_cons (pe_ix ix_seq (pe_ix ix_seq (pe_ix ix_seq (pv 0) pe_int) (pv 3)) pe_int) pa_nil)) (pg_tup (n := 2) rfl (pgs_cons (pg_name (i := 6) sc_steps_gone.nd) (pgs_cons (pg_name (i := 7) sc_steps_gone.nd) pgs_nil))) (pss_cons (ps_set (i := 8) sc_steps_gone.nd (pe_fn c_next_state (pa_cons (pv 2) (pa_cons (pv 4) (pa_cons (pe_ix ix_seq (pv 7) pe_int) pa_nil)))))
        (pss_one (ps_if (pt_cmp (pc_notN (pv 8))) (pss_cons (ps_asg (pe_fn c_goal (pa_cons (pv 0) (pa_cons (pv 1) (pa_cons (pv 7) pa_nil)))) (pg_tup (n := 2) rfl (pgs_cons (pg_name (i := 9) sc_steps_gone.nd) (pgs_cons (pg_name (i := 10) sc_steps_gone.nd) pgs_nil))))
          (pss_one (ps_expr (pe_bm PySem.F.plainAttrs_list PySem.F.slot_list_append PySem.F.type_list_append mr_append (pv 5) (pa_cons (pe_tup (pa_cons (pe_tup (pa_cons (pv 3) (pa_cons pe_str (pa_cons (pv 6) pa_nil)))) (pa_cons (pv 9) (pa_cons (pv 10) (pa_cons (pv 8) pa_nil))))) pa_nil))))) pss_nil))))
      (pss_one (ps_ret (pv 5))))), ?_⟩
    refine ⟨by decide, fun D hD => ?_⟩
    have s1 := same_new (o := .lst []) hD
    have hu : (us.map V.ref)[v]? = some (.ref (us.getD v 0)) := by rw [List.getElem?_map, getD_at0 (by rw [SC.lu]; exact hv)]; rfl
    refine ⟨_, rfl, Or.inr (Or.inl ⟨net, _, _, .ref sc, rfl, rfl, SqT.of (s1 _ _ en), rfl, _, rfl, Or.inl ⟨sc, _, _, .ref (us.getD v 0), rfl, rfl, SqL.of (s1 _ _ SC.top), atI_nat hu, Or.inr (Or.inl ⟨us.getD v 0, _, _, .ref (as.getD v 0), rfl, rfl, SqT.of (s1 _ _ eu), rfl, as.getD v 0, rfl, ⟨_, s1 _ _ ea⟩, for_enum (xs := ts.map V.ref) (fun i σ H' => ∃ u6 u7 u8 u9 u10 gs, σ = [some (.ref net), some ans, some (.ref t), some (.int (v : Int)), some (.int 0), some (.ref D), u6, u7, u8, u9, u10] ∧ Same H H' ∧ H' D = some (.lst (gs.map V.ref)) ∧ Gn H' v gs (goneN lab 0 ((S v).take i)))
      ⟨none, none, none, none, none, [], rfl, s1, upd_same, Gn.nil⟩ (fun i σ H' ⟨_, _, _, _, _, _, _, e, _⟩ => SqL.of (e _ _ ea)) ?_ ?_⟩)⟩⟩)⟩
    · rintro i x Tt σ H2 hx hT ⟨u6, u7, u8, u9, u10, gs, rfl, s2, eD, hg⟩
      rw [List.getElem?_map] at hx
      obtain ⟨tt, htt, rfl⟩ := Option.map_eq_some_iff.mp hx
      have hil : i < (S v).length := by rw [← hlt]; exact (List.getElem?_eq_some_iff.mp htt).1
      have hp := List.getElem?_eq_getElem hil
      have ett := hs.at_ i tt _ htt hp
      have etk : (S v).take (i + 1) = (S v).take i ++ [(S v)[i]] := by rw [List.take_succ, hp]; rfl
      have hgo := goneN_snoc lab ((S v).take i) 0 (S v)[i]
      rw [← etk, Nat.zero_add, List.length_take, show min i (S v).length = i by omega] at hgo
      have hgl : gs.length ≤ 8 := by
        have := goneN_len lab ((S v).take i) 0
        rw [← hg.len, List.length_take] at this
        omega
      generalize (S v)[i] = p at ett hgo hp
      have s3 := s2.trans (same_new (o := .tup [.int i, .ref tt]) hT)
      have eD3 := same_new (o := .tup [.int i, .ref tt]) hT _ _ eD
      have hg3 := hg.same (same_new (o := .tup [.int i, .ref tt]) hT)
      refine ⟨Tt, _, rfl, SqT.of upd_same, rfl, _, _, rfl, _, _, rfl, rfl, ?_⟩
      generalize upd H2 Tt (.tup [.int i, .ref tt]) = H3 at s3 eD3 hg3 ⊢
      refine ⟨_, rfl, _, rfl, _, rfl, Or.inr (Or.inl ⟨tt, _, _, .str p.1, rfl, rfl, SqT.of (s3 _ _ ett), rfl, t, lab, p.1, rfl, T.same s3, fun e => ?_, fun e => ?_⟩)⟩
      · rw [if_pos e.symm] at hgo
        refine g_in ?_
        try dsimp only
        refine ⟨_, rfl, _, rfl, iteT ?_⟩
        refine ⟨_, rfl, _, rfl, _, rfl, _, _, tt, p.1, _, rfl, SqT.of (s3 _ _ ett), fun r H4 hr s4 er => ⟨r, _, rfl, SqT.of er, rfl, _, _, rfl, _, _, rfl, rfl, ?_⟩⟩
        refine ⟨_, rfl, Or.inl ⟨rfl, _, SqL.of (s4 _ _ eD3)⟩, _, rfl, _, rfl, three_le, fun m hm => ?_⟩
        have s5 := same_new (o := .tup [.int (v : Int), .str "step", .int (i : Int)]) hm
        have em : (upd H4 m (.tup [.int (v : Int), .str "step", .int (i : Int)])) m = some (.tup [.int (v : Int), .str "step", .int (i : Int)]) := upd_same
        generalize upd H4 m (.tup [.int (v : Int), .str "step", .int (i : Int)]) = H5 at s5 em ⊢
        refine ⟨_, rfl, _, rfl, _, rfl, four_le, fun g hgn => ?_⟩
        have s6 := same_new (o := .tup [.ref m, .str "to", .int (p.2 : Int), .int 0]) hgn
        have eg : (upd H5 g (.tup [.ref m, .str "to", .int (p.2 : Int), .int 0])) g = some (.tup [.ref m, .str "to", .int (p.2 : Int), .int 0]) := upd_same
        generalize upd H5 g (.tup [.ref m, .str "to", .int (p.2 : Int), .int 0]) = H6 at s6 eg ⊢
        have s36 := (s4.trans s5).trans s6
        have eD6 := s36 _ _ eD3
        refine ⟨D, _, _, rfl, rfl, eD6, by rw [List.length_map]; exact small1000 (by omega), ?_⟩
        refine ⟨_, _, _, _, _, gs ++ [g], rfl, fun b o e => ?_, by rw [upd_same, List.map_append]; rfl, ?_⟩
        · rw [upd_ne (ne_of_none e hD)]; exact s36 _ _ (s3 b o e)
        · rw [hgo]
          exact ((hg3.same s36).snoc (x := (i, p.2)) eg (s6 _ _ em)).updL eD6
      · rw [if_neg (fun z => e z.symm), List.append_nil] at hgo
        refine g_in ?_
        try dsimp only
        refine ⟨_, rfl, _, rfl, iteF ⟨_, _, _, _, _, gs, rfl, s3, eD3, ?_⟩⟩
        rw [hgo]; exact hg3
    · rintro σ H2 ⟨u6, u7, u8, u9, u10, gs, rfl, s2, eD, hg⟩
      rw [List.length_map, hlt, List.take_length] at hg
      exact ⟨_, rfl, q D gs H2 hD s2 eD hg⟩
theorem call_steps_gone {f : Addr} {fd : FuncData} (B : Blt mg) (ER : Ers K mg) (c_next_state : Callee P w K mg base "next_state" 1 ["table", "state", "label"] (sp_next_state K)) (c_goal : Callee P w K mg base "goal" 3 ["net", "answers", "step"] (sp_goal K)) (F : Fun K "steps_gone" "steps_gone" s_steps_gone f fd) (hm : mg "steps_gone" = some (.ref f)) : Callee P w K mg base "steps_gone" 4 ["net", "answers", "table", "scope", "state"] (sp_steps_gone K) :=
  ⟨f, fd, ok_steps_gone B ER c_next_state c_goal F, hm, F.kp, F.binds fun _ _ _ _ _ _ us hl => (by obtain ⟨x0, x1, x2, x3, x4, rfl⟩ := len_5 hl; rfl)⟩
/-- beginnings in the heap, whose lists of marks are F -/
def BgF (F : Addr → Prop) (H : Hp) (a : Addr) (b : Bgn) : Prop := ∃ ml ts, F ml ∧ H a = some (.tup [.ref ml, .int (b.2 : Int), .int 0]) ∧ H ml = some (.lst (ts.map V.ref)) ∧ Mks H ts b.1
theorem BgF.c {F : Addr → Prop} {H : Hp} {a : Addr} {b : Bgn} (h : BgF F H a b) : BgC H a b := let ⟨ml, ts, _, h1, h2, h3⟩ := h; ⟨ml, ts, h1, h2, h3⟩
theorem BgF.same {F : Addr → Prop} {H H' : Hp} {a : Addr} {b : Bgn} (e : Same H H') (h : BgF F H a b) : BgF F H' a b := let ⟨ml, ts, h0, h1, h2, h3⟩ := h; ⟨ml, ts, h0, e _ _ h1, e _ _ h2, h3.same e⟩
theorem BgF.mono {F F' : Addr → Prop} {H : Hp} {a : Addr} {b : Bgn} (e : ∀ x, F x → F' x) (h : BgF F H a b) : BgF F' H a b := let ⟨ml, ts, h0, h⟩ := h; ⟨ml, ts, e _ h0, h⟩
theorem BgF.updL {F : Addr → Prop} {H : Hp} {D : Addr} {o : HO} {ys : List V} {a : Addr} {b : Bgn} (hD : H D = some (.lst ys)) (hn : ∀ x, F x → x ≠ D) (h : BgF F H a b) : BgF F (upd H D o) a b := by
  obtain ⟨ml, ts, h0, h1, h2, h3⟩ := h
  exact ⟨ml, ts, h0, by rw [upd_ne fun z => by rw [z, hD] at h1; cases h1]; exact h1, by rw [upd_ne (hn _ h0)]; exact h2, h3.updL hD⟩
theorem ints_dts {K : PySem.W.Frag} {H : Hp} : ∀ (l : List Nat), IsDts K H (l.map fun n : Nat => V.int (n : Int)) (l.map fun n : Nat => Dt.int (n : Int))
  | [] => .nil
  | _ :: l => .cons (.int _) (ints_dts l)
abbrev AtB (F : Addr → Prop) (H : Hp) (zs : List (Addr × Bgn)) : Prop := ∀ z ∈ zs, BgF F H z.1 z.2

def sp_longer_by_a_step (_ : PySem.W.Frag) : Sp := fun vs H Q _ => ∃ (net t a : Addr) (ans : V) (b : Bgn) (lab nam : Str) (S : Nat → List (Str × Nat)), vs = [.ref net, ans, .ref t, .ref a] ∧ NetC H net lab nam S ∧ TabC H t lab ∧ BgC H a b ∧ b.2 < 7 ∧ b.1.length ≤ 7 ∧ ∀ (D : Addr) (zs : List (Addr × Bgn)) (H' : Hp), H D = none → Same H H' → H' D = some (.lst (zs.map fun z => V.ref z.1)) → AtB (fun x => H x = none) H' zs → zs.map (·.2) = kidB lab S b → Q (.ref D) H'
set_option maxHeartbeats 4000000 in
seal L2.PE L2.PA L2.PS L2.PSs L2.PT L2.PW L2.PC L2.PG L2.PGs L2.PI L2.PF L2.PSet L2.OpR L2.UnR L2.CallR L2.MtR L2.IxR L2.SlR L2.PO in
theorem ok_longer_by_a_step {f : Addr} {fd : FuncData} (B : Blt mg) (ER : Ers K mg) (c_steps_gone : Callee P w K mg base "steps_gone" 4 ["net", "answers", "table", "scope", "state"] (sp_steps_gone K)) (F : Fun K "longer_by_a_step" "longer_by_a_step" s_longer_by_a_step f fd) : FnOk P w K mg base CX0 5 f fd ["net", "answers", "table", "beginning"] (sp_longer_by_a_step K) := by
  refine F.ok sc_longer_by_a_step (fun vs H Q E h => ?_) (fun cdv A outer s H vs Q E hr h => ?_)
  · obtain ⟨net, t, a, ans, b, lab, nam, S, rfl, _⟩ := h
    rfl
  · obtain ⟨net, t, a, ans, b, lab, nam, S, rfl, N, T, ⟨ml, ts, h1, h2, h3⟩, hb, hl, q⟩ := h
    have lts := h3.len
    refine ⟨_, (pss_cons (ps_asg (pv 3) (pg_tup (n := 3) rfl (pgs_cons (pg_name (i := 4) sc_longer_by_a_step.nd) (pgs_cons (pg_name (i := 5) sc_longer_by_a_step.nd) (pgs_cons (pg_name (i := 6) sc_longer_by_a_step.nd) pgs_nil)))))
      (pss_cons (ps_set (i := 7) sc_longer_by_a_step.nd (pe_op op_cat (pe_comp (te := tOp (rIx K) (tVar 0) (tC (.int ((0 : Nat) : Int)))) rfl longer_by_a_step_cs1 (pi_list (pv 4)) (fun _ _ _ _ _ => (pg_name (i := 0) longer_by_a_step_cs1.nd)) (fun _ _ _ _ _ => pf_nil) (fun _ _ _ _ _ => (pe_ix ix_seq (pv 0) pe_int))) (pe_lst (pa_cons (pv 5) pa_nil))))
      (pss_cons (ps_set (i := 8) sc_longer_by_a_step.nd (pe_lst pa_nil))
      (pss_cons (ps_for PassesOwn.never rfl (pi_list (pe_fn c_steps_gone (pa_cons (pv 0) (pa_cons (pv 1) (pa_cons (pv 2) (pa_cons (pv 5) (pa_cons (pv 6) pa_nil))))))) (pg_tup (n := 4) rfl (pgs_cons (pg_name (i := 9) sc_longer_by_a_step.nd) (pgs_cons (pg_name (i := 10) sc_longer_by_a_step.nd) (pgs_cons (pg_name (i := 11) sc_longer_by_a_step.nd) (pgs_cons (pg_name (i := 12) sc_longer_by_a_step.nd) pgs_nil))))) (pss_one (ps_if (PW.pt (pw_and (pt_cmpR op_eq (pv 10) pe_str (nomark _)) (pw_and1 (pt_cmpR (op_notinD hr.units) (pv 11) (pv 7) (by with_unfolding_all rfl))))) (pss_one (ps_expr (pe_bm PySem.F.plainAttrs_list PySem.F.slot_list_append PySem.F.type_list_append mr_append (pv 8) (pa_cons (pe_tup (pa_cons (pe_op op_cat (pv 4) (pe_lst (pa_cons (pv 9) pa_nil))) (pa_cons (pv 11) (pa_cons (pv 12) pa_nil)))) pa_nil)))) pss_nil)))
      (pss_one (ps_ret (pv 8))))))), ?_⟩
    refine ⟨_, rfl, a, _, rfl, SqT.of h1, rfl, _, _, rfl, _, _, rfl, _, _, rfl, rfl, ?_⟩
    try dsimp only
    refine ⟨_, rfl, ml, rfl, ⟨_, SqL.of h2⟩, comp_listI (xs := ts.map V.ref) (fun C i ys H' => Same H H' ∧ H' C = some (.lst ys) ∧ ys = (b.1.take i).map fun p => V.int (p.1 : Int)) (fun C hC => ⟨same_new hC, upd_same, rfl⟩) (fun C i ys H' ⟨s1, _⟩ => SqL.of (s1 _ _ h2)) (fun C i x ys H2 R hC0 hx hv k => ?_) (fun C ys H2 hC0 hv => ?_)⟩
    · obtain ⟨s2, eC, rfl⟩ := hv
      rw [List.getElem?_map] at hx
      obtain ⟨m, hm, rfl⟩ := Option.map_eq_some_iff.mp hx
      have hil : i < b.1.length := by rw [← lts]; exact (List.getElem?_eq_some_iff.mp hm).1
      have hp := List.getElem?_eq_getElem hil
      have em := s2 _ _ (h3.at_ i m _ hm hp)
      refine ⟨_, rfl, Or.inr (Or.inl ⟨m, _, _, .int ((b.1[i]).1 : Int), rfl, rfl, SqT.of em, rfl, ?_⟩)⟩
      refine k _ _ eC (by rw [List.length_map, List.length_take]; exact small1000 (by omega)) ⟨fun x o e => ?_, upd_same, ?_⟩
      · rw [upd_ne (ne_of_none e hC0)]; exact s2 x o e
      · rw [List.take_succ, hp, List.map_append]; rfl
    obtain ⟨s2, eC, rfl⟩ := hv
    rw [List.length_map, lts, List.take_length] at eC
    refine ⟨_, rfl, one_leT, fun C2 hC2 => ?_⟩
    have s3 := same_new (o := .lst [.int (b.2 : Int)]) hC2
    have eC2 : (upd H2 C2 (.lst [.int (b.2 : Int)])) C2 = some (.lst [.int (b.2 : Int)]) := upd_same
    generalize upd H2 C2 (.lst [.int (b.2 : Int)]) = H3 at s3 eC2 ⊢
    refine ⟨C, C2, _, _, rfl, rfl, s3 _ _ eC, eC2, by rw [List.length_map]; exact Nat.le_of_lt (small1000 (show _ + 1 ≤ 1000 by omega)), fun C3 hC3 => ?_⟩
    have ev : (b.1.map fun p => V.int (p.1 : Int)) ++ [V.int (b.2 : Int)] = (scp b).map fun n : Nat => V.int (n : Int) := by simp [scp]
    rw [ev]
    have s4 := same_new (o := .lst ((scp b).map fun n : Nat => V.int (n : Int))) hC3
    have eC3 : (upd H3 C3 (.lst ((scp b).map fun n : Nat => V.int (n : Int)))) C3 = some (.lst ((scp b).map fun n : Nat => V.int (n : Int))) := upd_same
    generalize upd H3 C3 (.lst ((scp b).map fun n : Nat => V.int (n : Int))) = H4 at s4 eC3 ⊢
    have s04 := (s2.trans s3).trans s4
    refine g_in ?_
    try dsimp only
    refine ⟨by decide, fun D hD => ?_⟩
    have s5 := same_new (o := .lst []) hD
    have eD : (upd H4 D (.lst [])) D = some (.lst []) := upd_same
    generalize upd H4 D (.lst []) = H5 at s5 eD ⊢
    have hDH : H D = none := s04.free hD
    have s05 := s04.trans s5
    refine g_in ?_
    try dsimp only
    refine ⟨_, rfl, _, rfl, _, rfl, _, rfl, _, rfl, net, t, ans, b.2, lab, nam, S, rfl, hb, N.same s05, T.same s05, fun G gs H6 hG s6 eG Gs => ?_⟩
    have lg : (goneN lab 0 (S b.2)).length ≤ 8 := Nat.le_trans (goneN_len _ _ _) (N.le b.2 hb).1
    have s06 := s05.trans s6
    have eC36 := s6 _ _ (s5 _ _ eC3)
    have nGD : G ≠ D := fun z => by rw [z, eD] at hG; cases hG
    have hgl := Gs.len
    refine ⟨G, rfl, ⟨_, SqL.of eG⟩, for_list (xs := gs.map V.ref) (fun i σ H' => ∃ (u9 u10 u11 u12 : Option V) (zs : List (Addr × Bgn)), σ = [some (.ref net), some ans, some (.ref t), some (.ref a), some (.ref ml), some (.int (b.2 : Int)), some (.int 0), some (.ref C3), some (.ref D), u9, u10, u11, u12] ∧ Same H H' ∧ H' C3 = some (.lst ((scp b).map fun n : Nat => V.int (n : Int))) ∧ H' G = some (.lst (gs.map V.ref)) ∧ Gn H' b.2 gs (goneN lab 0 (S b.2)) ∧ H' D = some (.lst (zs.map fun z => V.ref z.1)) ∧ AtB (fun x => H x = none ∧ x ≠ D) H' zs ∧ zs.map (·.2) = (((goneN lab 0 (S b.2)).take i).filter fun x => decide (x.2 ∉ scp b)).map fun x => (b.1 ++ [(b.2, x.1)], x.2))
      ⟨none, none, none, none, [], rfl, s06, eC36, eG, Gs, s6 _ _ eD, fun z hz => by simp at hz, rfl⟩ (fun i σ H' _ ⟨_, _, _, _, _, _, _, _, e, _⟩ => SqL.of e) ?_ ?_⟩
    · rintro i x σ H7 hx ⟨u9, u10, u11, u12, zs, rfl, s7, eC7, eG7, G7, eD7, A7, Z7⟩
      rw [List.getElem?_map] at hx
      obtain ⟨g, hg, rfl⟩ := Option.map_eq_some_iff.mp hx
      have hil : i < (goneN lab 0 (S b.2)).length := by rw [← hgl]; exact (List.getElem?_eq_some_iff.mp hg).1
      have hp := List.getElem?_eq_getElem hil
      obtain ⟨m, eg, em⟩ := G7.at_ i g _ hg hp
      have etk : (goneN lab 0 (S b.2)).take (i + 1) = (goneN lab 0 (S b.2)).take i ++ [(goneN lab 0 (S b.2))[i]] := by rw [List.take_succ, hp]; rfl
      have lz : zs.length ≤ 8 := by
        have := congrArg List.length Z7
        rw [List.length_map, List.length_map] at this
        have h2 := List.length_filter_le (fun x : Nat × Nat => decide (x.2 ∉ scp b)) ((goneN lab 0 (S b.2)).take i)
        rw [List.length_take] at h2
        omega
      have eZ : (((goneN lab 0 (S b.2)).take (i + 1)).filter fun x => decide (x.2 ∉ scp b)).map (fun x => ((b.1 ++ [(b.2, x.1)], x.2) : Bgn)) = zs.map (·.2) ++ ([(goneN lab 0 (S b.2))[i]].filter fun x => decide (x.2 ∉ scp b)).map fun x => ((b.1 ++ [(b.2, x.1)], x.2) : Bgn) := by rw [etk, List.filter_append, List.map_append, Z7]
      generalize (goneN lab 0 (S b.2))[i] = p at eg em eZ
      refine ⟨g, _, rfl, SqT.of eg, rfl, _, _, rfl, _, _, rfl, _, _, rfl, _, _, rfl, rfl, ?_⟩
      refine ⟨_, rfl, rfl, _, rfl, iteT ?_⟩
      refine ⟨_, rfl, _, rfl, 1, .int (p.2 : Int), (scp b).map fun n : Nat => Dt.int (n : Int), C3, _, fun e he => ?_, by decide, .int _, rfl, SqL.of eC7, ints_dts _, _, rfl, ?_⟩
      · obtain ⟨n, _, rfl⟩ := List.mem_map.mp he
        exact .int _ _
      have hin : (Dt.int (p.2 : Int) ∈ (scp b).map fun n : Nat => Dt.int (n : Int)) ↔ p.2 ∈ scp b := by
        rw [List.mem_map]
        constructor
        · rintro ⟨n, hn, e⟩
          injection e with e
          rw [show p.2 = n by omega]; exact hn
        · exact fun hn => ⟨p.2, hn, rfl⟩
      rw [dec_congr hin]
      have ef : ([p].filter fun x : Nat × Nat => decide (x.2 ∉ scp b)) = if p.2 ∈ scp b then [] else [p] := by
        show (match decide (p.2 ∉ scp b) with | true => p :: [] | false => []) = _
        by_cases h : p.2 ∈ scp b
        · rw [decide_eq_false (fun z => z h), if_pos h]
        · rw [decide_eq_true h, if_neg h]
      rw [ef] at eZ
      by_cases hc : p.2 ∈ scp b
      · rw [dec_true hc]
        refine iteF ⟨_, _, _, _, zs, rfl, s7, eC7, eG7, G7, eD7, A7, ?_⟩
        rw [eZ, if_pos hc]
        exact (List.append_nil _).symm
      · rw [dec_false hc]
        refine iteT ⟨_, rfl, Or.inl ⟨rfl, _, SqL.of eD7⟩, _, rfl, _, rfl, one_leT, fun L1 hL1 => ?_⟩
        have s8 := same_new (o := .lst [.ref m]) hL1
        have eL1 : (upd H7 L1 (.lst [.ref m])) L1 = some (.lst [.ref m]) := upd_same
        generalize upd H7 L1 (.lst [.ref m]) = H8 at s8 eL1 ⊢
        have em8 := (s7.trans s8) _ _ h2
        refine ⟨ml, L1, _, _, rfl, rfl, em8, eL1, by rw [List.length_map]; exact Nat.le_of_lt (small1000 (show _ + 1 ≤ 1000 by omega)), fun L2 hL2 => ?_⟩
        have s9 := same_new (o := .lst (ts.map V.ref ++ [.ref m])) hL2
        have eL2 : (upd H8 L2 (.lst (ts.map V.ref ++ [.ref m]))) L2 = some (.lst ((ts ++ [m]).map V.ref)) := by rw [upd_same, List.map_append]; rfl
        generalize upd H8 L2 (.lst (ts.map V.ref ++ [.ref m])) = H9 at s9 eL2 ⊢
        refine ⟨_, rfl, _, rfl, three_le, fun r hr => ?_⟩
        have s10 := same_new (o := .tup [.ref L2, .int (p.2 : Int), .int 0]) hr
        have er : (upd H9 r (.tup [.ref L2, .int (p.2 : Int), .int 0])) r = some (.tup [.ref L2, .int (p.2 : Int), .int 0]) := upd_same
        generalize upd H9 r (.tup [.ref L2, .int (p.2 : Int), .int 0]) = H10 at s10 er ⊢
        have s710 := (s8.trans s9).trans s10
        have eD10 := s710 _ _ eD7
        have nL2 : L2 ≠ D := fun z => by rw [z, s8 _ _ eD7] at hL2; cases hL2
        have fL2 : H L2 = none := (s7.trans s8).free hL2
        have nC : C3 ≠ D := fun z => by rw [z, hD] at eC3; cases eC3
        refine ⟨D, _, _, rfl, rfl, eD10, by rw [List.length_map]; exact small1000 (by omega), ?_⟩
        refine ⟨_, _, _, _, zs ++ [(r, (b.1 ++ [(b.2, p.1)], p.2))], rfl, fun x o e => ?_, by rw [upd_ne nC]; exact s710 _ _ eC7, by rw [upd_ne nGD]; exact s710 _ _ eG7, (G7.same s710).updL eD10, by rw [upd_same, List.map_append]; rfl, fun z hz => ?_, ?_⟩
        · rw [upd_ne (ne_of_none e hDH)]; exact s710 _ _ (s7 x o e)
        · refine BgF.updL eD10 (fun x hx => hx.2) ?_
          rcases List.mem_append.mp hz with hz | hz
          · exact (A7 z hz).same s710
          · rw [List.mem_singleton.mp hz]
            exact ⟨L2, ts ++ [m], ⟨fL2, nL2⟩, er, s10 _ _ eL2, ((h3.same s7).same s710).snoc (p := (b.2, p.1)) (s710 _ _ em)⟩
        · rw [eZ, List.map_append, if_neg hc]
          rfl
    · rintro σ H7 ⟨u9, u10, u11, u12, zs, rfl, s7, eC7, eG7, G7, eD7, A7, Z7⟩
      rw [List.length_map, hgl, List.take_length] at Z7
      exact ⟨_, rfl, q D zs H7 hDH s7 eD7 (fun z hz => (A7 z hz).mono fun x hx => hx.1) Z7⟩
theorem call_longer_by_a_step {f : Addr} {fd : FuncData} (B : Blt mg) (ER : Ers K mg) (c_steps_gone : Callee P w K mg base "steps_gone" 4 ["net", "answers", "table", "scope", "state"] (sp_steps_gone K)) (F : Fun K "longer_by_a_step" "longer_by_a_step" s_longer_by_a_step f fd) (hm : mg "longer_by_a_step" = some (.ref f)) : Callee P w K mg base "longer_by_a_step" 5 ["net", "answers", "table", "beginning"] (sp_longer_by_a_step K) :=
  ⟨f, fd, ok_longer_by_a_step B ER c_steps_gone F, hm, F.kp, F.binds fun _ _ _ _ _ _ us hl => (by obtain ⟨x0, x1, x2, x3, rfl⟩ := len_4 hl; rfl)⟩
theorem perm_map_inv {α β : Type} {f : α → β} : ∀ {l : List β} {m : List α}, l.Perm (m.map f) → ∃ m' : List α, m'.Perm m ∧ l = m'.map f
  | [], m, h => by
    have := h.length_eq
    rw [List.length_map, List.length_nil] at this
    rw [List.length_eq_zero_iff.mp this.symm]
    exact ⟨[], List.Perm.refl _, rfl⟩
  | x :: l, m, h => by
    have hx : x ∈ m.map f := h.mem_iff.mp (by simp)
    obtain ⟨y, hy, rfl⟩ := List.mem_map.mp hx
    obtain ⟨s, t, rfl⟩ := List.append_of_mem hy
    have h2 : l.Perm ((s ++ t).map f) := by
      have e : ((s ++ y :: t).map f).Perm (f y :: (s ++ t).map f) := by
        rw [List.map_append, List.map_cons, List.map_append]
        exact List.perm_middle
      exact (List.perm_cons _).mp (h.trans e)
    obtain ⟨m', h3, rfl⟩ := perm_map_inv h2
    exact ⟨y :: m', (List.Perm.cons y h3).trans List.perm_middle.symm, rfl⟩
/-- no scope twice -/
abbrev Once (b : Bgn) : Prop := (scp b).Nodup ∧ ∀ x ∈ scp b, x < 7
theorem once_len {b : Bgn} (h : Once b) : b.1.length ≤ 7 ∧ b.2 < 7 := by
  have := Ord.nodup_sub_length h.1 (m := List.range 7) fun x hx => List.mem_range.mpr (h.2 x hx)
  rw [List.length_range] at this
  simp [scp] at this
  exact ⟨by omega, h.2 b.2 (by simp [scp])⟩
theorem once_kid {lab : Str} {S : Nat → List (Str × Nat)} (hS : ∀ i, i < 7 → ∀ x ∈ S i, x.2 < 7) {b c : Bgn} (h : Once b) (hc : c ∈ kidB lab S b) : Once c := by
  obtain ⟨x, hx, rfl⟩ := List.mem_map.mp hc
  obtain ⟨hx1, hx2⟩ := List.mem_filter.mp hx
  have hn : x.2 ∉ scp b := of_decide_eq_true hx2
  obtain ⟨p, hp, e⟩ := goneN_mem hx1
  have l7 : x.2 < 7 := by rw [e]; exact hS b.2 (once_len h).2 p hp
  have es : scp (b.1 ++ [(b.2, x.1)], x.2) = scp b ++ [x.2] := by simp [scp]
  refine ⟨?_, fun y hy => ?_⟩
  · rw [es]; exact nodup_snoc h.1 hn
  · rw [es] at hy
    rcases List.mem_append.mp hy with hy | hy
    · exact h.2 y hy
    · rw [List.mem_singleton.mp hy]; exact l7

def sp_beginnings (K : PySem.W.Frag) : Sp := fun vs H Q E => ∃ (net t : Addr) (ans : V) (v : Nat) (lab nam : Str) (S : Nat → List (Str × Nat)) (k : Nat), vs = [.ref net, ans, .ref t, .int (v : Int), .int 0] ∧ v < 7 ∧ NetC H net lab nam S ∧ TabC H t lab ∧ StopL (kidB lab S) ([], v) k ∧
  (200 < (exL (kidB lab S) ([], v) k).length → ∀ H', Same H H' → E (.ref (clsA K "Tangled")) none H') ∧
  ((exL (kidB lab S) ([], v) k).length ≤ 200 → ∀ (D : Addr) (zs : List (Addr × Bgn)) (H' : Hp), H D = none → Same H H' → H' D = some (.lst (zs.map fun z => V.ref z.1)) → (∀ z ∈ zs, BgC H' z.1 z.2 ∧ Once z.2) → zs.length = (exL (kidB lab S) ([], v) k).length → Q (.ref D) H')
set_option maxHeartbeats 4000000 in
seal L2.PE L2.PA L2.PS L2.PSs L2.PT L2.PW L2.PC L2.PG L2.PGs L2.PI L2.PF L2.PSet L2.OpR L2.UnR L2.CallR L2.MtR L2.IxR L2.SlR L2.PO in
theorem ok_beginnings {f : Addr} {fd : FuncData} (B : Blt mg) (ER : Ers K mg) (c_longer_by_a_step : Callee P w K mg base "longer_by_a_step" 5 ["net", "answers", "table", "beginning"] (sp_longer_by_a_step K)) (F : Fun K "beginnings" "beginnings" s_beginnings f fd) : FnOk P w K mg base (CXE P w) 6 f fd ["net", "answers", "table", "scope", "state"] (sp_beginnings K) := by
  refine F.okE sc_beginnings (fun vs H Q E h => ?_) (fun cdv A outer s H vs Q E hr h => ?_)
  · obtain ⟨net, t, ans, v, lab, nam, S, k, rfl, _⟩ := h
    rfl
  · obtain ⟨net, t, ans, v, lab, nam, S, k, rfl, hv, N, T, ST, qe, q⟩ := h
    have on0 : Once (([], v) : Bgn) := ⟨by simp [scp], fun x hx => by simp [scp] at hx; rw [hx]; exact hv⟩
    have onA := exL_all (P := Once) (f := kidB lab S) on0 (fun b hb c hc => once_kid (fun i hi => (N.le i hi).2) hb hc)
    refine ⟨_, (pss_cons (ps_set (i := 5) sc_beginnings.nd (pe_lst (pa_cons (pe_tup (pa_cons (pe_lst pa_nil) (pa_cons (pv 3) (pa_cons (pv 4) pa_nil)))) pa_nil)))
      (pss_cons (ps_set (i := 6) sc_beginnings.nd pe_int)
      (pss_cons (ps_while PassesOwn.leaving (pt_cmpR op_lt (pv 6) (pe_callB call_len B.b_len (pa_cons (pv 5) pa_nil)) (nomark _)) (pss_cons (ps_expr (pe_bm PySem.F.plainAttrs_list PySem.F.slot_list_extend PySem.F.type_list_extend mr_extend (pv 5) (pa_cons (pe_fn c_longer_by_a_step (pa_cons (pv 0) (pa_cons (pv 1) (pa_cons (pv 2) (pa_cons (pe_ix ix_seq (pv 5) (pv 6)) pa_nil))))) pa_nil)))
        (pss_cons (ps_if (pt_cmpR op_gt (pe_callB call_len B.b_len (pa_cons (pv 5) pa_nil)) (pe_glob (v := .int 200) rfl (Classical.choose_spec B.c_MOST_BEGINNINGS) ⟨_, rfl⟩) (nomark _)) (pss_one (ps_raise throws_cx rfl ER.k_Tangled rfl (pa_cons pe_str pa_nil))) pss_nil)
        (pss_one (ps_augR (i := 6) sc_beginnings.nd rfl (Or.inl rfl) pe_int iop_add)))))
      (pss_one (ps_ret (pe_callB (call_bigLT mkE intE intE hr.units (by decide) (by decide) (by decide)) B.b_sorted (pa_cons (pv 5) pa_nil))))))), ?_⟩
    refine ⟨by decide, fun l hl => ?_⟩
    have s1 := same_new (o := .lst []) hl
    have el : (upd H l (.lst [])) l = some (.lst []) := upd_same
    generalize upd H l (.lst []) = H1 at s1 el ⊢
    refine ⟨_, rfl, _, rfl, three_le, fun r hr => ?_⟩
    have s2 := same_new (o := .tup [.ref l, .int (v : Int), .int 0]) hr
    have er : (upd H1 r (.tup [.ref l, .int (v : Int), .int 0])) r = some (.tup [.ref l, .int (v : Int), .int 0]) := upd_same
    generalize upd H1 r (.tup [.ref l, .int (v : Int), .int 0]) = H2 at s2 er ⊢
    refine ⟨one_leT, fun D hD => ?_⟩
    have s02 := s1.trans s2
    have hDH : H D = none := s02.free hD
    have nlD : l ≠ D := ne_of_none (s2 _ _ el) hD
    have s3 := same_new (o := .lst [.ref r]) hD
    have eD3 : (upd H2 D (.lst [.ref r])) D = some (.lst [.ref r]) := upd_same
    generalize upd H2 D (.lst [.ref r]) = H3 at s3 eD3 ⊢
    have s03 := s02.trans s3
    have b0 : BgF (fun x => x ≠ D) H3 r ([], v) := ⟨l, [], nlD, s3 _ _ er, s3 _ _ (s2 _ _ el), Mks.nil⟩
    refine g_in ?_
    try dsimp only
    refine seq_setC ?_
    try dsimp only
    refine ⟨fun m σ H' => ∃ (j : Nat) (zs : List (Addr × Bgn)), m = k - j ∧ j ≤ k ∧ σ = [some (.ref net), some ans, some (.ref t), some (.int (v : Int)), some (.int 0), some (.ref D), some (.int (j : Int))] ∧ Same H H' ∧ H' D = some (.lst (zs.map fun z => V.ref z.1)) ∧ AtB (fun x => x ≠ D) H' zs ∧ zs.map (·.2) = exL (kidB lab S) ([], v) j ∧ zs.length ≤ 200,
      ⟨k - 0, 0, [(r, ([], v))], rfl, Nat.zero_le _, rfl, s03, eD3, fun z hz => by rw [List.mem_singleton.mp hz]; exact b0, rfl, show 1 ≤ 200 by decide⟩, ?_⟩
    rintro m σ H4 ⟨j, zs, rfl, hj, rfl, s4, eD4, A4, Z4, L4⟩
    have lz : (exL (kidB lab S) ([], v) j).length = zs.length := by rw [← Z4, List.length_map]
    refine ⟨_, rfl, _, rfl, _, _, rfl, Or.inl ⟨_, SqL.of eD4, rfl⟩, _, _, rfl, rfl, _, rfl, ?_⟩
    rw [List.length_map]
    by_cases hjk : j < k
    · obtain ⟨c1, c2⟩ := ST.bef j hjk
      rw [lz] at c1
      rw [decide_eq_true (show (j : Int) < (zs.length : Int) by omega)]
      refine iteT ⟨fun σ' H' => ∃ (zs : List (Addr × Bgn)), σ' = [some (.ref net), some ans, some (.ref t), some (.int (v : Int)), some (.int 0), some (.ref D), some (.int ((j + 1 : Nat) : Int))] ∧ Same H H' ∧ H' D = some (.lst (zs.map fun z => V.ref z.1)) ∧ AtB (fun x => x ≠ D) H' zs ∧ zs.map (·.2) = exL (kidB lab S) ([], v) (j + 1) ∧ zs.length ≤ 200, fun σ' H' ⟨zs', a1, a2, a3, a4, a5, a6⟩ => ⟨k - (j + 1), by omega, j + 1, zs', rfl, by omega, a1, a2, a3, a4, a5, a6⟩, ?_⟩
      have hzj := List.getElem?_eq_getElem c1
      have hat : (zs.map fun z => V.ref z.1)[j]? = some (.ref zs[j].1) := by rw [List.getElem?_map, hzj]; rfl
      have ebj : zs[j].2 = (exL (kidB lab S) ([], v) j)[j]'(by omega) := by
        have := congrArg (fun l => l[j]?) Z4
        simp only [List.getElem?_map, hzj] at this
        rw [List.getElem?_eq_getElem (by omega)] at this
        exact Option.some.inj this
      have onj : Once zs[j].2 := by rw [ebj]; exact onA j _ (List.getElem_mem _)
      obtain ⟨o1, o2⟩ := once_len onj
      have Aj := A4 _ (List.getElem_mem c1)
      refine ⟨_, rfl, Or.inl ⟨rfl, _, SqL.of eD4⟩, _, rfl, _, rfl, _, rfl, _, rfl, _, rfl, Or.inl ⟨D, _, _, .ref zs[j].1, rfl, rfl, SqL.of eD4, atI_nat hat, net, t, zs[j].1, ans, zs[j].2, lab, nam, S, rfl, N.same s4, T.same s4, Aj.c, o2, o1, fun D2 ws H5 hD2 s5 eD2 A5 Z5 => ?_⟩⟩
      have eD5 := s5 _ _ eD4
      have lw : ws.length ≤ 8 := by
        have := congrArg List.length Z5
        rw [List.length_map] at this
        rw [this]
        exact kidB_len (N.le _ o2).1
      refine ⟨D, D2, _, _, rfl, rfl, eD5, eD2, by rw [List.length_map, List.length_map]; exact Nat.le_of_lt (small1000 (by omega)), ?_⟩
      have s6 : Same H (upd H5 D (.lst ((zs.map fun z => V.ref z.1) ++ ws.map fun z => V.ref z.1))) := fun x o e => by
        rw [upd_ne (ne_of_none e hDH)]; exact s5 _ _ (s4 x o e)
      have eD6 : (upd H5 D (.lst ((zs.map fun z => V.ref z.1) ++ ws.map fun z => V.ref z.1))) D = some (.lst ((zs ++ ws).map fun z => V.ref z.1)) := by rw [upd_same, List.map_append]
      have A6 : AtB (fun x => x ≠ D) (upd H5 D (.lst ((zs.map fun z => V.ref z.1) ++ ws.map fun z => V.ref z.1))) (zs ++ ws) := fun z hz => by
        refine BgF.updL eD5 (fun x hx => hx) ?_
        rcases List.mem_append.mp hz with hz | hz
        · exact (A4 z hz).same s5
        · exact (A5 z hz).mono fun x hx e => by rw [e, eD4] at hx; cases hx
      have Z6 : (zs ++ ws).map (·.2) = exL (kidB lab S) ([], v) (j + 1) := by
        rw [exL_at (by omega), List.map_append, Z4, Z5, ebj]
      generalize upd H5 D (.lst ((zs.map fun z => V.ref z.1) ++ ws.map fun z => V.ref z.1)) = H6 at s6 eD6 A6 ⊢
      have l6 : (exL (kidB lab S) ([], v) (j + 1)).length = (zs ++ ws).length := by rw [← Z6, List.length_map]
      refine ⟨_, rfl, _, _, rfl, Or.inl ⟨_, SqL.of eD6, rfl⟩, _, _, rfl, rfl, _, rfl, ?_⟩
      rw [List.length_map]
      by_cases hov : 200 < (zs ++ ws).length
      · rw [decide_eq_true (show ((zs ++ ws).length : Int) > 200 by omega)]
        have ek : j + 1 = k := by
          rcases Nat.lt_or_eq_of_le (show j + 1 ≤ k from hjk) with c | c
          · have := (ST.bef (j + 1) c).2
            omega
          · exact c
        exact iteT ⟨one_leT, qe (by rw [← ek, l6]; exact hov) _ s6⟩
      · rw [decide_eq_false (show ¬ ((zs ++ ws).length : Int) > 200 by omega)]
        refine iteF ⟨_, rfl, _, _, rfl, rfl, zs ++ ws, ?_, s6, eD6, A6, Z6, by omega⟩
        rfl
    · obtain rfl : j = k := by omega
      have hlen : (exL (kidB lab S) ([], v) j).length ≤ 200 := by omega
      obtain ⟨c1, c2⟩ := ST.at_.resolve_right (by omega)
      rw [lz] at c1
      rw [decide_eq_false (show ¬ (j : Int) < (zs.length : Int) by omega)]
      refine iteF ⟨_, rfl, D, zs.map fun z => (V.ref z.1, bgO z.2), rfl, ?_, by rw [List.length_map]; omega, fun y hy => ?_, fun D2 zs' hp hs hD2 => ?_⟩
      · rw [List.map_map]; exact SqL.of eD4
      · obtain ⟨z, hz', rfl⟩ := List.mem_map.mp hy
        exact (A4 z hz').c.dt
      obtain ⟨ws, hpw, rfl⟩ := perm_map_inv hp
      have s5 := same_new (o := .lst ((ws.map fun z => ((V.ref z.1, bgO z.2) : RowE begE)).map (·.1))) hD2
      refine q hlen D2 ws _ (s4.free hD2) (s4.trans s5) (by rw [upd_same, List.map_map]; rfl) (fun z hz => ?_) (by rw [hpw.length_eq, lz])
      have hz' := hpw.mem_iff.mp hz
      refine ⟨(A4 z hz').c.same s5, onA j _ ?_⟩
      rw [← Z4]
      exact List.mem_map.mpr ⟨z, hz', rfl⟩
theorem call_beginnings {f : Addr} {fd : FuncData} (B : Blt mg) (ER : Ers K mg) (c_longer_by_a_step : Callee P w K mg base "longer_by_a_step" 5 ["net", "answers", "table", "beginning"] (sp_longer_by_a_step K)) (F : Fun K "beginnings" "beginnings" s_beginnings f fd) (hm : mg "beginnings" = some (.ref f)) : CalleeE P w K mg base "beginnings" 6 ["net", "answers", "table", "scope", "state"] (sp_beginnings K) :=
  ⟨f, fd, ok_beginnings B ER c_longer_by_a_step F, hm, F.kp, F.binds fun _ _ _ _ _ _ us hl => (by obtain ⟨x0, x1, x2, x3, x4, rfl⟩ := len_5 hl; rfl)⟩

def sp_has_end (_ : PySem.W.Frag) : Sp := fun vs H Q _ => ∃ (t : Addr) (lab : Str), vs = [.ref t, .int 0, .str lab] ∧ TabC H t lab ∧ Q (.bl true) H
set_option maxHeartbeats 4000000 in
seal L2.PE L2.PA L2.PS L2.PSs L2.PT L2.PW L2.PC L2.PG L2.PGs L2.PI L2.PF L2.PSet L2.OpR L2.UnR L2.CallR L2.MtR L2.IxR L2.SlR L2.PO in
theorem ok_has_end {f : Addr} {fd : FuncData} (B : Blt mg) (ER : Ers K mg)  (F : Fun K "has_end" "has_end" s_has_end f fd) : FnOk P w K mg base CX0 1 f fd ["table", "state", "label"] (sp_has_end K) := by
  refine F.ok sc_has_end (fun vs H Q E h => ?_) (fun cdv A outer s H vs Q E hr h => ?_)
  · obtain ⟨t, lab, rfl, _⟩ := h
    rfl
  · obtain ⟨t, lab, rfl, ⟨a, o, u, g, e, gt, h1, h2, h3, h4, h5, h6⟩, q⟩ := h
    refine ⟨_, (pss_cons (ps_set (i := 3) sc_has_end.nd (pe_ix ix_seq (pe_ix ix_seq (pe_ix ix_seq (pv 0) pe_int) (pv 1)) pe_int))
      (pss_one (ps_ret (pe_cmpR op_in_seq (pv 2) (pv 3) (by with_unfolding_all rfl))))), ?_⟩
    refine ⟨_, rfl, Or.inr (Or.inl ⟨t, _, _, .ref a, rfl, rfl, SqT.of h1, rfl, _, rfl, Or.inl ⟨a, _, _, .ref u, rfl, rfl, SqL.of h2, rfl, Or.inr (Or.inl ⟨u, _, _, .ref e, rfl, rfl, SqT.of h3, rfl, ?_⟩)⟩⟩)⟩
    refine g_in ?_
    try dsimp only
    refine ⟨_, rfl, _, rfl, e, _, rfl, Or.inl (SqL.of h6), rfl, rfl, ?_⟩
    have ei : inV (.str lab) [.str lab] = true := by
      unfold inV
      show ((lab == lab) || false) = true
      simp
    rw [if_neg Bool.false_ne_true, ei]
    exact q
theorem call_has_end {f : Addr} {fd : FuncData} (B : Blt mg) (ER : Ers K mg)  (F : Fun K "has_end" "has_end" s_has_end f fd) (hm : mg "has_end" = some (.ref f)) : Callee P w K mg base "has_end" 1 ["table", "state", "label"] (sp_has_end K) :=
  ⟨f, fd, ok_has_end B ER  F, hm, F.kp, F.binds fun _ _ _ _ _ _ us hl => (by obtain ⟨x0, x1, x2, rfl⟩ := len_3 hl; rfl)⟩
/-- a way in the heap: its marks -/
def WyC (D : Addr) (H : Hp) (a : Addr) (os : List mkE.O.α) : Prop := a ≠ D ∧ ∃ ts : List Addr, H a = some (.lst (ts.map V.ref)) ∧ ts.length = os.length ∧ ∀ (n : Nat) (t : Addr) (o : mkE.O.α), ts[n]? = some t → os[n]? = some o → H t = some (.tup [.int o.1, .str o.2.1, .int o.2.2])
theorem WyC.same {D : Addr} {H H' : Hp} {a : Addr} {os : List mkE.O.α} (e : Same H H') (h : WyC D H a os) : WyC D H' a os := let ⟨n, ts, h1, h2, h3⟩ := h; ⟨n, ts, e _ _ h1, h2, fun n t o a b => e _ _ (h3 n t o a b)⟩
theorem WyC.updL {D : Addr} {H : Hp} {o : HO} {ys : List V} {a : Addr} {os : List mkE.O.α} (hD : H D = some (.lst ys)) (h : WyC D H a os) : WyC D (upd H D o) a os := by
  obtain ⟨n, ts, h1, h2, h3⟩ := h
  refine ⟨n, ts, by rw [upd_ne n]; exact h1, h2, fun n t o a b => ?_⟩
  have := h3 n t o a b
  rw [upd_ne fun z => by rw [z, hD] at this; cases this]
  exact this
theorem WyC.dt {K : PySem.W.Frag} {D : Addr} {H : Hp} {a : Addr} {os : List mkE.O.α} (h : WyC D H a os) : IsDt K H (.ref a) ((listE mkE).D os) := by
  obtain ⟨_, ts, h1, h2, h3⟩ := h
  refine .lst (SqL.of h1) (IsDts.of_get (by simpa using h2) fun n v d e1 e2 => ?_)
  rw [List.getElem?_map] at e1 e2
  obtain ⟨t, q1, rfl⟩ := Option.map_eq_some_iff.mp e1
  obtain ⟨o, q2, rfl⟩ := Option.map_eq_some_iff.mp e2
  exact .tup (SqT.of (h3 n t o q1 q2)) (.cons (.int _) (.cons (.str _) (.cons (.int _) .nil)))

def sp_found_behind (_ : PySem.W.Frag) : Sp := fun vs H Q _ => ∃ (net t D0 : Addr) (lab nam : Str) (S : Nat → List (Str × Nat)) (zs : List (Addr × Bgn)), vs = [.ref net, .ref t, .ref D0, .str nam] ∧ NetC H net lab nam S ∧ TabC H t lab ∧ H D0 = some (.lst (zs.map fun z => V.ref z.1)) ∧ (∀ z ∈ zs, BgC H z.1 z.2 ∧ z.2.1.length ≤ 7 ∧ z.2.2 < 7) ∧ zs.length ≤ 200 ∧ ∀ (D : Addr) (xs : List V) (H' : Hp), H D = none → Same H H' → H' D = some (.lst xs) → xs.length = zs.length → Q (.ref D) H'
set_option maxHeartbeats 4000000 in
seal L2.PE L2.PA L2.PS L2.PSs L2.PT L2.PW L2.PC L2.PG L2.PGs L2.PI L2.PF L2.PSet L2.OpR L2.UnR L2.CallR L2.MtR L2.IxR L2.SlR L2.PO in
theorem ok_found_behind {f : Addr} {fd : FuncData} (B : Blt mg) (ER : Ers K mg) (c_has_end : Callee P w K mg base "has_end" 1 ["table", "state", "label"] (sp_has_end K)) (F : Fun K "found_behind" "found_behind" s_found_behind f fd) : FnOk P w K mg base CX0 2 f fd ["net", "table", "begun", "name"] (sp_found_behind K) := by
  refine F.ok sc_found_behind (fun vs H Q E h => ?_) (fun cdv A outer s H vs Q E hr h => ?_)
  · obtain ⟨net, t, D0, lab, nam, S, zs, rfl, _⟩ := h
    rfl
  · obtain ⟨net, t, D0, lab, nam, S, zs, rfl, N, T, e0, hz, l2, q⟩ := h
    obtain ⟨sc, th, qu, us, as, bs, tl, en, SC⟩ := id N.ex
    refine ⟨_, (pss_cons (ps_set (i := 4) sc_found_behind.nd (pe_lst pa_nil))
      (pss_cons (ps_for PassesOwn.never rfl (pi_list (pv 2)) (pg_tup (n := 3) rfl (pgs_cons (pg_name (i := 5) sc_found_behind.nd) (pgs_cons (pg_name (i := 6) sc_found_behind.nd) (pgs_cons (pg_name (i := 7) sc_found_behind.nd) pgs_nil)))) (pss_one (ps_for PassesOwn.never rfl (pi_enum rfl B.b_enumerate (pa_cons (pe_ix ix_seq (pe_ix ix_seq (pe_ix ix_seq (pv 0) pe_int) (pv 6)) pe_int) pa_nil)) (pg_tup (n := 2) rfl (pgs_cons (pg_name (i := 8) sc_found_behind.nd) (pgs_cons (pg_name (i := 9) sc_found_behind.nd) pgs_nil))) (pss_one (ps_if (PW.pt (pw_and (pt_cmpR op_eq (pe_ix ix_seq (pv 9) pe_int) (pv 3) (nomark _)) (pw_and1 (pt_val (pe_fn c_has_end (pa_cons (pv 1) (pa_cons (pv 7) (pa_cons (pe_ix ix_seq (pv 9) pe_int) pa_nil)))))))) (pss_one (ps_expr (pe_bm PySem.F.plainAttrs_list PySem.F.slot_list_append PySem.F.type_list_append mr_append (pv 4) (pa_cons (pe_op op_cat (pv 5) (pe_lst (pa_cons (pe_tup (pa_cons (pv 6) (pa_cons pe_str (pa_cons (pv 8) pa_nil)))) pa_nil))) pa_nil)))) pss_nil)))))
      (pss_one (ps_ret (pe_callB (call_bigL mkE hr.units (by decide)) B.b_sorted (pa_cons (pv 4) pa_nil)))))), ?_⟩
    refine ⟨by decide, fun D hD => ?_⟩
    have s1 := same_new (o := .lst []) hD
    refine ⟨_, rfl, D0, rfl, ⟨_, SqL.of (s1 _ _ e0)⟩, for_list (xs := zs.map fun z => V.ref z.1) (fun i σ H' => ∃ (u5 u6 u7 u8 u9 : Option V) (ws : List (Addr × List mkE.O.α)), σ = [some (.ref net), some (.ref t), some (.ref D0), some (.str nam), some (.ref D), u5, u6, u7, u8, u9] ∧ Same H H' ∧ H' D = some (.lst (ws.map fun w => V.ref w.1)) ∧ (∀ w ∈ ws, WyC D H' w.1 w.2) ∧ ws.length = i)
      ⟨none, none, none, none, none, [], rfl, s1, upd_same, fun w hw => by simp at hw, rfl⟩ (fun i σ H' _ ⟨_, _, _, _, _, _, _, e, _⟩ => SqL.of (e _ _ e0)) ?_ ?_⟩
    · rintro i x σ H2 hx ⟨u5, u6, u7, u8, u9, ws, rfl, s2, eD, hw, lw⟩
      rw [List.getElem?_map] at hx
      obtain ⟨z, hzi, rfl⟩ := Option.map_eq_some_iff.mp hx
      have hil : i < zs.length := (List.getElem?_eq_some_iff.mp hzi).1
      obtain ⟨⟨ml, ts, h1, h2, h3⟩, hl7, hv⟩ := hz z (List.mem_of_getElem? hzi)
      refine ⟨z.1, _, rfl, SqT.of (s2 _ _ h1), rfl, _, _, rfl, _, _, rfl, _, _, rfl, rfl, ?_⟩
      have hu : (us.map V.ref)[z.2.2]? = some (.ref (us.getD z.2.2 0)) := by rw [List.getElem?_map, getD_at0 (by rw [SC.lu]; exact hv)]; rfl
      have etl := SC.tol z.2.2 hv
      refine ⟨_, rfl, Or.inr (Or.inl ⟨net, _, _, .ref sc, rfl, rfl, SqT.of (s2 _ _ en), rfl, _, rfl, Or.inl ⟨sc, _, _, .ref (us.getD z.2.2 0), rfl, rfl, SqL.of (s2 _ _ SC.top), atI_nat hu, Or.inr (Or.inl ⟨us.getD z.2.2 0, _, _, .ref (bs.getD z.2.2 0), rfl, rfl, SqT.of (s2 _ _ (SC.sco _ hv)), rfl, bs.getD z.2.2 0, rfl, ⟨_, s2 _ _ (SC.tel _ hv)⟩, for_enum (xs := [.ref (tl.getD z.2.2 0)]) (fun n σ H' => ∃ (u8 u9 : Option V) (ws : List (Addr × List mkE.O.α)), σ = [some (.ref net), some (.ref t), some (.ref D0), some (.str nam), some (.ref D), some (.ref ml), some (.int (z.2.2 : Int)), some (.int 0), u8, u9] ∧ Same H H' ∧ H' D = some (.lst (ws.map fun w => V.ref w.1)) ∧ (∀ w ∈ ws, WyC D H' w.1 w.2) ∧ ws.length = i + n)
        ⟨_, _, ws, rfl, s2, eD, hw, lw⟩ (fun n σ H' ⟨_, _, _, _, e, _⟩ => SqL.of (e _ _ (SC.tel _ hv))) ?_ ?_⟩)⟩⟩)⟩
      · rintro n y Tt σ H3 hy hT ⟨u8, u9, ws, rfl, s3, eD3, hw3, lw3⟩
        obtain ⟨rfl, rfl⟩ : n = 0 ∧ y = .ref (tl.getD z.2.2 0) := by
          cases n with
          | zero => cases hy; exact ⟨rfl, rfl⟩
          | succ n => simp at hy
        have s4 := s3.trans (same_new (o := .tup [.int (0 : Nat), .ref (tl.getD z.2.2 0)]) hT)
        have eD4 := same_new (o := .tup [.int (0 : Nat), .ref (tl.getD z.2.2 0)]) hT _ _ eD3
        have hw4 : ∀ w ∈ ws, WyC D (upd H3 Tt (.tup [.int (0 : Nat), .ref (tl.getD z.2.2 0)])) w.1 w.2 := fun w hw => (hw3 w hw).same (same_new hT)
        refine ⟨Tt, _, rfl, SqT.of upd_same, rfl, _, _, rfl, _, _, rfl, rfl, ?_⟩
        generalize upd H3 Tt (.tup [.int (0 : Nat), .ref (tl.getD z.2.2 0)]) = H4 at s4 eD4 hw4 ⊢
        have et4 := s4 _ _ etl
        refine ⟨_, rfl, Or.inr (Or.inl ⟨tl.getD z.2.2 0, _, _, .str nam, rfl, rfl, SqT.of et4, rfl, _, rfl, rfl, _, rfl, ?_⟩)⟩
        rw [decide_eq_true (show V.str nam = V.str nam from rfl)]
        refine iteT ⟨_, rfl, _, rfl, _, rfl, Or.inr (Or.inl ⟨tl.getD z.2.2 0, _, _, .str lab, rfl, rfl, SqT.of et4, rfl, t, lab, rfl, T.same s4, _, rfl, iteT ?_⟩)⟩
        refine ⟨_, rfl, Or.inl ⟨rfl, _, SqL.of eD4⟩, _, rfl, _, rfl, _, rfl, three_le, fun m hm => ?_⟩
        have s5 := same_new (o := .tup [.int (z.2.2 : Int), .str "told", .int ((0 : Nat) : Int)]) hm
        have em : (upd H4 m (.tup [.int (z.2.2 : Int), .str "told", .int ((0 : Nat) : Int)])) m = some (.tup [.int (z.2.2 : Int), .str "told", .int ((0 : Nat) : Int)]) := upd_same
        generalize upd H4 m (.tup [.int (z.2.2 : Int), .str "told", .int ((0 : Nat) : Int)]) = H5 at s5 em ⊢
        refine ⟨one_leT, fun L1 hL1 => ?_⟩
        have s6 := same_new (o := .lst [.ref m]) hL1
        have eL1 : (upd H5 L1 (.lst [.ref m])) L1 = some (.lst [.ref m]) := upd_same
        generalize upd H5 L1 (.lst [.ref m]) = H6 at s6 eL1 ⊢
        have s46 := s5.trans s6
        have s06 := s4.trans s46
        refine ⟨ml, L1, _, _, rfl, rfl, s06 _ _ h2, eL1, by rw [List.length_map, h3.len]; exact Nat.le_of_lt (small1000 (show _ + 1 ≤ 1000 by omega)), fun L2 hL2 => ?_⟩
        have s7 := same_new (o := .lst (ts.map V.ref ++ [.ref m])) hL2
        have eL2 : (upd H6 L2 (.lst (ts.map V.ref ++ [.ref m]))) L2 = some (.lst ((ts ++ [m]).map V.ref)) := by rw [upd_same, List.map_append]; rfl
        generalize upd H6 L2 (.lst (ts.map V.ref ++ [.ref m])) = H7 at s7 eL2 ⊢
        have s47 := s46.trans s7
        have eD7 := s47 _ _ eD4
        have nL2 : L2 ≠ D := fun e => by rw [e, s46 _ _ eD4] at hL2; cases hL2
        refine ⟨D, _, _, rfl, rfl, eD7, by rw [List.length_map]; exact small1000 (by omega), ?_⟩
        refine ⟨_, _, ws ++ [(L2, z.2.1.map mkO ++ [(((z.2.2 : Int), ("told" : Str), ((0 : Nat) : Int)) : mkE.O.α)])], rfl, fun x o e => ?_, by rw [upd_same, List.map_append]; rfl, fun w hw => ?_, by rw [List.length_append, lw3]; rfl⟩
        · rw [upd_ne (ne_of_none e hD)]; exact s47 _ _ (s4 x o e)
        · refine WyC.updL eD7 ?_
          rcases List.mem_append.mp hw with hw | hw
          · exact (hw4 w hw).same s47
          · rw [List.mem_singleton.mp hw]
            refine ⟨nL2, ts ++ [m], eL2, by simp [h3.len], fun n tt o q1 q2 => ?_⟩
            rcases Nat.lt_or_ge n ts.length with c | c
            · rw [List.getElem?_append_left c] at q1
              rw [List.getElem?_append_left (by rw [List.length_map, ← h3.len]; exact c), List.getElem?_map] at q2
              obtain ⟨p, hp, rfl⟩ := Option.map_eq_some_iff.mp q2
              exact s47 _ _ (s4 _ _ (h3.at_ n tt p q1 hp))
            · have hn1 : n < (ts ++ [m]).length := (List.getElem?_eq_some_iff.mp q1).1
              rw [List.length_append, List.length_singleton] at hn1
              have e' : n = ts.length := by omega
              subst e'
              rw [List.getElem?_append_right (Nat.le_refl _), Nat.sub_self] at q1
              rw [List.getElem?_append_right (by rw [List.length_map, h3.len]; exact Nat.le_refl _), List.length_map, h3.len, Nat.sub_self] at q2
              cases q1; cases q2
              exact s7 _ _ (s6 _ _ em)
      · rintro σ H3 ⟨u8, u9, ws, rfl, s3, eD3, hw3, lw3⟩
        exact ⟨_, _, _, _, _, ws, rfl, s3, eD3, hw3, lw3⟩
    · rintro σ H2 ⟨u5, u6, u7, u8, u9, ws, rfl, s2, eD, hw, lw⟩
      rw [List.length_map] at lw
      refine ⟨_, rfl, D, ws.map fun w => (V.ref w.1, w.2), rfl, ?_, by rw [List.length_map]; omega, fun y hy => ?_, fun D2 zs' hp hs hD2 => ?_⟩
      · rw [List.map_map]; exact SqL.of eD
      · obtain ⟨w, hw', rfl⟩ := List.mem_map.mp hy
        exact (hw w hw').dt
      refine q D2 _ _ (s2.free hD2) (s2.trans (same_new hD2)) upd_same ?_
      rw [List.length_map, hp.length_eq, List.length_map, lw]
theorem call_found_behind {f : Addr} {fd : FuncData} (B : Blt mg) (ER : Ers K mg) (c_has_end : Callee P w K mg base "has_end" 1 ["table", "state", "label"] (sp_has_end K)) (F : Fun K "found_behind" "found_behind" s_found_behind f fd) (hm : mg "found_behind" = some (.ref f)) : Callee P w K mg base "found_behind" 2 ["net", "table", "begun", "name"] (sp_found_behind K) :=
  ⟨f, fd, ok_found_behind B ER c_has_end F, hm, F.kp, F.binds fun _ _ _ _ _ _ us hl => (by obtain ⟨x0, x1, x2, x3, rfl⟩ := len_4 hl; rfl)⟩

def sp_found_ways (K : PySem.W.Frag) : Sp := fun vs H Q E => ∃ (net t : Addr) (ans : V) (v : Nat) (lab nam : Str) (S : Nat → List (Str × Nat)) (k : Nat), vs = [.ref net, ans, .ref t, .int (v : Int), .int 0, .str nam] ∧ v < 7 ∧ NetC H net lab nam S ∧ TabC H t lab ∧ StopL (kidB lab S) ([], v) k ∧
  (200 < (exL (kidB lab S) ([], v) k).length → ∀ H', Same H H' → E (.ref (clsA K "Tangled")) none H') ∧
  ((exL (kidB lab S) ([], v) k).length ≤ 200 → ∀ (D : Addr) (xs : List V) (H' : Hp), H D = none → Same H H' → H' D = some (.lst xs) → xs.length = (exL (kidB lab S) ([], v) k).length → Q (.ref D) H')
set_option maxHeartbeats 4000000 in
seal L2.PE L2.PA L2.PS L2.PSs L2.PT L2.PW L2.PC L2.PG L2.PGs L2.PI L2.PF L2.PSet L2.OpR L2.UnR L2.CallR L2.MtR L2.IxR L2.SlR L2.PO in
theorem ok_found_ways {f : Addr} {fd : FuncData} (B : Blt mg) (ER : Ers K mg) (c_found_behind : Callee P w K mg base "found_behind" 2 ["net", "table", "begun", "name"] (sp_found_behind K)) (c_beginnings : CalleeE P w K mg base "beginnings" 6 ["net", "answers", "table", "scope", "state"] (sp_beginnings K)) (F : Fun K "found_ways" "found_ways" s_found_ways f fd) : FnOk P w K mg base (CXE P w) 7 f fd ["net", "answers", "table", "scope", "state", "name"] (sp_found_ways K) := by
  refine F.okE sc_found_ways (fun vs H Q E h => ?_) (fun cdv A outer s H vs Q E hr h => ?_)
  · obtain ⟨net, t, ans, v, lab, nam, S, k, rfl, _⟩ := h
    rfl
  · obtain ⟨net, t, ans, v, lab, nam, S, k, rfl, hv, N, T, ST, qe, q⟩ := h
    refine ⟨_, (pss_one (ps_ret (pe_fn c_found_behind (pa_cons (pv 0) (pa_cons (pv 2) (pa_cons (pe_fnE c_beginnings throws_cx (hr.mono (by decide)) rfl (pa_cons (pv 0) (pa_cons (pv 1) (pa_cons (pv 2) (pa_cons (pv 3) (pa_cons (pv 4) pa_nil)))))) (pa_cons (pv 5) pa_nil))))))), ?_⟩
    refine ⟨_, rfl, _, rfl, _, rfl, _, rfl, _, rfl, _, rfl, _, rfl, net, t, ans, v, lab, nam, S, k, rfl, hv, N, T, ST, qe, fun hk D zs H1 hD s1 eD hz hl => ?_⟩
    refine ⟨_, rfl, net, t, D, lab, nam, S, zs, rfl, N.same s1, T.same s1, eD, fun z hz' => ⟨(hz z hz').1, once_len (hz z hz').2⟩, by omega, fun D2 xs H2 hD2 s2 eD2 hx => ?_⟩
    exact q hk D2 xs H2 (s1.free hD2) (s1.trans s2) eD2 (by rw [hx, hl])
theorem call_found_ways {f : Addr} {fd : FuncData} (B : Blt mg) (ER : Ers K mg) (c_found_behind : Callee P w K mg base "found_behind" 2 ["net", "table", "begun", "name"] (sp_found_behind K)) (c_beginnings : CalleeE P w K mg base "beginnings" 6 ["net", "answers", "table", "scope", "state"] (sp_beginnings K)) (F : Fun K "found_ways" "found_ways" s_found_ways f fd) (hm : mg "found_ways" = some (.ref f)) : CalleeE P w K mg base "found_ways" 7 ["net", "answers", "table", "scope", "state", "name"] (sp_found_ways K) :=
  ⟨f, fd, ok_found_ways B ER c_found_behind c_beginnings F, hm, F.kp, F.binds fun _ _ _ _ _ _ us hl => (by obtain ⟨x0, x1, x2, x3, x4, x5, rfl⟩ := len_6 hl; rfl)⟩

def sp_owed_behind (_ : PySem.W.Frag) : Sp := fun vs H Q _ => ∃ (net t D0 : Addr) (ans : V) (lab nam : Str) (S : Nat → List (Str × Nat)) (zs : List (Addr × Bgn)), vs = [.ref net, ans, .ref t, .ref D0] ∧ NetC H net lab nam S ∧ TabC H t lab ∧ H D0 = some (.lst (zs.map fun z => V.ref z.1)) ∧ (∀ z ∈ zs, BgC H z.1 z.2 ∧ z.2.1.length ≤ 7 ∧ z.2.2 < 7) ∧ ∀ (D : Addr) (H' : Hp), H D = none → Same H H' → H' D = some (.lst []) → Q (.ref D) H'
set_option maxHeartbeats 4000000 in
seal L2.PE L2.PA L2.PS L2.PSs L2.PT L2.PW L2.PC L2.PG L2.PGs L2.PI L2.PF L2.PSet L2.OpR L2.UnR L2.CallR L2.MtR L2.IxR L2.SlR L2.PO in
theorem ok_owed_behind {f : Addr} {fd : FuncData} (B : Blt mg) (ER : Ers K mg) (c_steps_gone : Callee P w K mg base "steps_gone" 4 ["net", "answers", "table", "scope", "state"] (sp_steps_gone K)) (F : Fun K "owed_behind" "owed_behind" s_owed_behind f fd) : FnOk P w K mg base CX0 5 f fd ["net", "answers", "table", "begun"] (sp_owed_behind K) := by
  refine F.ok sc_owed_behind (fun vs H Q E h => ?_) (fun cdv A outer s H vs Q E hr h => ?_)
  · obtain ⟨net, t, D0, ans, lab, nam, S, zs, rfl, _⟩ := h
    rfl
  · obtain ⟨net, t, D0, ans, lab, nam, S, zs, rfl, N, T, e0, hz, q⟩ := h
    refine ⟨_, (pss_cons (ps_set (i := 4) sc_owed_behind.nd (pe_lst pa_nil))
      (pss_cons (ps_for PassesOwn.never rfl (pi_list (pv 3)) (pg_tup (n := 3) rfl (pgs_cons (pg_name (i := 5) sc_owed_behind.nd) (pgs_cons (pg_name (i := 6) sc_owed_behind.nd) (pgs_cons (pg_name (i := 7) sc_owed_behind.nd) pgs_nil)))) (pss_one (ps_for PassesOwn.never rfl (pi_list (pe_fn c_steps_gone (pa_cons (pv 0) (pa_cons (pv 1) (pa_cons (pv 2) (pa_cons (pv 6) (pa_cons (pv 7) pa_nil))))))) (pg_tup (n := 4) rfl (pgs_cons (pg_name (i := 8) sc_owed_behind.nd) (pgs_cons (pg_name (i := 9) sc_owed_behind.nd) (pgs_cons (pg_name (i := 10) sc_owed_behind.nd) (pgs_cons (pg_name (i := 11) sc_owed_behind.nd) pgs_nil))))) (pss_one (ps_if (pt_cmpR op_eq (pv 9) pe_str (nomark _)) (pss_one (ps_expr (pe_bm PySem.F.plainAttrs_list PySem.F.slot_list_append PySem.F.type_list_append mr_append (pv 4) (pa_cons (pe_tup (pa_cons (pe_op op_cat (pv 5) (pe_lst (pa_cons (pv 8) pa_nil))) (pa_cons (pv 10) pa_nil))) pa_nil)))) pss_nil)))))
      (pss_one (ps_ret (pe_callB (call_bigLP mkE intE hr.units (by decide) (by decide)) B.b_sorted (pa_cons (pv 4) pa_nil)))))), ?_⟩
    refine ⟨by decide, fun D hD => ?_⟩
    have s1 := same_new (o := .lst []) hD
    refine ⟨_, rfl, D0, rfl, ⟨_, SqL.of (s1 _ _ e0)⟩, for_list (xs := zs.map fun z => V.ref z.1) (fun i σ H' => ∃ (u5 u6 u7 u8 u9 u10 u11 : Option V), σ = [some (.ref net), some ans, some (.ref t), some (.ref D0), some (.ref D), u5, u6, u7, u8, u9, u10, u11] ∧ Same H H' ∧ H' D = some (.lst []))
      ⟨none, none, none, none, none, none, none, rfl, s1, upd_same⟩ (fun i σ H' _ ⟨_, _, _, _, _, _, _, _, e, _⟩ => SqL.of (e _ _ e0)) ?_ ?_⟩
    · rintro i x σ H2 hx ⟨u5, u6, u7, u8, u9, u10, u11, rfl, s2, eD⟩
      rw [List.getElem?_map] at hx
      obtain ⟨z, hzi, rfl⟩ := Option.map_eq_some_iff.mp hx
      obtain ⟨⟨ml, ts, h1, h2, h3⟩, hl7, hv⟩ := hz z (List.mem_of_getElem? hzi)
      refine ⟨z.1, _, rfl, SqT.of (s2 _ _ h1), rfl, _, _, rfl, _, _, rfl, _, _, rfl, rfl, ?_⟩
      refine ⟨_, rfl, _, rfl, _, rfl, _, rfl, _, rfl, net, t, ans, z.2.2, lab, nam, S, rfl, hv, N.same s2, T.same s2, fun G gs H3 hG s3 eG Gs => ?_⟩
      refine ⟨G, rfl, ⟨_, SqL.of eG⟩, for_list (xs := gs.map V.ref) (fun n σ H' => ∃ (u8 u9 u10 u11 : Option V), σ = [some (.ref net), some ans, some (.ref t), some (.ref D0), some (.ref D), some (.ref ml), some (.int (z.2.2 : Int)), some (.int 0), u8, u9, u10, u11] ∧ H' = H3) ⟨_, _, _, _, rfl, rfl⟩ (fun n σ H' _ ⟨_, _, _, _, _, e⟩ => by rw [e]; exact SqL.of eG) ?_ ?_⟩
      · rintro n y σ H4 hy ⟨u8, u9, u10, u11, rfl, rfl⟩
        rw [List.getElem?_map] at hy
        obtain ⟨g, hg, rfl⟩ := Option.map_eq_some_iff.mp hy
        have hn : n < (goneN lab 0 (S z.2.2)).length := by rw [← Gs.len]; exact (List.getElem?_eq_some_iff.mp hg).1
        obtain ⟨m, eg, em⟩ := Gs.at_ n g _ hg (List.getElem?_eq_getElem hn)
        refine ⟨g, _, rfl, SqT.of eg, rfl, _, _, rfl, _, _, rfl, _, _, rfl, _, _, rfl, rfl, ?_⟩
        refine ⟨_, rfl, rfl, _, rfl, ?_⟩
        rw [decide_eq_false (show ¬ V.str "to" = V.str "open" from fun e => absurd (V.str.inj e) (by decide +kernel))]
        exact iteF ⟨_, _, _, _, rfl, rfl⟩
      · rintro σ H4 ⟨u8, u9, u10, u11, rfl, rfl⟩
        exact ⟨_, _, _, _, _, _, _, rfl, s2.trans s3, s3 _ _ eD⟩
    · rintro σ H2 ⟨u5, u6, u7, u8, u9, u10, u11, rfl, s2, eD⟩
      refine ⟨_, rfl, D, [], rfl, SqL.of eD, show 0 ≤ 900 by decide, fun y hy => by simp at hy, fun D2 zs' hp hs hD2 => ?_⟩
      obtain rfl : zs' = [] := List.length_eq_zero_iff.mp hp.length_eq
      exact q D2 _ (s2.free hD2) (s2.trans (same_new hD2)) upd_same
theorem call_owed_behind {f : Addr} {fd : FuncData} (B : Blt mg) (ER : Ers K mg) (c_steps_gone : Callee P w K mg base "steps_gone" 4 ["net", "answers", "table", "scope", "state"] (sp_steps_gone K)) (F : Fun K "owed_behind" "owed_behind" s_owed_behind f fd) (hm : mg "owed_behind" = some (.ref f)) : Callee P w K mg base "owed_behind" 5 ["net", "answers", "table", "begun"] (sp_owed_behind K) :=
  ⟨f, fd, ok_owed_behind B ER c_steps_gone F, hm, F.kp, F.binds fun _ _ _ _ _ _ us hl => (by obtain ⟨x0, x1, x2, x3, rfl⟩ := len_4 hl; rfl)⟩

def sp_owed_ways (K : PySem.W.Frag) : Sp := fun vs H Q E => ∃ (net t : Addr) (ans : V) (v : Nat) (lab nam : Str) (S : Nat → List (Str × Nat)) (k : Nat), vs = [.ref net, ans, .ref t, .int (v : Int), .int 0] ∧ v < 7 ∧ NetC H net lab nam S ∧ TabC H t lab ∧ StopL (kidB lab S) ([], v) k ∧
  (200 < (exL (kidB lab S) ([], v) k).length → ∀ H', Same H H' → E (.ref (clsA K "Tangled")) none H') ∧
  ((exL (kidB lab S) ([], v) k).length ≤ 200 → ∀ (D : Addr) (H' : Hp), H D = none → Same H H' → H' D = some (.lst []) → Q (.ref D) H')
set_option maxHeartbeats 4000000 in
seal L2.PE L2.PA L2.PS L2.PSs L2.PT L2.PW L2.PC L2.PG L2.PGs L2.PI L2.PF L2.PSet L2.OpR L2.UnR L2.CallR L2.MtR L2.IxR L2.SlR L2.PO in
theorem ok_owed_ways {f : Addr} {fd : FuncData} (B : Blt mg) (ER : Ers K mg) (c_owed_behind : Callee P w K mg base "owed_behind" 5 ["net", "answers", "table", "begun"] (sp_owed_behind K)) (c_beginnings : CalleeE P w K mg base "beginnings" 6 ["net", "answers", "table", "scope", "state"] (sp_beginnings K)) (F : Fun K "owed_ways" "owed_ways" s_owed_ways f fd) : FnOk P w K mg base (CXE P w) 7 f fd ["net", "answers", "table", "scope", "state"] (sp_owed_ways K) := by
  refine F.okE sc_owed_ways (fun vs H Q E h => ?_) (fun cdv A outer s H vs Q E hr h => ?_)
  · obtain ⟨net, t, ans, v, lab, nam, S, k, rfl, _⟩ := h
    rfl
  · obtain ⟨net, t, ans, v, lab, nam, S, k, rfl, hv, N, T, ST, qe, q⟩ := h
    refine ⟨_, (pss_one (ps_ret (pe_fn c_owed_behind (pa_cons (pv 0) (pa_cons (pv 1) (pa_cons (pv 2) (pa_cons (pe_fnE c_beginnings throws_cx (hr.mono (by decide)) rfl (pa_cons (pv 0) (pa_cons (pv 1) (pa_cons (pv 2) (pa_cons (pv 3) (pa_cons (pv 4) pa_nil)))))) pa_nil))))))), ?_⟩
    refine ⟨_, rfl, _, rfl, _, rfl, _, rfl, _, rfl, _, rfl, _, rfl, _, rfl, net, t, ans, v, lab, nam, S, k, rfl, hv, N, T, ST, qe, fun hk D zs H1 hD s1 eD hz hl => ?_⟩
    refine ⟨net, t, D, ans, lab, nam, S, zs, rfl, N.same s1, T.same s1, eD, fun z hz' => ⟨(hz z hz').1, once_len (hz z hz').2⟩, fun D2 H2 hD2 s2 eD2 => ?_⟩
    exact q hk D2 H2 (s1.free hD2) (s1.trans s2) eD2
theorem call_owed_ways {f : Addr} {fd : FuncData} (B : Blt mg) (ER : Ers K mg) (c_owed_behind : Callee P w K mg base "owed_behind" 5 ["net", "answers", "table", "begun"] (sp_owed_behind K)) (c_beginnings : CalleeE P w K mg base "beginnings" 6 ["net", "answers", "table", "scope", "state"] (sp_beginnings K)) (F : Fun K "owed_ways" "owed_ways" s_owed_ways f fd) (hm : mg "owed_ways" = some (.ref f)) : CalleeE P w K mg base "owed_ways" 7 ["net", "answers", "table", "scope", "state"] (sp_owed_ways K) :=
  ⟨f, fd, ok_owed_ways B ER c_owed_behind c_beginnings F, hm, F.kp, F.binds fun _ _ _ _ _ _ us hl => (by obtain ⟨x0, x1, x2, x3, x4, rfl⟩ := len_5 hl; rfl)⟩

def sp__law_asked (K : PySem.W.Frag) : Sp := fun vs H Q E => ∃ (net t : Addr) (v w : Nat) (lab nam : Str) (S : Nat → List (Str × Nat)) (k : Nat), vs = [.ref net, .ref t, .int (v : Int), .int (w : Int), .str nam] ∧ v < 7 ∧ w < 3 ∧ NetC H net lab nam S ∧ TabC H t lab ∧ StopL (kidB lab S) ([], v) k ∧
  (200 < (exL (kidB lab S) ([], v) k).length → ∀ H', Same H H' → E (.ref (clsA K "Tangled")) none H') ∧
  ((exL (kidB lab S) ([], v) k).length ≤ 200 → ∀ (D : Addr) (xs : List V) (H' : Hp), H D = none → Same H H' → H' D = some (.lst xs) → (w ≠ 2 → xs.length = (exL (kidB lab S) ([], v) k).length) → (w = 2 → xs = []) → Q (.ref D) H')
set_option maxHeartbeats 4000000 in
seal L2.PE L2.PA L2.PS L2.PSs L2.PT L2.PW L2.PC L2.PG L2.PGs L2.PI L2.PF L2.PSet L2.OpR L2.UnR L2.CallR L2.MtR L2.IxR L2.SlR L2.PO in
theorem ok__law_asked {f : Addr} {fd : FuncData} (B : Blt mg) (ER : Ers K mg) (c_beginnings : CalleeE P w K mg base "beginnings" 6 ["net", "answers", "table", "scope", "state"] (sp_beginnings K)) (c_found_ways : CalleeE P w K mg base "found_ways" 7 ["net", "answers", "table", "scope", "state", "name"] (sp_found_ways K)) (c_owed_ways : CalleeE P w K mg base "owed_ways" 7 ["net", "answers", "table", "scope", "state"] (sp_owed_ways K)) (F : Fun K "_law_asked" "_law_asked" s__law_asked f fd) : FnOk P w K mg base (CXE P w) 8 f fd ["_law_net_here", "_law_table", "_law_scope", "_law_way", "_law_name"] (sp__law_asked K) := by
  refine F.okE sc__law_asked (fun vs H Q E h => ?_) (fun cdv A outer s H vs Q E hr h => ?_)
  · obtain ⟨net, t, v, w, lab, nam, S, k, rfl, _⟩ := h
    rfl
  · obtain ⟨net, t, v, wy, lab, nam, S, k, rfl, hv, hw, N, T, ST, qe, q⟩ := h
    refine ⟨_, (pss_cons (ps_if (pt_cmpR op_eq (pv 3) pe_int (nomark _)) (pss_one (ps_ret (pe_fnE c_beginnings throws_cx (hr.mono (by decide)) rfl (pa_cons (pv 0) (pa_cons (pe_lst (pa_cons pe_non pa_nil)) (pa_cons (pv 1) (pa_cons (pv 2) (pa_cons pe_int pa_nil)))))))) pss_nil)
      (pss_cons (ps_if (pt_cmpR op_eq (pv 3) pe_int (nomark _)) (pss_one (ps_ret (pe_fnE c_found_ways throws_cx (hr.mono (by decide)) rfl (pa_cons (pv 0) (pa_cons (pe_lst (pa_cons pe_non pa_nil)) (pa_cons (pv 1) (pa_cons (pv 2) (pa_cons pe_int (pa_cons (pv 4) pa_nil))))))))) pss_nil)
      (pss_one (ps_ret (pe_fnE c_owed_ways throws_cx (hr.mono (by decide)) rfl (pa_cons (pv 0) (pa_cons (pe_lst (pa_cons pe_non pa_nil)) (pa_cons (pv 1) (pa_cons (pv 2) (pa_cons pe_int pa_nil)))))))))), ?_⟩
    refine ⟨_, rfl, rfl, _, rfl, ite2 (fun h => ?_) (fun h => ?_)⟩
    · have h : wy = 0 := by have := V.int.inj (of_decide_eq_true h); omega
      refine ⟨_, rfl, one_leT, fun L hL => ?_⟩
      have s1 := same_new (o := .lst [.non]) hL
      refine ⟨_, rfl, _, rfl, net, t, .ref L, v, lab, nam, S, k, rfl, hv, N.same s1, T.same s1, ST, fun a H' s' => qe a H' (s1.trans s'), fun a D zs H' hD s' eD hz hl => ?_⟩
      exact q a D _ H' (s1.free hD) (s1.trans s') eD (fun _ => by rw [List.length_map]; exact hl) (fun z => by omega)
    · have h0 : wy ≠ 0 := fun z => h (by rw [z]; rfl)
      refine ⟨_, rfl, rfl, _, rfl, ite2 (fun h => ?_) (fun h => ?_)⟩
      · have h : wy = 1 := by have := V.int.inj (of_decide_eq_true h); omega
        refine ⟨_, rfl, one_leT, fun L hL => ?_⟩
        have s1 := same_new (o := .lst [.non]) hL
        refine ⟨_, rfl, _, rfl, _, rfl, net, t, .ref L, v, lab, nam, S, k, rfl, hv, N.same s1, T.same s1, ST, fun a H' s' => qe a H' (s1.trans s'), fun a D xs H' hD s' eD hl => ?_⟩
        exact q a D xs H' (s1.free hD) (s1.trans s') eD (fun _ => hl) (fun z => by omega)
      · have h1 : wy ≠ 1 := fun z => h (by rw [z]; rfl)
        refine ⟨_, rfl, one_leT, fun L hL => ?_⟩
        have s1 := same_new (o := .lst [.non]) hL
        refine ⟨_, rfl, _, rfl, net, t, .ref L, v, lab, nam, S, k, rfl, hv, N.same s1, T.same s1, ST, fun a H' s' => qe a H' (s1.trans s'), fun a D H' hD s' eD => ?_⟩
        exact q a D [] H' (s1.free hD) (s1.trans s') eD (fun z => by omega) (fun _ => rfl)
theorem call__law_asked {f : Addr} {fd : FuncData} (B : Blt mg) (ER : Ers K mg) (c_beginnings : CalleeE P w K mg base "beginnings" 6 ["net", "answers", "table", "scope", "state"] (sp_beginnings K)) (c_found_ways : CalleeE P w K mg base "found_ways" 7 ["net", "answers", "table", "scope", "state", "name"] (sp_found_ways K)) (c_owed_ways : CalleeE P w K mg base "owed_ways" 7 ["net", "answers", "table", "scope", "state"] (sp_owed_ways K)) (F : Fun K "_law_asked" "_law_asked" s__law_asked f fd) (hm : mg "_law_asked" = some (.ref f)) : CalleeE P w K mg base "_law_asked" 8 ["_law_net_here", "_law_table", "_law_scope", "_law_way", "_law_name"] (sp__law_asked K) :=
  ⟨f, fd, ok__law_asked B ER c_beginnings c_found_ways c_owed_ways F, hm, F.kp, F.binds fun _ _ _ _ _ _ us hl => (by obtain ⟨x0, x1, x2, x3, x4, rfl⟩ := len_5 hl; rfl)⟩

abbrev kindsT : List V := .bl true :: .bl true :: (List.range 8).map fun _ => V.bl false
def sp__law_kinds_of (_ : PySem.W.Frag) : Sp := fun vs H Q _ => ∃ (net t : Addr) (v w : Nat) (lab nam : Str) (S : Nat → List (Str × Nat)) (k : Nat), vs = [.ref net, .ref t, .int (v : Int), .int (w : Int), .str nam] ∧ v < 7 ∧ w < 3 ∧ NetC H net lab nam S ∧ TabC H t lab ∧ StopL (kidB lab S) ([], v) k ∧
  200 < (exL (kidB lab S) ([], v) k).length ∧ ∀ (D : Addr) (H' : Hp), Same H H' → H' D = some (.lst kindsT) → Q (.ref D) H'
set_option maxHeartbeats 4000000 in
seal L2.PE L2.PA L2.PS L2.PSs L2.PT L2.PW L2.PC L2.PG L2.PGs L2.PI L2.PF L2.PSet L2.OpR L2.UnR L2.CallR L2.MtR L2.IxR L2.SlR L2.PO in
theorem ok__law_kinds_of {f : Addr} {fd : FuncData} (B : Blt mg) (ER : Ers K mg) (c__law_asked : CalleeE P w K mg base "_law_asked" 8 ["_law_net_here", "_law_table", "_law_scope", "_law_way", "_law_name"] (sp__law_asked K)) (F : Fun K "_law_kinds_of" "_law_kinds_of" s__law_kinds_of f fd) : FnOk P w K mg base CX0 9 f fd ["_law_net_here", "_law_table", "_law_scope", "_law_way", "_law_name"] (sp__law_kinds_of K) := by
  refine F.ok sc__law_kinds_of (fun vs H Q E h => ?_) (fun cdv A outer s H vs Q E hr h => ?_)
  · obtain ⟨net, t, v, w, lab, nam, S, k, rfl, _⟩ := h
    rfl
  · obtain ⟨net, t, v, wy, lab, nam, S, k, rfl, hv, hw, N, T, ST, hk, q⟩ := h
    refine ⟨_, (pss_cons (ps_set (i := 5) sc__law_kinds_of.nd pe_non)
      (pss_cons (ps_try_fn (i := 6) c__law_asked (hr.mono (by decide)) rfl (pa_cons (pv 0) (pa_cons (pv 1) (pa_cons (pv 2) (pa_cons (pv 3) (pa_cons (pv 4) pa_nil))))) rfl rfl ER.k_PathError.ok (by decide) rfl ER.e_PathError sc__law_kinds_of.nd rfl rfl (fun _ => (pss_cons (ps_set (i := 5) sc__law_kinds_of.nd (pe_lst (pa_cons (pe_callB (id := "isinstance") (r := rIsiE K) call_isiE B.b_isinstance (pa_cons (pv 6) (pa_cons (pe_ty "ValueError" rfl B.b_ValueError (by decide +kernel)) pa_nil))) (pa_cons (pe_callB (id := "isinstance") (r := rIsiE K) call_isiE B.b_isinstance (pa_cons (pv 6) (pa_cons (pe_glob (v := .ref (clsA K "Tangled")) rfl ER.e_Tangled rfl) pa_nil))) (pa_cons (pe_callB (id := "isinstance") (r := rIsiE K) call_isiE B.b_isinstance (pa_cons (pv 6) (pa_cons (pe_glob (v := .ref (clsA K "NoName")) rfl ER.e_NoName rfl) pa_nil))) (pa_cons (pe_callB (id := "isinstance") (r := rIsiE K) call_isiE B.b_isinstance (pa_cons (pv 6) (pa_cons (pe_glob (v := .ref (clsA K "NoPlace")) rfl ER.e_NoPlace rfl) pa_nil))) pa_nil))))))
        (pss_cons (ps_set (i := 5) sc__law_kinds_of.nd (pe_op op_cat (pv 5) (pe_lst (pa_cons (pe_callB (id := "isinstance") (r := rIsiE K) call_isiE B.b_isinstance (pa_cons (pv 6) (pa_cons (pe_glob (v := .ref (clsA K "Twice")) rfl ER.e_Twice rfl) pa_nil))) (pa_cons (pe_callB (id := "isinstance") (r := rIsiE K) call_isiE B.b_isinstance (pa_cons (pv 6) (pa_cons (pe_glob (v := .ref (clsA K "TooGreat")) rfl ER.e_TooGreat rfl) pa_nil))) (pa_cons (pe_callB (id := "isinstance") (r := rIsiE K) call_isiE B.b_isinstance (pa_cons (pv 6) (pa_cons (pe_glob (v := .ref (clsA K "NoText")) rfl ER.e_NoText rfl) pa_nil))) (pa_cons (pe_callB (id := "isinstance") (r := rIsiE K) call_isiE B.b_isinstance (pa_cons (pv 6) (pa_cons (pe_glob (v := .ref (clsA K "NoRow")) rfl ER.e_NoRow rfl) pa_nil))) pa_nil)))))))
        (pss_one (ps_set (i := 5) sc__law_kinds_of.nd (pe_op op_cat (pv 5) (pe_lst (pa_cons (pe_callB (id := "isinstance") (r := rIsiE K) call_isiE B.b_isinstance (pa_cons (pv 6) (pa_cons (pe_glob (v := .ref (clsA K "Ring")) rfl ER.e_Ring rfl) pa_nil))) (pa_cons (pe_callB (id := "isinstance") (r := rIsiE K) call_isiE B.b_isinstance (pa_cons (pv 6) (pa_cons (pe_glob (v := .ref (clsA K "Caught")) rfl ER.e_Caught rfl) pa_nil))) pa_nil))))))))))
      (pss_one (ps_ret (pv 5))))), ?_⟩
    refine g_in ?_
    try dsimp only
    refine ⟨_, rfl, _, rfl, _, rfl, _, rfl, _, rfl, net, t, v, wy, lab, nam, S, k, rfl, hv, hw, N, T, ST, fun _ H2 s0 => ?_, fun hz => absurd hk (by omega)⟩
    refine ⟨clsA K "Tangled", _, _, rfl, ER.k_Tangled.ok, ER.s_Tangled_PathError, fun ea hea => ?_⟩
    have tX : (upd H2 ea (ExcO ea (clsA K "Tangled"))) ea = some (ExcO ea (clsA K "Tangled")) := upd_same
    have s1 := same_new (o := ExcO ea (clsA K "Tangled")) hea
    generalize upd H2 ea (ExcO ea (clsA K "Tangled")) = H3 at tX s1 ⊢
    try dsimp only
    refine ⟨_, rfl, ea, clsA K "Tangled", _, _, true, rfl, (fun _ h => h), tX, ER.d_Tangled, ER.v_Tangled, fun _ => rfl, _, rfl, ea, clsA K "Tangled", _, _, true, rfl, (fun _ h => h), tX, ER.d_Tangled, ER.a_Tangled_Tangled, fun _ => rfl, _, rfl, ea, clsA K "Tangled", _, _, false, rfl, (fun _ h => h), tX, ER.d_Tangled, ER.a_Tangled_NoName, (fun z => by rw [ER.n_Tangled_NoName] at z; cases z), _, rfl, ea, clsA K "Tangled", _, _, false, rfl, (fun _ h => h), tX, ER.d_Tangled, ER.a_Tangled_NoPlace, (fun z => by rw [ER.n_Tangled_NoPlace] at z; cases z), show 4 ≤ sizeLine by decide, fun l1 h1 => ?_⟩
    have t2 := same_new (o := .lst [.bl true, .bl true, .bl false, .bl false]) h1
    have e1 : (upd H3 l1 (.lst [.bl true, .bl true, .bl false, .bl false])) l1 = some (.lst [.bl true, .bl true, .bl false, .bl false]) := upd_same
    generalize upd H3 l1 (.lst [.bl true, .bl true, .bl false, .bl false]) = H4 at t2 e1 ⊢
    have tX := t2 _ _ tX
    refine g_in ?_
    try dsimp only
    refine ⟨_, rfl, _, rfl, ea, clsA K "Tangled", _, _, false, rfl, (fun _ h => h), tX, ER.d_Tangled, ER.a_Tangled_Twice, (fun z => by rw [ER.n_Tangled_Twice] at z; cases z), _, rfl, ea, clsA K "Tangled", _, _, false, rfl, (fun _ h => h), tX, ER.d_Tangled, ER.a_Tangled_TooGreat, (fun z => by rw [ER.n_Tangled_TooGreat] at z; cases z), _, rfl, ea, clsA K "Tangled", _, _, false, rfl, (fun _ h => h), tX, ER.d_Tangled, ER.a_Tangled_NoText, (fun z => by rw [ER.n_Tangled_NoText] at z; cases z), _, rfl, ea, clsA K "Tangled", _, _, false, rfl, (fun _ h => h), tX, ER.d_Tangled, ER.a_Tangled_NoRow, (fun z => by rw [ER.n_Tangled_NoRow] at z; cases z), show 4 ≤ sizeLine by decide, fun l2 h2 => ?_⟩
    have t3 := same_new (o := .lst [.bl false, .bl false, .bl false, .bl false]) h2
    have e2 : (upd H4 l2 (.lst [.bl false, .bl false, .bl false, .bl false])) l2 = some (.lst [.bl false, .bl false, .bl false, .bl false]) := upd_same
    generalize upd H4 l2 (.lst [.bl false, .bl false, .bl false, .bl false]) = H5 at t3 e2 ⊢
    have tX := t3 _ _ tX
    refine ⟨l1, l2, _, _, rfl, rfl, t3 _ _ e1, e2, show 8 ≤ sizeLine by decide, fun l3 h3 => ?_⟩
    have t4 := same_new (o := .lst ([.bl true, .bl true, .bl false, .bl false] ++ [.bl false, .bl false, .bl false, .bl false])) h3
    have e3 : (upd H5 l3 (.lst ([.bl true, .bl true, .bl false, .bl false] ++ [.bl false, .bl false, .bl false, .bl false]))) l3 = some (.lst ([.bl true, .bl true, .bl false, .bl false] ++ [.bl false, .bl false, .bl false, .bl false])) := upd_same
    generalize upd H5 l3 (.lst ([.bl true, .bl true, .bl false, .bl false] ++ [.bl false, .bl false, .bl false, .bl false])) = H6 at t4 e3 ⊢
    have tX := t4 _ _ tX
    refine g_in ?_
    try dsimp only
    refine ⟨_, rfl, _, rfl, ea, clsA K "Tangled", _, _, false, rfl, (fun _ h => h), tX, ER.d_Tangled, ER.a_Tangled_Ring, (fun z => by rw [ER.n_Tangled_Ring] at z; cases z), _, rfl, ea, clsA K "Tangled", _, _, false, rfl, (fun _ h => h), tX, ER.d_Tangled, ER.a_Tangled_Caught, (fun z => by rw [ER.n_Tangled_Caught] at z; cases z), show 2 ≤ sizeLine by decide, fun l4 h4 => ?_⟩
    have t5 := same_new (o := .lst [.bl false, .bl false]) h4
    have e4 : (upd H6 l4 (.lst [.bl false, .bl false])) l4 = some (.lst [.bl false, .bl false]) := upd_same
    generalize upd H6 l4 (.lst [.bl false, .bl false]) = H7 at t5 e4 ⊢
    refine ⟨l3, l4, _, _, rfl, rfl, t5 _ _ e3, e4, show 10 ≤ sizeLine by decide, fun l5 h5 => ?_⟩
    refine g_in ?_
    try dsimp only
    refine ⟨_, rfl, q l5 _ ((s0.trans ((((s1.trans t2).trans t3).trans t4).trans t5)).trans (same_new h5)) ?_⟩
    rw [upd_same]
    rfl
theorem call__law_kinds_of {f : Addr} {fd : FuncData} (B : Blt mg) (ER : Ers K mg) (c__law_asked : CalleeE P w K mg base "_law_asked" 8 ["_law_net_here", "_law_table", "_law_scope", "_law_way", "_law_name"] (sp__law_asked K)) (F : Fun K "_law_kinds_of" "_law_kinds_of" s__law_kinds_of f fd) (hm : mg "_law_kinds_of" = some (.ref f)) : Callee P w K mg base "_law_kinds_of" 9 ["_law_net_here", "_law_table", "_law_scope", "_law_way", "_law_name"] (sp__law_kinds_of K) :=
  ⟨f, fd, ok__law_kinds_of B ER c__law_asked F, hm, F.kp, F.binds fun _ _ _ _ _ _ us hl => (by obtain ⟨x0, x1, x2, x3, x4, rfl⟩ := len_5 hl; rfl)⟩

def sp__law_right (_ : PySem.W.Frag) : Sp := fun vs H Q _ => ∃ (net t : Addr) (v : Nat) (lab nam : Str) (S : Nat → List (Str × Nat)) (k n : Nat), vs = [.ref net, .ref t, .int (v : Int), .str nam, .int (n : Int)] ∧ v < 7 ∧ NetC H net lab nam S ∧ TabC H t lab ∧ StopL (kidB lab S) ([], v) k ∧ n = (exL (kidB lab S) ([], v) k).length ∧ ∀ H', Same H H' → Q (.bl true) H'
set_option maxHeartbeats 4000000 in
seal L2.PE L2.PA L2.PS L2.PSs L2.PT L2.PW L2.PC L2.PG L2.PGs L2.PI L2.PF L2.PSet L2.OpR L2.UnR L2.CallR L2.MtR L2.IxR L2.SlR L2.PO in
theorem ok__law_right {f : Addr} {fd : FuncData} (B : Blt mg) (ER : Ers K mg) (c__law_kinds_of : Callee P w K mg base "_law_kinds_of" 9 ["_law_net_here", "_law_table", "_law_scope", "_law_way", "_law_name"] (sp__law_kinds_of K)) (c__law_asked : CalleeE P w K mg base "_law_asked" 8 ["_law_net_here", "_law_table", "_law_scope", "_law_way", "_law_name"] (sp__law_asked K)) (F : Fun K "_law_right" "_law_right" s__law_right f fd) : FnOk P w K mg base CX0 10 f fd ["_law_net_here", "_law_table", "_law_scope", "_law_name", "_law_many"] (sp__law_right K) := by
  refine F.ok sc__law_right (fun vs H Q E h => ?_) (fun cdv A outer s H vs Q E hr h => ?_)
  · obtain ⟨net, t, v, lab, nam, S, k, n, rfl, _⟩ := h
    rfl
  · obtain ⟨net, t, v, lab, nam, S, k, n, rfl, hv, N, T, ST, hn, q⟩ := h
    refine ⟨_, (pss_cons (ps_if (pt_cmpR op_gt (pv 4) pe_int (nomark _)) (pss_cons (ps_set (i := 5) sc__law_right.nd (pe_op op_cat (pe_lst (pa_cons pe_bl (pa_cons pe_bl pa_nil))) (pe_comp rfl _law_right_cs1 (pi_range1 rfl B.b_range (pa_cons pe_int pa_nil)) (fun _ _ _ _ _ => (pg_name (i := 0) _law_right_cs1.nd)) (fun _ _ _ _ _ => pf_nil) (fun _ _ _ _ _ => pe_bl))))
        (pss_one (ps_ret (pe_callB (call_allL rfl) B.b_all (pa_cons (pe_comp (te := tOp (rEqD K) (tCall (sp__law_kinds_of K) [] E0 (tCons (tVar 2) (tCons (tVar 3) (tCons (tVar 4) (tCons (tVar 0) (tCons (tVar 5) tNil)))))) (tVar 1)) rfl _law_right_cs2 (pi_range1 rfl B.b_range (pa_cons pe_int pa_nil)) (fun _ _ _ _ _ => (pg_name (i := 0) _law_right_cs2.nd)) (fun _ _ _ _ _ => pf_nil) (fun _ _ _ _ _ => (pe_cmpR (op_eqD hr.units) (pe_fn c__law_kinds_of (pa_cons (pv 2) (pa_cons (pv 3) (pa_cons (pv 4) (pa_cons (pv 0) (pa_cons (pv 5) pa_nil)))))) (pv 1) (nomark _)))) pa_nil))))) pss_nil)
      (pss_cons (ps_if (PW.pt (pw_or (pt_cmpR op_ne (pe_callB call_len B.b_len (pa_cons (pe_fnS c__law_asked (hr.mono (by decide)) rfl (pa_cons (pv 0) (pa_cons (pv 1) (pa_cons (pv 2) (pa_cons pe_int (pa_cons (pv 3) pa_nil)))))) pa_nil)) (pv 4) (nomark _)) (pw_or1 (pt_cmpR op_ne (pe_callB call_len B.b_len (pa_cons (pe_fnS c__law_asked (hr.mono (by decide)) rfl (pa_cons (pv 0) (pa_cons (pv 1) (pa_cons (pv 2) (pa_cons pe_int (pa_cons (pv 3) pa_nil)))))) pa_nil)) (pv 4) (nomark _))))) (pss_one (ps_ret pe_bl)) pss_nil)
      (pss_one (ps_ret (pe_cmpR (op_eqD hr.units) (pe_fnS c__law_asked (hr.mono (by decide)) rfl (pa_cons (pv 0) (pa_cons (pv 1) (pa_cons (pv 2) (pa_cons pe_int (pa_cons (pv 3) pa_nil)))))) (pe_lst pa_nil) (nomark _)))))), ?_⟩
    refine ⟨_, rfl, _, _, rfl, rfl, _, rfl, ite2 (fun h => ?_) (fun h => ?_)⟩
    · have h : (n : Int) > 200 := of_decide_eq_true h
      refine ⟨show 2 ≤ sizeLine by decide, fun l1 h1 => ?_⟩
      have t1 := same_new (o := .lst [.bl true, .bl true]) h1
      have e1 : (upd H l1 (.lst [.bl true, .bl true])) l1 = some (.lst [.bl true, .bl true]) := upd_same
      generalize upd H l1 (.lst [.bl true, .bl true]) = H1 at t1 e1 ⊢
      refine ⟨_, rfl, by decide, by decide, comp_range (fun _ => .bl false) (by decide) (fun i H2 D R hi s2 hD k2 => k2 _ (Same.refl _)) (fun H2 l2 s2 h2 e2 => ?_)⟩
      refine ⟨l1, l2, _, _, rfl, rfl, s2 _ _ e1, e2, show 10 ≤ sizeLine by decide, fun l3 h3 => ?_⟩
      have t3 := same_new (o := .lst ([.bl true, .bl true] ++ (List.range (8 : Int).toNat).map fun _ => V.bl false)) h3
      have e3 : (upd H2 l3 (.lst ([.bl true, .bl true] ++ (List.range (8 : Int).toNat).map fun _ => V.bl false))) l3 = some (.lst kindsT) := upd_same
      generalize upd H2 l3 (.lst ([.bl true, .bl true] ++ (List.range (8 : Int).toNat).map fun _ => V.bl false)) = H3 at t3 e3 ⊢
      have s03 := (t1.trans s2).trans t3
      have dd : ∀ H' : Hp, IsDts K H' kindsT (Dt.bl true :: Dt.bl true :: (List.range 8).map fun _ => Dt.bl false) := fun H' => by
        refine .cons (.bl _) (.cons (.bl _) ?_)
        generalize List.range 8 = l
        induction l with
        | nil => exact .nil
        | cons a l ih => exact .cons (.bl _) ih
      refine g_in ?_
      try dsimp only
      refine ⟨_, rfl, by decide, by decide, comp_range (fun _ => .bl true) (by decide) (fun i H4 D R hi s4 hD k4 => ?_) (fun H4 l4 s4 h4 e4 => ?_)⟩
      · refine ⟨_, rfl, _, rfl, _, rfl, _, rfl, _, rfl, net, t, v, i, lab, nam, S, k, by rw [show (0 : Int) + (i : Int) = (i : Int) by omega]; rfl, hv, hi, (N.same s03).same s4, (T.same s03).same s4, ST, by omega, fun D5 H5 s5 e5 => ?_⟩
        refine ⟨_, rfl, 2, _, _, .lst (Cmps.of fun d hd e he => ?_), by decide, .lst (SqL.of e5) (dd _), .lst (SqL.of (s5 _ _ (s4 _ _ e3))) (dd _), ?_⟩
        · have hb : ∀ d ∈ (Dt.bl true :: Dt.bl true :: (List.range 8).map fun _ => Dt.bl false), ∃ b, d = .bl b := fun d hd => by
            rcases List.mem_cons.mp hd with rfl | hd
            · exact ⟨_, rfl⟩
            rcases List.mem_cons.mp hd with rfl | hd
            · exact ⟨_, rfl⟩
            obtain ⟨_, _, rfl⟩ := List.mem_map.mp hd
            exact ⟨_, rfl⟩
          obtain ⟨_, rfl⟩ := hb d hd
          obtain ⟨_, rfl⟩ := hb e he
          exact .bl _ _
        rw [dec_true rfl]
        exact k4 _ s5
      · exact ⟨l4, [true, true, true], rfl, SqL.of e4, q _ (s03.trans s4)⟩
    · have h : ¬ (n : Int) > 200 := fun z => h (decide_eq_true z)
      have hk : (exL (kidB lab S) ([], v) k).length ≤ 200 := by omega
      refine ⟨_, rfl, _, rfl, _, rfl, _, rfl, net, t, v, 0, lab, nam, S, k, rfl, hv, by decide, N, T, ST, fun z => absurd hk (by omega), fun _ D1 xs1 H1 hD1 s1 e1 n1 _ => ?_⟩
      refine ⟨_, _, rfl, Or.inl ⟨_, SqL.of e1, rfl⟩, _, rfl, rfl, _, rfl, ?_⟩
      rw [n1 (by decide), hn, decide_eq_true (show V.int _ = V.int _ from rfl)]
      refine iteF ⟨_, rfl, _, rfl, _, rfl, _, rfl, net, t, v, 1, lab, nam, S, k, rfl, hv, by decide, N.same s1, T.same s1, ST, fun z => absurd hk (by omega), fun _ D2 xs2 H2 hD2 s2 e2 n2 _ => ?_⟩
      refine ⟨_, _, rfl, Or.inl ⟨_, SqL.of e2, rfl⟩, _, rfl, rfl, _, rfl, ?_⟩
      rw [n2 (by decide), decide_eq_true (show V.int _ = V.int _ from rfl)]
      refine iteF ⟨_, rfl, _, rfl, _, rfl, _, rfl, net, t, v, 2, lab, nam, S, k, rfl, hv, by decide, (N.same s1).same s2, (T.same s1).same s2, ST, fun z => absurd hk (by omega), fun _ D3 xs3 H3 hD3 s3 e3 _ n3 => ?_⟩
      rw [n3 rfl] at e3
      refine ⟨by decide, fun l4 h4 => ?_⟩
      have s4 := same_new (o := .lst []) h4
      refine ⟨2, .lst [], .lst [], .lst (Cmps.of fun d hd => by simp at hd), by decide, .lst (SqL.of (s4 _ _ e3)) .nil, .lst (SqL.of upd_same) .nil, ?_⟩
      rw [dec_true rfl]
      exact q _ (((s1.trans s2).trans s3).trans s4)
theorem call__law_right {f : Addr} {fd : FuncData} (B : Blt mg) (ER : Ers K mg) (c__law_kinds_of : Callee P w K mg base "_law_kinds_of" 9 ["_law_net_here", "_law_table", "_law_scope", "_law_way", "_law_name"] (sp__law_kinds_of K)) (c__law_asked : CalleeE P w K mg base "_law_asked" 8 ["_law_net_here", "_law_table", "_law_scope", "_law_way", "_law_name"] (sp__law_asked K)) (F : Fun K "_law_right" "_law_right" s__law_right f fd) (hm : mg "_law_right" = some (.ref f)) : Callee P w K mg base "_law_right" 10 ["_law_net_here", "_law_table", "_law_scope", "_law_name", "_law_many"] (sp__law_right K) :=
  ⟨f, fd, ok__law_right B ER c__law_kinds_of c__law_asked F, hm, F.kp, F.binds fun _ _ _ _ _ _ us hl => (by obtain ⟨x0, x1, x2, x3, x4, rfl⟩ := len_5 hl; rfl)⟩
/-- paths in the heap -/
def PaC (D : Addr) (H : Hp) (a : Addr) (p : List Nat) : Prop := a ≠ D ∧ H a = some (.lst (p.map fun (n : Nat) => V.int (n : Int)))
theorem PaC.same {D : Addr} {H H' : Hp} {a : Addr} {p : List Nat} (e : Same H H') (h : PaC D H a p) : PaC D H' a p := ⟨h.1, e _ _ h.2⟩
theorem PaC.updL {D : Addr} {H : Hp} {o : HO} {a : Addr} {p : List Nat} (h : PaC D H a p) : PaC D (upd H D o) a p := ⟨h.1, by rw [upd_ne h.1]; exact h.2⟩
def OneP (p : List Nat) : Prop := p.Nodup ∧ p ≠ [] ∧ ∀ x ∈ p, x < 7
theorem OneP.len {p : List Nat} (h : OneP p) : p.length ≤ 7 := by
  have := Ord.nodup_sub_length h.1 (m := List.range 7) fun x hx => List.mem_range.mpr (h.2.2 x hx)
  rwa [List.length_range] at this
theorem OneP.last {p : List Nat} (h : OneP p) : p.getLast?.getD 0 < 7 ∧ atI (p.map fun (n : Nat) => V.int (n : Int)) (-1) = some (V.int ((p.getLast?.getD 0 : Nat) : Int)) := by
  obtain ⟨a, b, rfl⟩ : ∃ a b, p = a ++ [b] := ⟨p.dropLast, p.getLast h.2.1, (List.dropLast_concat_getLast h.2.1).symm⟩
  have e : (a ++ [b]).getLast?.getD 0 = b := by simp
  rw [e]
  refine ⟨h.2.2 b (by simp), ?_⟩
  have e2 : ixN ((a ++ [b]).map fun (n : Nat) => V.int (n : Int)).length (-1) = some a.length := by
    unfold ixN
    rw [if_neg (by decide), List.length_map, List.length_append, List.length_singleton, if_pos (by omega)]
    congr 1
    omega
  unfold atI
  rw [e2, List.map_append]
  show (List.map _ a ++ [V.int b])[a.length]? = _
  rw [List.getElem?_append_right (by simp)]
  simp
theorem OneP.kid {lab : Str} {S : Nat → List (Str × Nat)} (hS : ∀ i, i < 7 → ∀ x ∈ S i, x.2 < 7) {b c : List Nat} (h : OneP b) (hc : c ∈ kidP lab S b) : OneP c := by
  obtain ⟨x, hx, rfl⟩ := List.mem_map.mp hc
  obtain ⟨hx1, hx2⟩ := List.mem_filter.mp hx
  have hn : x.2 ∉ b := of_decide_eq_true hx2
  have l7 := hS _ h.last.1 x (List.mem_filter.mp hx1).1
  refine ⟨nodup_snoc h.1 hn, by simp, fun y hy => ?_⟩
  rcases List.mem_append.mp hy with hy | hy
  · exact h.2.2 y hy
  · rw [List.mem_singleton.mp hy]; exact l7
theorem ints_dtc {K : PySem.W.Frag} {H : Hp} : ∀ (l : List Nat), IsDts K H (l.map fun n : Nat => V.int (n : Int)) (l.map fun n : Nat => Dt.int (n : Int))
  | [] => .nil
  | _ :: l => .cons (.int _) (ints_dtc l)
/-- the kids by the first steps -/
def kidT (lab : Str) (l : List (Str × Nat)) (p : List Nat) : List (List Nat) := ((l.filter fun q => decide (q.1 = lab)).filter fun q => decide (q.2 ∉ p)).map fun q => p ++ [q.2]
theorem kidT_snoc (lab : Str) (l : List (Str × Nat)) (p : List Nat) (q : Str × Nat) : kidT lab (l ++ [q]) p = kidT lab l p ++ if q.1 = lab ∧ q.2 ∉ p then [p ++ [q.2]] else [] := by
  unfold kidT
  rw [List.filter_append, List.filter_append, List.map_append]
  congr 1
  by_cases c : q.1 = lab
  · rw [List.filter_cons_of_pos (by simpa using c)]
    by_cases d : q.2 ∉ p
    · rw [if_pos ⟨c, d⟩]; simp [d]
    · rw [if_neg fun z => d z.2]; simp at d; simp [d]
  · rw [List.filter_cons_of_neg (by simpa using c), if_neg fun z => c z.1]
    rfl
theorem kidT_len (lab : Str) (l : List (Str × Nat)) (p : List Nat) : (kidT lab l p).length ≤ l.length := by
  unfold kidT
  rw [List.length_map]
  exact Nat.le_trans (List.length_filter_le _ _) (List.length_filter_le _ _)

def sp__law_count (_ : PySem.W.Frag) : Sp := fun vs H Q _ => ∃ (net : Addr) (v : Nat) (lab nam : Str) (S : Nat → List (Str × Nat)), vs = [.ref net, .str lab, .int (v : Int)] ∧ v < 7 ∧ NetC H net lab nam S ∧ ∀ (k : Nat) (H' : Hp), Same H H' → StopL (kidP lab S) [v] k → Q (.int ((exL (kidP lab S) [v] k).length : Nat)) H'
set_option maxHeartbeats 4000000 in
seal L2.PE L2.PA L2.PS L2.PSs L2.PT L2.PW L2.PC L2.PG L2.PGs L2.PI L2.PF L2.PSet L2.OpR L2.UnR L2.CallR L2.MtR L2.IxR L2.SlR L2.PO in
theorem ok__law_count {f : Addr} {fd : FuncData} (B : Blt mg) (ER : Ers K mg)  (F : Fun K "_law_count" "_law_count" s__law_count f fd) : FnOk P w K mg base CX0 1 f fd ["_law_net_here", "_law_label", "_law_scope"] (sp__law_count K) := by
  refine F.ok sc__law_count (fun vs H Q E h => ?_) (fun cdv A outer s H vs Q E hr h => ?_)
  · obtain ⟨net, v, lab, nam, S, rfl, _⟩ := h
    rfl
  · obtain ⟨net, v, lab, nam, S, rfl, hv, N, q⟩ := h
    obtain ⟨sc, th, qu, us, as, bs, tl, en, SC⟩ := id N.ex
    have on0 : OneP [v] := ⟨by simp, by simp, fun x hx => by rw [List.mem_singleton.mp hx]; exact hv⟩
    have onA := exL_all (P := OneP) (f := kidP lab S) on0 (fun b hb c hc => hb.kid (fun i hi => (N.le i hi).2) hc)
    refine ⟨_, (pss_cons (ps_set (i := 3) sc__law_count.nd (pe_lst (pa_cons (pe_lst (pa_cons (pv 2) pa_nil)) pa_nil)))
      (pss_cons (ps_set (i := 4) sc__law_count.nd pe_int)
      (pss_cons (ps_while PassesOwn.never (PW.pt (pw_and (pt_cmpR op_lt (pv 4) (pe_callB call_len B.b_len (pa_cons (pv 3) pa_nil)) (nomark _)) (pw_and1 (pt_cmpR op_lt (pe_callB call_len B.b_len (pa_cons (pv 3) pa_nil)) pe_int (nomark _))))) (pss_cons (ps_set (i := 5) sc__law_count.nd (pe_ix ix_seq (pv 3) (pv 4)))
        (pss_cons (ps_for PassesOwn.never rfl (pi_list (pe_ix ix_seq (pe_ix ix_seq (pe_ix ix_seq (pv 0) pe_int) (pe_ix ix_seq (pv 5) (pe_un un_neg pe_int))) pe_int)) (pg_tup (n := 3) rfl (pgs_cons (pg_name (i := 6) sc__law_count.nd) (pgs_cons (pg_name (i := 7) sc__law_count.nd) (pgs_cons (pg_name (i := 8) sc__law_count.nd) pgs_nil)))) (pss_one (ps_if (PW.pt (pw_and (pt_cmpR op_eq (pv 6) (pv 1) (nomark _)) (pw_and1 (pt_cmpR (op_notinD hr.units) (pv 8) (pv 5) (by with_unfolding_all rfl))))) (pss_one (ps_expr (pe_bm PySem.F.plainAttrs_list PySem.F.slot_list_append PySem.F.type_list_append mr_append (pv 3) (pa_cons (pe_op op_cat (pv 5) (pe_lst (pa_cons (pv 8) pa_nil))) pa_nil)))) pss_nil)))
        (pss_one (ps_augR (i := 4) sc__law_count.nd rfl (Or.inl rfl) pe_int iop_add)))))
      (pss_one (ps_ret (pe_callB call_len B.b_len (pa_cons (pv 3) pa_nil))))))), ?_⟩
    refine ⟨_, rfl, one_leT, fun l hl => ?_⟩
    have s1 := same_new (o := .lst [.int (v : Int)]) hl
    have el : (upd H l (.lst [.int (v : Int)])) l = some (.lst [.int (v : Int)]) := upd_same
    generalize upd H l (.lst [.int (v : Int)]) = H1 at s1 el ⊢
    refine ⟨one_leT, fun D hD => ?_⟩
    have nlD : l ≠ D := ne_of_none el hD
    have s2 := same_new (o := .lst [.ref l]) hD
    have eD2 : (upd H1 D (.lst [.ref l])) D = some (.lst [.ref l]) := upd_same
    generalize upd H1 D (.lst [.ref l]) = H2 at s2 eD2 ⊢
    have s02 := s1.trans s2
    have hDH : H D = none := s1.free hD
    refine g_in ?_
    try dsimp only
    refine seq_setC ?_
    try dsimp only
    refine ⟨fun m σ H' => ∃ (j : Nat) (zs : List (Addr × List Nat)) (u5 u6 u7 u8 : Option V), m = 201 - j ∧ j ≤ 200 ∧ σ = [some (.ref net), some (.str lab), some (.int (v : Int)), some (.ref D), some (.int (j : Int)), u5, u6, u7, u8] ∧ Same H H' ∧ H' D = some (.lst (zs.map fun z => V.ref z.1)) ∧ (∀ z ∈ zs, PaC D H' z.1 z.2) ∧ zs.map (·.2) = exL (kidP lab S) [v] j ∧ ∀ i, i < j → i < (exL (kidP lab S) [v] i).length ∧ (exL (kidP lab S) [v] i).length ≤ 200,
      ⟨201, 0, [(l, [v])], none, none, none, none, rfl, Nat.zero_le _, rfl, s02, eD2, fun z hz => by rw [List.mem_singleton.mp hz]; exact ⟨nlD, s2 _ _ el⟩, rfl, fun i hi => absurd hi (by omega)⟩, ?_⟩
    rintro m σ H4 ⟨j, zs, u5, u6, u7, u8, rfl, hj, rfl, s4, eD4, A4, Z4, B4⟩
    have lz : (exL (kidP lab S) [v] j).length = zs.length := by rw [← Z4, List.length_map]
    have fin : ¬ (j < zs.length ∧ zs.length ≤ 200) → Q (.int ((zs.length : Nat) : Int)) H4 := fun z => by
      have := q j H4 s4 (stop_more B4 (by rw [lz]; exact z))
      rwa [lz] at this
    refine ⟨_, rfl, _, rfl, _, _, rfl, Or.inl ⟨_, SqL.of eD4, rfl⟩, _, _, rfl, rfl, _, rfl, ?_⟩
    rw [List.length_map]
    by_cases c1 : j < zs.length
    · rw [decide_eq_true (show (j : Int) < (zs.length : Int) by omega)]
      refine iteT ⟨_, rfl, _, _, rfl, Or.inl ⟨_, SqL.of eD4, rfl⟩, _, _, rfl, rfl, _, rfl, ?_⟩
      rw [List.length_map]
      by_cases c2 : zs.length ≤ 200
      · rw [decide_eq_true (show (zs.length : Int) < 201 by omega)]
        refine iteT ⟨fun σ' H' => ∃ (zs : List (Addr × List Nat)) (u5 u6 u7 u8 : Option V), σ' = [some (.ref net), some (.str lab), some (.int (v : Int)), some (.ref D), some (.int ((j + 1 : Nat) : Int)), u5, u6, u7, u8] ∧ Same H H' ∧ H' D = some (.lst (zs.map fun z => V.ref z.1)) ∧ (∀ z ∈ zs, PaC D H' z.1 z.2) ∧ zs.map (·.2) = exL (kidP lab S) [v] (j + 1), fun σ' H' ⟨zs', u5, u6, u7, u8, a1, a2, a3, a4, a5⟩ => ⟨201 - (j + 1), by omega, j + 1, zs', u5, u6, u7, u8, rfl, by omega, a1, a2, a3, a4, a5, fun i hi => ?_⟩, ?_⟩
        · rcases Nat.lt_or_ge i j with c | c
          · exact B4 i c
          · obtain rfl : i = j := by omega
            rw [lz]; exact ⟨c1, c2⟩
        have hzj := List.getElem?_eq_getElem c1
        have hat : (zs.map fun z => V.ref z.1)[j]? = some (.ref zs[j].1) := by rw [List.getElem?_map, hzj]; rfl
        have ebj : zs[j].2 = (exL (kidP lab S) [v] j)[j]'(by omega) := by
          have := congrArg (fun l => l[j]?) Z4
          simp only [List.getElem?_map, hzj] at this
          rw [List.getElem?_eq_getElem (by omega)] at this
          exact Option.some.inj this
        have onj : OneP zs[j].2 := by rw [ebj]; exact onA j _ (List.getElem_mem _)
        have Aj := A4 _ (List.getElem_mem c1)
        have eX : exL (kidP lab S) [v] (j + 1) = exL (kidP lab S) [v] j ++ kidT lab (S (zs[j].2.getLast?.getD 0)) zs[j].2 := by
          rw [exL_at (by omega), ← ebj]; rfl
        generalize zs[j].1 = ba at hat Aj
        generalize zs[j].2 = bp at onj Aj eX
        obtain ⟨hw, hla⟩ := onj.last
        generalize bp.getLast?.getD 0 = w at hw hla eX
        obtain ⟨ts, ea, hs⟩ := SC.stp w hw
        have h8 := (N.le w hw).1
        have hlt := hs.len
        have hu : (us.map V.ref)[w]? = some (.ref (us.getD w 0)) := by rw [List.getElem?_map, getD_at0 (by rw [SC.lu]; exact hw)]; rfl
        refine ⟨_, rfl, _, rfl, Or.inl ⟨D, _, _, .ref ba, rfl, rfl, SqL.of eD4, atI_nat hat, ?_⟩⟩
        refine g_in ?_
        try dsimp only
        refine ⟨_, rfl, Or.inr (Or.inl ⟨net, _, _, .ref sc, rfl, rfl, SqT.of (s4 _ _ en), rfl, _, rfl, _, rfl, Or.inl ⟨ba, _, _, .int (w : Int), rfl, rfl, SqL.of Aj.2, hla, Or.inl ⟨sc, _, _, .ref (us.getD w 0), rfl, rfl, SqL.of (s4 _ _ SC.top), atI_nat hu, Or.inr (Or.inl ⟨us.getD w 0, _, _, .ref (as.getD w 0), rfl, rfl, SqT.of (s4 _ _ (SC.sco w hw)), rfl, as.getD w 0, rfl, ⟨_, SqL.of (s4 _ _ ea)⟩, for_list (xs := ts.map V.ref) (fun i σ H' => ∃ (u6 u7 u8 : Option V) (ws : List (Addr × List Nat)), σ = [some (.ref net), some (.str lab), some (.int (v : Int)), some (.ref D), some (.int (j : Int)), some (.ref ba), u6, u7, u8] ∧ Same H H' ∧ H' D = some (.lst (ws.map fun z => V.ref z.1)) ∧ (∀ z ∈ ws, PaC D H' z.1 z.2) ∧ PaC D H' ba bp ∧ ws.map (·.2) = exL (kidP lab S) [v] j ++ kidT lab ((S w).take i) bp)
          ⟨_, _, _, zs, rfl, s4, eD4, A4, Aj, by rw [Z4]; exact (List.append_nil _).symm⟩ (fun i σ H' _ ⟨_, _, _, _, _, e, _⟩ => SqL.of (e _ _ ea)) ?_ ?_⟩)⟩⟩⟩)⟩
        · rintro i x σ H5 hx ⟨u6, u7, u8, ws, rfl, s5, eD5, A5, P5, Z5⟩
          rw [List.getElem?_map] at hx
          obtain ⟨tt, htt, rfl⟩ := Option.map_eq_some_iff.mp hx
          have hil : i < (S w).length := by rw [← hlt]; exact (List.getElem?_eq_some_iff.mp htt).1
          have hp := List.getElem?_eq_getElem hil
          have ett := hs.at_ i tt _ htt hp
          have etk : (S w).take (i + 1) = (S w).take i ++ [(S w)[i]] := by rw [List.take_succ, hp]; rfl
          have hkid := kidT_snoc lab ((S w).take i) bp (S w)[i]
          rw [← etk] at hkid
          have lws : ws.length ≤ 208 := by
            have := congrArg List.length Z5
            rw [List.length_map, List.length_append] at this
            have h2 := kidT_len lab ((S w).take i) bp
            rw [List.length_take] at h2
            omega
          generalize (S w)[i] = p at ett hkid hp
          refine ⟨tt, _, rfl, SqT.of (s5 _ _ ett), rfl, _, _, rfl, _, _, rfl, _, _, rfl, rfl, ?_⟩
          refine ⟨_, rfl, _, rfl, rfl, _, rfl, ?_⟩
          by_cases hc : p.1 = lab
          · rw [decide_eq_true (show V.str p.1 = V.str lab by rw [hc])]
            refine iteT ⟨_, rfl, _, rfl, 1, .int (p.2 : Int), bp.map fun n : Nat => Dt.int (n : Int), ba, _, fun e he => ?_, by decide, .int _, rfl, SqL.of P5.2, ints_dtc _, _, rfl, ?_⟩
            · obtain ⟨n, _, rfl⟩ := List.mem_map.mp he
              exact .int _ _
            have hin : (Dt.int (p.2 : Int) ∈ bp.map fun n : Nat => Dt.int (n : Int)) ↔ p.2 ∈ bp := by
              rw [List.mem_map]
              constructor
              · rintro ⟨n, hn, e⟩
                injection e with e
                rw [show p.2 = n by omega]; exact hn
              · exact fun hn => ⟨p.2, hn, rfl⟩
            rw [dec_congr hin]
            by_cases hd : p.2 ∈ bp
            · rw [dec_true hd]
              rw [if_neg fun z => z.2 hd, List.append_nil] at hkid
              exact iteF ⟨_, _, _, ws, rfl, s5, eD5, A5, P5, by rw [hkid]; exact Z5⟩
            · rw [dec_false hd]
              rw [if_pos ⟨hc, hd⟩] at hkid
              refine iteT ⟨_, rfl, Or.inl ⟨rfl, _, SqL.of eD5⟩, _, rfl, _, rfl, one_leT, fun L1 hL1 => ?_⟩
              have s6 := same_new (o := .lst [.int (p.2 : Int)]) hL1
              have eL1 : (upd H5 L1 (.lst [.int (p.2 : Int)])) L1 = some (.lst [.int (p.2 : Int)]) := upd_same
              generalize upd H5 L1 (.lst [.int (p.2 : Int)]) = H6 at s6 eL1 ⊢
              refine ⟨ba, L1, _, _, rfl, rfl, s6 _ _ P5.2, eL1, by rw [List.length_map]; exact Nat.le_of_lt (small1000 (show _ + 1 ≤ 1000 by have := onj.len; omega)), fun L2 hL2 => ?_⟩
              have s7 := same_new (o := .lst ((bp.map fun n : Nat => V.int (n : Int)) ++ [.int (p.2 : Int)])) hL2
              have eL2 : (upd H6 L2 (.lst ((bp.map fun n : Nat => V.int (n : Int)) ++ [.int (p.2 : Int)]))) L2 = some (.lst ((bp ++ [p.2]).map fun n : Nat => V.int (n : Int))) := by rw [upd_same, List.map_append]; rfl
              generalize upd H6 L2 (.lst ((bp.map fun n : Nat => V.int (n : Int)) ++ [.int (p.2 : Int)])) = H7 at s7 eL2 ⊢
              have s57 := s6.trans s7
              have nL2 : L2 ≠ D := fun z => by rw [z, s6 _ _ eD5] at hL2; cases hL2
              refine ⟨D, _, _, rfl, rfl, s57 _ _ eD5, by rw [List.length_map]; exact small1000 (by omega), ?_⟩
              refine ⟨_, _, _, ws ++ [(L2, bp ++ [p.2])], rfl, fun x o e => ?_, by rw [upd_same, List.map_append]; rfl, fun z hz => ?_, (P5.same s57).updL, ?_⟩
              · rw [upd_ne (ne_of_none e hDH)]; exact s57 _ _ (s5 x o e)
              · refine PaC.updL ?_
                rcases List.mem_append.mp hz with hz | hz
                · exact (A5 z hz).same s57
                · rw [List.mem_singleton.mp hz]; exact ⟨nL2, eL2⟩
              · rw [hkid, List.map_append, Z5, List.append_assoc]; rfl
          · rw [decide_eq_false (show ¬ V.str p.1 = V.str lab from fun z => hc (V.str.inj z))]
            rw [if_neg fun z => hc z.1, List.append_nil] at hkid
            exact iteF (iteF ⟨_, _, _, ws, rfl, s5, eD5, A5, P5, by rw [hkid]; exact Z5⟩)
        · rintro σ H5 ⟨u6, u7, u8, ws, rfl, s5, eD5, A5, P5, Z5⟩
          rw [List.length_map, hlt, List.take_length, ← eX] at Z5
          exact ⟨_, rfl, _, _, rfl, rfl, ws, some (.ref ba), u6, u7, u8, rfl, s5, eD5, A5, Z5⟩
      · rw [decide_eq_false (show ¬ (zs.length : Int) < 201 by omega)]
        refine iteF ?_
        refine ⟨_, rfl, _, _, rfl, Or.inl ⟨_, SqL.of eD4, rfl⟩, ?_⟩
        rw [List.length_map]
        exact fin fun z => c2 z.2
    · rw [decide_eq_false (show ¬ (j : Int) < (zs.length : Int) by omega)]
      refine iteF ?_
      refine iteF ?_
      refine ⟨_, rfl, _, _, rfl, Or.inl ⟨_, SqL.of eD4, rfl⟩, ?_⟩
      rw [List.length_map]
      exact fin fun z => c1 z.1
theorem call__law_count {f : Addr} {fd : FuncData} (B : Blt mg) (ER : Ers K mg)  (F : Fun K "_law_count" "_law_count" s__law_count f fd) (hm : mg "_law_count" = some (.ref f)) : Callee P w K mg base "_law_count" 1 ["_law_net_here", "_law_label", "_law_scope"] (sp__law_count K) :=
  ⟨f, fd, ok__law_count B ER  F, hm, F.kp, F.binds fun _ _ _ _ _ _ us hl => (by obtain ⟨x0, x1, x2, rfl⟩ := len_3 hl; rfl)⟩
theorem str_len (z : Str) : z.length = z.cps.toList.length := by rw [Array.length_toList]; rfl

def sp_law (K : PySem.W.Frag) : Sp := fun vs H Q _ => ∃ (a : Addr) (ns : List Int), vs = [.ref a] ∧ SqL K H a (ns.map V.int) ∧ ns.length ≤ 63 ∧ ∀ H', Q (.bl true) H'
set_option maxHeartbeats 4000000 in
seal L2.PE L2.PA L2.PS L2.PSs L2.PT L2.PW L2.PC L2.PG L2.PGs L2.PI L2.PF L2.PSet L2.OpR L2.UnR L2.CallR L2.MtR L2.IxR L2.SlR L2.PO in
theorem ok_law {f : Addr} {fd : FuncData} (B : Blt mg) (ER : Ers K mg) (c__law_cell_at : Callee P w K mg base "_law_cell_at" 1 ["_law_script", "_law_k"] (sp__law_cell_at K)) (c__law_net : Callee P w K mg base "_law_net" 1 ["_law_rows_here", "_law_turn", "_law_label", "_law_name"] (sp__law_net K)) (c__law_rows : Callee P w K mg base "_law_rows" 2 ["_law_script"] (sp__law_rows K)) (c__law_right : Callee P w K mg base "_law_right" 10 ["_law_net_here", "_law_table", "_law_scope", "_law_name", "_law_many"] (sp__law_right K)) (c__law_count : Callee P w K mg base "_law_count" 1 ["_law_net_here", "_law_label", "_law_scope"] (sp__law_count K)) (F : Fun K "law" "law" s_law f fd) : FnOk P w K mg base CX0 11 f fd ["_law_script"] (sp_law K) := by
  refine F.ok sc_law (fun vs H Q E h => ?_) (fun cdv A outer s H vs Q E hr h => ?_)
  · obtain ⟨a, ns, rfl, _⟩ := h
    rfl
  · obtain ⟨a, ns, rfl, hS, _, kq⟩ := h
    refine ⟨_, (pss_cons (ps_set (i := 1) sc_law.nd (pe_slice sl_str pe_str (po_some (pe_op op_mod (pe_fn c__law_cell_at (pa_cons (pv 0) (pa_cons pe_int pa_nil))) pe_int)) po_none))
      (pss_cons (ps_set (i := 2) sc_law.nd (pe_slice sl_str pe_str (po_some (pe_op op_mod (pe_op op_fdiv (pe_fn c__law_cell_at (pa_cons (pv 0) (pa_cons pe_int pa_nil))) pe_int) pe_int)) po_none))
      (pss_cons (ps_set (i := 3) sc_law.nd (pe_op op_mod (pe_op op_fdiv (pe_fn c__law_cell_at (pa_cons (pv 0) (pa_cons pe_int pa_nil))) pe_int) pe_int))
      (pss_cons (ps_set (i := 4) sc_law.nd (pe_fn c__law_net (pa_cons (pe_fn c__law_rows (pa_cons (pv 0) pa_nil)) (pa_cons (pv 3) (pa_cons (pv 1) (pa_cons (pv 2) pa_nil))))))
      (pss_cons (ps_set (i := 5) sc_law.nd (pe_tup (pa_cons (pe_lst (pa_cons (pe_tup (pa_cons (pe_lst (pa_cons (pe_tup (pa_cons (pv 1) (pa_cons pe_int pa_nil))) pa_nil)) (pa_cons (pe_lst (pa_cons (pv 1) pa_nil)) pa_nil))) pa_nil)) (pa_cons pe_int (pa_cons (pe_lst pa_nil) pa_nil)))))
      (pss_cons (ps_if (pt_not (pt_val (pe_fn c__law_right (pa_cons (pv 4) (pa_cons (pv 5) (pa_cons (pv 3) (pa_cons (pv 2) (pa_cons (pe_fn c__law_count (pa_cons (pv 4) (pa_cons (pv 1) (pa_cons (pv 3) pa_nil)))) pa_nil)))))))) (pss_one (ps_ret pe_bl)) pss_nil)
      (pss_cons (ps_expr (pe_bm0 PySem.F.plainAttrs_list PySem.F.slot_list_clear PySem.F.type_list_clear mr_clear (pe_ix ix_seq (pe_ix ix_seq (pe_ix ix_seq (pv 4) pe_int) (pv 3)) pe_int)))
      (pss_one (ps_ret (pe_fn c__law_right (pa_cons (pv 4) (pa_cons (pv 5) (pa_cons (pv 3) (pa_cons (pv 2) (pa_cons pe_int pa_nil))))))))))))))), ?_⟩
    refine ⟨_, rfl, a, ns, 1, rfl, by decide, hS, _, _, rfl, rfl, (by show (0 : Int) < _; decide), _, rfl, _, rfl, by decide, (fun i h => by cases h; exact Int.emod_nonneg _ (by decide)), (fun i h => by cases h), fun lab hlab => ?_⟩
    have llab : lab.length ≤ 7 := by
      rw [str_len lab, hlab]
      unfold cutS
      rw [List.length_take, List.length_drop, ← str_len]
      exact Nat.le_trans (Nat.min_le_right _ _) (Nat.sub_le _ _)
    clear hlab
    refine g_in ?_
    try dsimp only
    refine ⟨_, rfl, a, ns, 1, rfl, by decide, hS, _, _, rfl, rfl, ⟨by decide, by decide⟩, _, _, rfl, rfl, (by show (0 : Int) < _; decide), _, rfl, _, rfl, by decide, (fun i h => by cases h; exact Int.emod_nonneg _ (by decide)), (fun i h => by cases h), fun nam hnam => ?_⟩
    clear hnam
    refine g_in ?_
    try dsimp only
    refine ⟨_, rfl, a, ns, 1, rfl, by decide, hS, _, _, rfl, rfl, ⟨by decide, by decide⟩, _, _, rfl, rfl, (by show (0 : Int) < _; decide), ?_⟩
    obtain ⟨v, ev, hv⟩ : ∃ n : Nat, cellAt ns 1 / 56 % 7 = (n : Int) ∧ n < 7 := ⟨(cellAt ns 1 / 56 % 7).toNat, by omega, by omega⟩
    dsimp only
    rw [ev]
    refine g_in ?_
    try dsimp only
    refine ⟨_, rfl, a, ns, rfl, hS, fun R tr rs H1 hR s1 eR RC RZ => ?_⟩
    refine ⟨_, rfl, _, rfl, _, rfl, R, tr, rs, v, lab, nam, rfl, hv, llab, eR, RC, RZ, fun net S H2 hnet s2 N => ?_⟩
    refine g_in ?_
    try dsimp only
    obtain ⟨sc, th, qu, us, as, bs, tl, en, SC⟩ := id N.ex
    obtain ⟨ts, ea, _⟩ := SC.stp v hv
    refine ⟨_, rfl, two_le, fun gt hgt => ?_⟩
    have t1 := same_new (o := .tup [.str lab, .int 0]) hgt
    have e1 : (upd H2 gt (.tup [.str lab, .int 0])) gt = some (.tup [.str lab, .int 0]) := upd_same
    generalize upd H2 gt (.tup [.str lab, .int 0]) = H3 at t1 e1 ⊢
    refine ⟨one_leT, fun g hg => ?_⟩
    have n2 : g ≠ as.getD v 0 := (ne_of_none (t1 _ _ ea) hg).symm
    have t2 := same_new (o := .lst [.ref gt]) hg
    have e2 : (upd H3 g (.lst [.ref gt])) g = some (.lst [.ref gt]) := upd_same
    generalize upd H3 g (.lst [.ref gt]) = H4 at t2 e2 ⊢
    refine ⟨_, rfl, one_leT, fun e he => ?_⟩
    have n3 : e ≠ as.getD v 0 := (ne_of_none (t2 _ _ (t1 _ _ ea)) he).symm
    have t3 := same_new (o := .lst [.str lab]) he
    have e3 : (upd H4 e (.lst [.str lab])) e = some (.lst [.str lab]) := upd_same
    generalize upd H4 e (.lst [.str lab]) = H5 at t3 e3 ⊢
    refine ⟨two_le, fun u hu => ?_⟩
    have t4 := same_new (o := .tup [.ref g, .ref e]) hu
    have e4 : (upd H5 u (.tup [.ref g, .ref e])) u = some (.tup [.ref g, .ref e]) := upd_same
    generalize upd H5 u (.tup [.ref g, .ref e]) = H6 at t4 e4 ⊢
    refine ⟨one_leT, fun aa haa => ?_⟩
    have n1 : aa ≠ as.getD v 0 := (ne_of_none (t4 _ _ (t3 _ _ (t2 _ _ (t1 _ _ ea)))) haa).symm
    have t5 := same_new (o := .lst [.ref u]) haa
    have e5 : (upd H6 aa (.lst [.ref u])) aa = some (.lst [.ref u]) := upd_same
    generalize upd H6 aa (.lst [.ref u]) = H7 at t5 e5 ⊢
    refine ⟨by decide, fun oo hoo => ?_⟩
    have t6 := same_new (o := .lst []) hoo
    generalize upd H7 oo (.lst []) = H8 at t6 ⊢
    refine ⟨three_le, fun t ht => ?_⟩
    have t7 := same_new (o := .tup [.ref aa, .int 0, .ref oo]) ht
    have e7 : (upd H8 t (.tup [.ref aa, .int 0, .ref oo])) t = some (.tup [.ref aa, .int 0, .ref oo]) := upd_same
    generalize upd H8 t (.tup [.ref aa, .int 0, .ref oo]) = H9 at t7 e7 ⊢
    have z6 := t6.trans t7
    have z5 := t5.trans z6
    have z4 := t4.trans z5
    have z3 := t3.trans z4
    have z2 := t2.trans z3
    have z1 := t1.trans z2
    have TT : ∀ {H' : Hp}, Same H9 H' → ∃ a o u g e gt, H' t = some (.tup [.ref a, .int 0, .ref o]) ∧ H' a = some (.lst [.ref u]) ∧ H' u = some (.tup [.ref g, .ref e]) ∧ H' g = some (.lst [.ref gt]) ∧ H' gt = some (.tup [.str lab, .int 0]) ∧ H' e = some (.lst [.str lab]) ∧ a ≠ as.getD v 0 ∧ g ≠ as.getD v 0 ∧ e ≠ as.getD v 0 := fun {H'} zz => ⟨aa, oo, u, g, e, gt, zz _ _ e7, zz _ _ (z6 _ _ e5), zz _ _ (z5 _ _ e4), zz _ _ (z3 _ _ e2), zz _ _ (z2 _ _ e1), zz _ _ (z4 _ _ e3), n1, n2, n3⟩
    have TC : TabC H9 t lab := ⟨let ⟨a, o, u, g, e, gt, h1, h2, h3, h4, h5, h6, _⟩ := TT (Same.refl _); ⟨a, o, u, g, e, gt, h1, h2, h3, h4, h5, h6⟩⟩
    have N9 := N.same z1
    refine g_in ?_
    try dsimp only
    refine ⟨_, rfl, _, rfl, _, rfl, _, rfl, _, rfl, _, rfl, _, rfl, net, v, lab, nam, S, rfl, hv, N9, fun k H10 s10 ST => ?_⟩
    have ST2 : StopL (kidB lab S) ([], v) k := StopL.map (m := scp) (g := kidP lab S) (kid_scp lab S) ST
    have eL : (exL (kidP lab S) [v] k).length = (exL (kidB lab S) ([], v) k).length := by
      have := congrArg List.length (exL_map (f := kidB lab S) (g := kidP lab S) (m := scp) (kid_scp lab S) ([], v) k)
      rw [List.length_map] at this
      exact this.symm
    refine ⟨net, t, v, lab, nam, S, k, _, rfl, hv, N9.same s10, TC.same s10, ST2, eL, fun H11 s11 => ?_⟩
    refine ⟨_, rfl, iteF ?_⟩
    have zz := s10.trans s11
    have y2 := z1.trans zz
    have SC11 := SC.same y2
    have ea11 := y2 _ _ ea
    have hu7 : (us.map V.ref)[v]? = some (.ref (us.getD v 0)) := by rw [List.getElem?_map, getD_at0 (by rw [SC.lu]; exact hv)]; rfl
    refine ⟨_, rfl, Or.inr (Or.inl ⟨net, _, _, .ref sc, rfl, rfl, SqT.of (y2 _ _ en), rfl, _, rfl, Or.inl ⟨sc, _, _, .ref (us.getD v 0), rfl, rfl, SqL.of SC11.top, atI_nat hu7, Or.inr (Or.inl ⟨us.getD v 0, _, _, .ref (as.getD v 0), rfl, rfl, SqT.of (SC11.sco v hv), rfl, Or.inl ⟨rfl, _, SqL.of ea11⟩, as.getD v 0, _, rfl, rfl, ea11, ?_⟩)⟩⟩)⟩
    have SC12 := SC11.set hv (ts' := []) (l := []) Stp.nil
    have T12 : TabC (upd H11 (as.getD v 0) (.lst [])) t lab := TabC.updL ea11 (TT zz)
    have en12 : (upd H11 (as.getD v 0) (.lst [])) net = some (.tup [.ref sc, .ref th, .ref qu]) := by
      rw [upd_ne fun z => by have := y2 _ _ en; rw [z, ea11] at this; cases this]
      exact y2 _ _ en
    have N12 : NetC (upd H11 (as.getD v 0) (.lst [])) net lab nam (setF S v []) := ⟨⟨sc, th, qu, us, as, bs, tl, en12, SC12⟩, fun i hi => by
      unfold setF
      split
      · exact ⟨Nat.zero_le _, fun x hx => by simp at hx⟩
      · exact N.le i hi⟩
    have k0 : kidB lab (setF S v []) ([], v) = [] := by
      unfold kidB setF
      rw [if_pos rfl]; rfl
    have x1 : exL (kidB lab (setF S v [])) ([], v) 1 = [([], v)] := by
      show [([], v)] ++ kidB lab (setF S v []) ([], v) = _
      rw [k0]; rfl
    refine ⟨_, rfl, _, rfl, _, rfl, _, rfl, net, t, v, lab, nam, setF S v [], 1, 1, rfl, hv, N12, T12, ⟨fun j hj => ?_, .inl ?_⟩, by rw [x1]; rfl, fun H13 _ => kq _⟩
    · obtain rfl : j = 0 := by omega
      exact ⟨show 0 < 1 by decide, show 1 ≤ 200 by decide⟩
    · rw [x1]
      exact ⟨rfl, show 1 ≤ 200 by decide⟩
theorem call_law {f : Addr} {fd : FuncData} (B : Blt mg) (ER : Ers K mg) (c__law_cell_at : Callee P w K mg base "_law_cell_at" 1 ["_law_script", "_law_k"] (sp__law_cell_at K)) (c__law_net : Callee P w K mg base "_law_net" 1 ["_law_rows_here", "_law_turn", "_law_label", "_law_name"] (sp__law_net K)) (c__law_rows : Callee P w K mg base "_law_rows" 2 ["_law_script"] (sp__law_rows K)) (c__law_right : Callee P w K mg base "_law_right" 10 ["_law_net_here", "_law_table", "_law_scope", "_law_name", "_law_many"] (sp__law_right K)) (c__law_count : Callee P w K mg base "_law_count" 1 ["_law_net_here", "_law_label", "_law_scope"] (sp__law_count K)) (F : Fun K "law" "law" s_law f fd) (hm : mg "law" = some (.ref f)) : Callee P w K mg base "law" 11 ["_law_script"] (sp_law K) :=
  ⟨f, fd, ok_law B ER c__law_cell_at c__law_net c__law_rows c__law_right c__law_count F, hm, F.kp, F.binds fun _ _ _ _ _ _ us hl => (by obtain ⟨x0, rfl⟩ := len_1 hl; rfl)⟩
end
abbrev Fin (K : PySem.W.Frag) (mg : Str → Option Value) (x : Str) (st : Stmt) : Prop := ∃ f fd, Fun K x x st f fd ∧ mg x = some (.ref f)
theorem fin_mk {K : PySem.W.Frag} {h : Heap} {mg : Str → Option Value} (X : K.In h) (G : h.Ns mainGlobals mg) {x : Str} {st : Stmt} {f : Addr} {oc : Value} {od an : Option Addr} {osl : Array (Option Value)} {kV doc pm cdv ct : Value} (a : PySem.W.nsIn K mainGlobals x = some (some (.ref f))) (l : K.lookup f = some ⟨oc, od, .func (PySem.W.fnOf x x (defArgs st) (defBody st) (defScope st) .none kV doc pm an cdv ct), osl⟩)
    (c : PySem.W.codeIn K cdv x = true) (k : PySem.W.keepIn K (.ref f) = true) : Fin K mg x st := ⟨f, _, fun_mk l c k, PySem.W.mg_of X G a⟩
theorem all_mk {l : PySem.W.OpenLaw} {w : World} {K : PySem.W.Frag} {h : Heap} {mg : Str → Option Value} {fa : Addr} (X : K.In h) (G : h.Ns mainGlobals mg) (hfa : mg "law" = some (.ref fa))
    {f19 : Addr} {od19 an19 : Option Addr} {sl19 : Array (Option Value)} {oc19 kV19 dc19 pm19 cd19 ct19 : Value}
    {tc_MOST_BEGINNINGS : Tok}
    (q0 : Fin K mg "_law_cell_at" s__law_cell_at)
    (q1 : Fin K mg "_law_net" s__law_net)
    (q2 : Fin K mg "_law_rows" s__law_rows)
    (q3 : Fin K mg "next_state" s_next_state)
    (q4 : Fin K mg "inside_of_sort" s_inside_of_sort)
    (q5 : Fin K mg "inside" s_inside)
    (q6 : Fin K mg "goal" s_goal)
    (q7 : Fin K mg "steps_gone" s_steps_gone)
    (q8 : Fin K mg "longer_by_a_step" s_longer_by_a_step)
    (q9 : Fin K mg "beginnings" s_beginnings)
    (q10 : Fin K mg "has_end" s_has_end)
    (q11 : Fin K mg "found_behind" s_found_behind)
    (q12 : Fin K mg "found_ways" s_found_ways)
    (q13 : Fin K mg "owed_behind" s_owed_behind)
    (q14 : Fin K mg "owed_ways" s_owed_ways)
    (q15 : Fin K mg "_law_asked" s__law_asked)
    (q16 : Fin K mg "_law_kinds_of" s__law_kinds_of)
    (q17 : Fin K mg "_law_right" s__law_right)
    (q18 : Fin K mg "_law_count" s__law_count)
    (a19 : PySem.W.nsIn K mainGlobals "law" = some (some (.ref f19))) (l19 : K.lookup f19 = some ⟨oc19, od19, .func (PySem.W.fnOf "law" "law" (defArgs s_law) (defBody s_law) (defScope s_law) .none kV19 dc19 pm19 an19 cd19 ct19), sl19⟩) (c19 : PySem.W.codeIn K cd19 "law" = true) (k19 : PySem.W.keepIn K (.ref f19) = true)
    (z_ValueError : PySem.W.nsIn K mainGlobals "ValueError" = some none)
    (z_all : PySem.W.nsIn K mainGlobals "all" = some none)
    (z_enumerate : PySem.W.nsIn K mainGlobals "enumerate" = some none)
    (z_isinstance : PySem.W.nsIn K mainGlobals "isinstance" = some none)
    (z_len : PySem.W.nsIn K mainGlobals "len" = some none)
    (z_range : PySem.W.nsIn K mainGlobals "range" = some none)
    (z_sorted : PySem.W.nsIn K mainGlobals "sorted" = some none)
    (y_MOST_BEGINNINGS : PySem.W.nsIn K mainGlobals "MOST_BEGINNINGS" = some (some (.int 200 tc_MOST_BEGINNINGS)))
    {C_Caught : Addr} (g_Caught : PySem.W.nsIn K mainGlobals "Caught" = some (some (.ref C_Caught)))
    {C_NoName : Addr} (g_NoName : PySem.W.nsIn K mainGlobals "NoName" = some (some (.ref C_NoName)))
    {C_NoPlace : Addr} (g_NoPlace : PySem.W.nsIn K mainGlobals "NoPlace" = some (some (.ref C_NoPlace)))
    {C_NoRow : Addr} (g_NoRow : PySem.W.nsIn K mainGlobals "NoRow" = some (some (.ref C_NoRow)))
    {C_NoText : Addr} (g_NoText : PySem.W.nsIn K mainGlobals "NoText" = some (some (.ref C_NoText)))
    {C_PathError : Addr} (g_PathError : PySem.W.nsIn K mainGlobals "PathError" = some (some (.ref C_PathError)))
    {C_Ring : Addr} (g_Ring : PySem.W.nsIn K mainGlobals "Ring" = some (some (.ref C_Ring)))
    {C_Tangled : Addr} (g_Tangled : PySem.W.nsIn K mainGlobals "Tangled" = some (some (.ref C_Tangled)))
    {C_TooGreat : Addr} (g_TooGreat : PySem.W.nsIn K mainGlobals "TooGreat" = some (some (.ref C_TooGreat)))
    {C_Twice : Addr} (g_Twice : PySem.W.nsIn K mainGlobals "Twice" = some (some (.ref C_Twice)))
    (x_PathError : PySem.W.excIn K C_PathError [.type "ValueError", .type "Exception", .type "BaseException", .type "object"] "ValueError.__new__" = true)
    (x_Tangled : PySem.W.excIn K C_Tangled [.type "ValueError", .type "Exception", .type "BaseException", .type "object"] "ValueError.__new__" = true)
    (hn0 : PySem.W.specialIn K (.builtin "object.__class__") "__get__" = some (some (.builtin "getset_descriptor.__get__"))) (ht0 : PySem.W.takesIn K (.builtin "object.__class__") = some true)
    (p_Tangled : PySem.W.findIn K (.ref C_Tangled) "__getattribute__" = some (some (.builtin "BaseException.__getattribute__"))) (pa_Tangled : PySem.W.findIn K (.ref C_Tangled) "__getattr__" = some none) (pb_Tangled : PySem.W.mroIn K C_Tangled (.type "BaseException") = some true) (q_Tangled : PySem.W.findIn K (.ref C_Tangled) "__class__" = some (some (.builtin "object.__class__"))) (m_Tangled : PySem.W.mroIn K C_Tangled (.type "object") = some true) (w_Tangled : PySem.W.subIn K (.ref C_Tangled) (.type "ValueError") = some true)
    (u_Tangled_PathError : PySem.W.mroIn K C_Tangled (.ref C_PathError) = some true)
    (r_Tangled_Caught : PySem.W.subIn K (.ref C_Tangled) (.ref C_Caught) = some false)
    (r_Tangled_NoName : PySem.W.subIn K (.ref C_Tangled) (.ref C_NoName) = some false)
    (r_Tangled_NoPlace : PySem.W.subIn K (.ref C_Tangled) (.ref C_NoPlace) = some false)
    (r_Tangled_NoRow : PySem.W.subIn K (.ref C_Tangled) (.ref C_NoRow) = some false)
    (r_Tangled_NoText : PySem.W.subIn K (.ref C_Tangled) (.ref C_NoText) = some false)
    (r_Tangled_Ring : PySem.W.subIn K (.ref C_Tangled) (.ref C_Ring) = some false)
    (r_Tangled_Tangled : PySem.W.subIn K (.ref C_Tangled) (.ref C_Tangled) = some true)
    (r_Tangled_TooGreat : PySem.W.subIn K (.ref C_Tangled) (.ref C_TooGreat) = some false)
    (r_Tangled_Twice : PySem.W.subIn K (.ref C_Tangled) (.ref C_Twice) = some false)
    (n_Tangled_Caught : (Value.ref C_Tangled == Value.ref C_Caught) = false)
    (n_Tangled_NoName : (Value.ref C_Tangled == Value.ref C_NoName) = false)
    (n_Tangled_NoPlace : (Value.ref C_Tangled == Value.ref C_NoPlace) = false)
    (n_Tangled_NoRow : (Value.ref C_Tangled == Value.ref C_NoRow) = false)
    (n_Tangled_NoText : (Value.ref C_Tangled == Value.ref C_NoText) = false)
    (n_Tangled_Ring : (Value.ref C_Tangled == Value.ref C_Ring) = false)
    (n_Tangled_TooGreat : (Value.ref C_Tangled == Value.ref C_TooGreat) = false)
    (n_Tangled_Twice : (Value.ref C_Tangled == Value.ref C_Twice) = false)
    (o_Caught : PySem.W.mroIn K C_Caught (.type "object") = some true) (t_Caught : PySem.W.typeIn K (.ref C_Caught) = some (.type "type"))
    (o_NoName : PySem.W.mroIn K C_NoName (.type "object") = some true) (t_NoName : PySem.W.typeIn K (.ref C_NoName) = some (.type "type"))
    (o_NoPlace : PySem.W.mroIn K C_NoPlace (.type "object") = some true) (t_NoPlace : PySem.W.typeIn K (.ref C_NoPlace) = some (.type "type"))
    (o_NoRow : PySem.W.mroIn K C_NoRow (.type "object") = some true) (t_NoRow : PySem.W.typeIn K (.ref C_NoRow) = some (.type "type"))
    (o_NoText : PySem.W.mroIn K C_NoText (.type "object") = some true) (t_NoText : PySem.W.typeIn K (.ref C_NoText) = some (.type "type"))
    (o_Ring : PySem.W.mroIn K C_Ring (.type "object") = some true) (t_Ring : PySem.W.typeIn K (.ref C_Ring) = some (.type "type"))
    (o_Tangled : PySem.W.mroIn K C_Tangled (.type "object") = some true) (t_Tangled : PySem.W.typeIn K (.ref C_Tangled) = some (.type "type"))
    (o_TooGreat : PySem.W.mroIn K C_TooGreat (.type "object") = some true) (t_TooGreat : PySem.W.typeIn K (.ref C_TooGreat) = some (.type "type"))
    (o_Twice : PySem.W.mroIn K C_Twice (.type "object") = some true) (t_Twice : PySem.W.typeIn K (.ref C_Twice) = some (.type "type"))
    : ∃ fd : FuncData, (∀ (s : Shared) (v : Value), BindsTo s fd ⟨[v], []⟩ [("_law_script", v)]) ∧ ∀ base : Heap, K.In base → base.Ns mainGlobals mg → FnOk l.prog w K mg base CX0 11 fa fd ["_law_script"] (sp_law K) := by
  have e := hfa.symm.trans (PySem.W.mg_of X G a19)
  cases e
  have B : Blt mg := ⟨PySem.W.mg_none_of X G z_ValueError, PySem.W.mg_none_of X G z_all, PySem.W.mg_none_of X G z_enumerate, PySem.W.mg_none_of X G z_isinstance, PySem.W.mg_none_of X G z_len, PySem.W.mg_none_of X G z_range, PySem.W.mg_none_of X G z_sorted, ⟨_, PySem.W.mg_of X G y_MOST_BEGINNINGS⟩⟩
  have e_Caught : clsA K "Caught" = C_Caught := clsA_of g_Caught
  have e_NoName : clsA K "NoName" = C_NoName := clsA_of g_NoName
  have e_NoPlace : clsA K "NoPlace" = C_NoPlace := clsA_of g_NoPlace
  have e_NoRow : clsA K "NoRow" = C_NoRow := clsA_of g_NoRow
  have e_NoText : clsA K "NoText" = C_NoText := clsA_of g_NoText
  have e_PathError : clsA K "PathError" = C_PathError := clsA_of g_PathError
  have e_Ring : clsA K "Ring" = C_Ring := clsA_of g_Ring
  have e_Tangled : clsA K "Tangled" = C_Tangled := clsA_of g_Tangled
  have e_TooGreat : clsA K "TooGreat" = C_TooGreat := clsA_of g_TooGreat
  have e_Twice : clsA K "Twice" = C_Twice := clsA_of g_Twice
  have ER : Ers K mg := ⟨by rw [e_Caught]; exact PySem.W.mg_of X G g_Caught, by rw [e_NoName]; exact PySem.W.mg_of X G g_NoName, by rw [e_NoPlace]; exact PySem.W.mg_of X G g_NoPlace, by rw [e_NoRow]; exact PySem.W.mg_of X G g_NoRow, by rw [e_NoText]; exact PySem.W.mg_of X G g_NoText, by rw [e_PathError]; exact PySem.W.mg_of X G g_PathError, by rw [e_Ring]; exact PySem.W.mg_of X G g_Ring, by rw [e_Tangled]; exact PySem.W.mg_of X G g_Tangled, by rw [e_TooGreat]; exact PySem.W.mg_of X G g_TooGreat, by rw [e_Twice]; exact PySem.W.mg_of X G g_Twice, by rw [e_PathError]; exact ⟨PySem.W.mg_of X G g_PathError, x_PathError⟩, by rw [e_Tangled]; exact ⟨PySem.W.mg_of X G g_Tangled, x_Tangled⟩, by rw [e_Tangled]; exact excCls_of p_Tangled pa_Tangled pb_Tangled q_Tangled hn0 ht0 m_Tangled, by rw [e_Tangled]; exact ask_VE w_Tangled, by rw [e_Tangled, e_PathError]; exact sub_of_mro u_Tangled_PathError, by rw [e_Tangled, e_Caught]; exact ask_own (askB_of o_Caught t_Caught r_Tangled_Caught), by rw [e_Tangled, e_NoName]; exact ask_own (askB_of o_NoName t_NoName r_Tangled_NoName), by rw [e_Tangled, e_NoPlace]; exact ask_own (askB_of o_NoPlace t_NoPlace r_Tangled_NoPlace), by rw [e_Tangled, e_NoRow]; exact ask_own (askB_of o_NoRow t_NoRow r_Tangled_NoRow), by rw [e_Tangled, e_NoText]; exact ask_own (askB_of o_NoText t_NoText r_Tangled_NoText), by rw [e_Tangled, e_Ring]; exact ask_own (askB_of o_Ring t_Ring r_Tangled_Ring), by rw [e_Tangled]; exact ask_own (askB_of o_Tangled t_Tangled r_Tangled_Tangled), by rw [e_Tangled, e_TooGreat]; exact ask_own (askB_of o_TooGreat t_TooGreat r_Tangled_TooGreat), by rw [e_Tangled, e_Twice]; exact ask_own (askB_of o_Twice t_Twice r_Tangled_Twice), by rw [e_Tangled, e_Caught]; exact n_Tangled_Caught, by rw [e_Tangled, e_NoName]; exact n_Tangled_NoName, by rw [e_Tangled, e_NoPlace]; exact n_Tangled_NoPlace, by rw [e_Tangled, e_NoRow]; exact n_Tangled_NoRow, by rw [e_Tangled, e_NoText]; exact n_Tangled_NoText, by rw [e_Tangled, e_Ring]; exact n_Tangled_Ring, by rw [e_Tangled, e_TooGreat]; exact n_Tangled_TooGreat, by rw [e_Tangled, e_Twice]; exact n_Tangled_Twice⟩
  obtain ⟨_, _, F0, m0⟩ := q0
  obtain ⟨_, _, F1, m1⟩ := q1
  obtain ⟨_, _, F2, m2⟩ := q2
  obtain ⟨_, _, F3, m3⟩ := q3
  obtain ⟨_, _, F4, m4⟩ := q4
  obtain ⟨_, _, F5, m5⟩ := q5
  obtain ⟨_, _, F6, m6⟩ := q6
  obtain ⟨_, _, F7, m7⟩ := q7
  obtain ⟨_, _, F8, m8⟩ := q8
  obtain ⟨_, _, F9, m9⟩ := q9
  obtain ⟨_, _, F10, m10⟩ := q10
  obtain ⟨_, _, F11, m11⟩ := q11
  obtain ⟨_, _, F12, m12⟩ := q12
  obtain ⟨_, _, F13, m13⟩ := q13
  obtain ⟨_, _, F14, m14⟩ := q14
  obtain ⟨_, _, F15, m15⟩ := q15
  obtain ⟨_, _, F16, m16⟩ := q16
  obtain ⟨_, _, F17, m17⟩ := q17
  obtain ⟨_, _, F18, m18⟩ := q18
  have F19 := fun_mk (st := s_law) l19 c19 k19
  refine ⟨PySem.W.fnOf "law" "law" (defArgs s_law) (defBody s_law) (defScope s_law) .none kV19 dc19 pm19 an19 cd19 ct19, fun s v => .of_eq rfl, fun base _ _ => ?_⟩
  have K__law_cell_at : Callee l.prog w K mg base "_law_cell_at" 1 ["_law_script", "_law_k"] (sp__law_cell_at K) := call__law_cell_at B ER  F0 m0
  have K__law_net : Callee l.prog w K mg base "_law_net" 1 ["_law_rows_here", "_law_turn", "_law_label", "_law_name"] (sp__law_net K) := call__law_net B ER  F1 m1
  have K__law_rows : Callee l.prog w K mg base "_law_rows" 2 ["_law_script"] (sp__law_rows K) := call__law_rows B ER K__law_cell_at F2 m2
  have K_next_state : Callee l.prog w K mg base "next_state" 1 ["table", "state", "label"] (sp_next_state K) := call_next_state B ER  F3 m3
  have K_inside_of_sort : Callee l.prog w K mg base "inside_of_sort" 1 ["net", "answers", "question"] (sp_inside_of_sort K) := call_inside_of_sort B ER  F4 m4
  have K_inside : Callee l.prog w K mg base "inside" 2 ["net", "answers", "thing"] (sp_inside K) := call_inside B ER K_inside_of_sort F5 m5
  have K_goal : Callee l.prog w K mg base "goal" 3 ["net", "answers", "step"] (sp_goal K) := call_goal B ER K_inside F6 m6
  have K_steps_gone : Callee l.prog w K mg base "steps_gone" 4 ["net", "answers", "table", "scope", "state"] (sp_steps_gone K) := call_steps_gone B ER K_next_state K_goal F7 m7
  have K_longer_by_a_step : Callee l.prog w K mg base "longer_by_a_step" 5 ["net", "answers", "table", "beginning"] (sp_longer_by_a_step K) := call_longer_by_a_step B ER K_steps_gone F8 m8
  have K_beginnings : CalleeE l.prog w K mg base "beginnings" 6 ["net", "answers", "table", "scope", "state"] (sp_beginnings K) := call_beginnings B ER K_longer_by_a_step F9 m9
  have K_has_end : Callee l.prog w K mg base "has_end" 1 ["table", "state", "label"] (sp_has_end K) := call_has_end B ER  F10 m10
  have K_found_behind : Callee l.prog w K mg base "found_behind" 2 ["net", "table", "begun", "name"] (sp_found_behind K) := call_found_behind B ER K_has_end F11 m11
  have K_found_ways : CalleeE l.prog w K mg base "found_ways" 7 ["net", "answers", "table", "scope", "state", "name"] (sp_found_ways K) := call_found_ways B ER K_found_behind K_beginnings F12 m12
  have K_owed_behind : Callee l.prog w K mg base "owed_behind" 5 ["net", "answers", "table", "begun"] (sp_owed_behind K) := call_owed_behind B ER K_steps_gone F13 m13
  have K_owed_ways : CalleeE l.prog w K mg base "owed_ways" 7 ["net", "answers", "table", "scope", "state"] (sp_owed_ways K) := call_owed_ways B ER K_owed_behind K_beginnings F14 m14
  have K__law_asked : CalleeE l.prog w K mg base "_law_asked" 8 ["_law_net_here", "_law_table", "_law_scope", "_law_way", "_law_name"] (sp__law_asked K) := call__law_asked B ER K_beginnings K_found_ways K_owed_ways F15 m15
  have K__law_kinds_of : Callee l.prog w K mg base "_law_kinds_of" 9 ["_law_net_here", "_law_table", "_law_scope", "_law_way", "_law_name"] (sp__law_kinds_of K) := call__law_kinds_of B ER K__law_asked F16 m16
  have K__law_right : Callee l.prog w K mg base "_law_right" 10 ["_law_net_here", "_law_table", "_law_scope", "_law_name", "_law_many"] (sp__law_right K) := call__law_right B ER K__law_kinds_of K__law_asked F17 m17
  have K__law_count : Callee l.prog w K mg base "_law_count" 1 ["_law_net_here", "_law_label", "_law_scope"] (sp__law_count K) := call__law_count B ER  F18 m18
  exact ok_law B ER K__law_cell_at K__law_net K__law_rows K__law_right K__law_count F19
theorem walk {l : PySem.W.OpenLaw} {q : Program} {loose : List Str} {XP : (Str → Option Value) → Heap → Prop} {YP : World → Heap → Prop} {d : DefRec} {K : Params → PySem.W.Frag} (hn : l.most = some 63) (hdf : d.params.defaults = [])
    (hY : ∀ (w : World) (h : Heap), YP w h → (K w.params).In h)
    (F : ∀ (w : World) (mg : Str → Option Value) (fa : Addr) (h : Heap), (K w.params).In h → h.Ns mainGlobals mg → mg d.name = some (.ref fa) →
      ∃ fd : FuncData, (∀ (s : Shared) (u : Value), BindsTo s fd ⟨[u], []⟩ [("_law_script", u)]) ∧ ∀ base : Heap, (K w.params).In base → base.Ns mainGlobals mg → FnOk l.prog w (K w.params) mg base CX0 11 fa fd ["_law_script"] (sp_law (K w.params))) :
    PySem.W.WalkO q loose XP YP l.row.toRowW d [] (fun f vs => PySem.call f vs) :=
  L2.walk_of (n := 63) (k := 11) (x := "_law_script") (CX := fun _ => CX0) (sp := fun w => sp_law (K w.params)) hn (by decide) hdf ⟨rfl, by decide, by decide, rfl⟩ hY F (fun _ _ a ns hl _ hS => ⟨a, ns, rfl, hS, hl, fun _ => rfl⟩) fun _ _ _ _ _ z => z
end K22
namespace L2
open PySem PySem.W PySem.W.Fast in
theorem left_of {p q : Program} {loose : List Str} {Xt : Shared → Bool} {α : Type} {Yf : Shared → α} {Ya : World → α} {N : Nat}
    (h : ∀ w : World, Option.map (fun s => (tw4187177175401517315 q loose (tw5923862056798008813 p.main.body) Xt true s, Yf s)) (((tw10274390034422433532 tw14364793385576792824 (opening p) w N (PySem.start (opening p)).1 (PySem.start (opening p)).2).bind (tw14289696077712309145 p)).bind fun s₀ =>
      match s₀.heap.isNs mainGlobals && s₀.gens.size == 0 with
      | true => (tw14082659384304107361 tw14364793385576792824 p w s₀.heap.objs.size (s₀.heap.nsMap mainGlobals "__annotations__") N s₀ (topStub p)).bind fun s₁ => match staticsOk (tw5923862056798008813 p.main.body) s₀.heap s₁.heap && namesBound p s₁.heap && gensDone s₁ && laidKept s₀.heap s₁.heap with
        | true => some s₁
        | false => none
      | false => none) = some (openGood q loose, Ya w)) : LeftO p q loose Xt Yf Ya N := by
  intro w
  have h := h w
  rw [← te14082659384304107361, ← te10274390034422433532, ← te14364793385576792824, ← te4187177175401517315, ← te5923862056798008813, ← te14289696077712309145] at h
  exact h
end L2
namespace K22
open PySem
def own : Stmt → Bool
  | .Assign [.Name x _] _ _ => x != "__name__"
  | _ => true
def view : Program := { PySem.Challenge.pw_namepaths_k22_looks_that_are_tangled with main := { PySem.Challenge.pw_namepaths_k22_looks_that_are_tangled.main with body := PySem.Challenge.pw_namepaths_k22_looks_that_are_tangled.main.body.filter own } }
end K22
open PySem PySem.W PyProof.Rows
local macro_rules | `(tactic| o_head $H:term) => `(tactic| refine holds_open (q := K22.view) (loose := []) (Xt := fun s => xlAt K22.view [] s && recOk [] s) (XP := XL K22.view []) (Yf := Hook.obs $H) (Ya := Hook.val $H) (YP := Hook.says $H) (N := 40000) ?hl (Hook.of $H) (Hook.keeps $H) (fun s e => xl_of s (Bool.and_eq_true_iff.mp e).1) XL.keeps (by rfl) (by rfl) (by rfl) (fun s e => recFacts_of (Bool.and_eq_true_iff.mp e).2) (by rfl) (by first | assumption | decide +kernel) (by decide +kernel) ⟨rfl, rfl, rfl, rfl, rfl, by decide +kernel⟩ ?hw ?hc)
open PySem PySem.W PyProof.Rows
set_option maxRecDepth 100000 in
set_option maxHeartbeats 0 in
theorem PySem.Challenge.cw_namepaths_k22_looks_that_are_tangled_holds : PySem.Challenge.rw_namepaths_k22_looks_that_are_tangled.Holds := by
  w_on; o_law; k_head
  case hl =>
    refine L2.left_of fun w => ?_
    kernel_rfl
  case hw => w_witness2
  k_fill
  refine K22.walk (l := PySem.Challenge.rw_namepaths_k22_looks_that_are_tangled) rfl rfl (fun w h Y => PySem.W.kIn_of Y) ?F
  case F =>
    intro w mg fa h KX G hmg
    refine' K22.all_mk KX G hmg (K22.fin_mk KX G ?a0 ?l0 ?c0 ?k0) (K22.fin_mk KX G ?a1 ?l1 ?c1 ?k1) (K22.fin_mk KX G ?a2 ?l2 ?c2 ?k2) (K22.fin_mk KX G ?a3 ?l3 ?c3 ?k3) (K22.fin_mk KX G ?a4 ?l4 ?c4 ?k4) (K22.fin_mk KX G ?a5 ?l5 ?c5 ?k5) (K22.fin_mk KX G ?a6 ?l6 ?c6 ?k6) (K22.fin_mk KX G ?a7 ?l7 ?c7 ?k7) (K22.fin_mk KX G ?a8 ?l8 ?c8 ?k8) (K22.fin_mk KX G ?a9 ?l9 ?c9 ?k9) (K22.fin_mk KX G ?a10 ?l10 ?c10 ?k10) (K22.fin_mk KX G ?a11 ?l11 ?c11 ?k11) (K22.fin_mk KX G ?a12 ?l12 ?c12 ?k12) (K22.fin_mk KX G ?a13 ?l13 ?c13 ?k13) (K22.fin_mk KX G ?a14 ?l14 ?c14 ?k14) (K22.fin_mk KX G ?a15 ?l15 ?c15 ?k15) (K22.fin_mk KX G ?a16 ?l16 ?c16 ?k16) (K22.fin_mk KX G ?a17 ?l17 ?c17 ?k17) (K22.fin_mk KX G ?a18 ?l18 ?c18 ?k18) ?a19 ?l19 ?c19 ?k19 ?z_ValueError ?z_all ?z_enumerate ?z_isinstance ?z_len ?z_range ?z_sorted ?y_MOST_BEGINNINGS ?g_Caught ?g_NoName ?g_NoPlace ?g_NoRow ?g_NoText ?g_PathError ?g_Ring ?g_Tangled ?g_TooGreat ?g_Twice ?x_PathError ?x_Tangled ?hn0 ?ht0 ?p_Tangled ?pa_Tangled ?pb_Tangled ?q_Tangled ?m_Tangled ?w_Tangled ?u_Tangled_PathError ?r_Tangled_Caught ?r_Tangled_NoName ?r_Tangled_NoPlace ?r_Tangled_NoRow ?r_Tangled_NoText ?r_Tangled_Ring ?r_Tangled_Tangled ?r_Tangled_TooGreat ?r_Tangled_Twice ?n_Tangled_Caught ?n_Tangled_NoName ?n_Tangled_NoPlace ?n_Tangled_NoRow ?n_Tangled_NoText ?n_Tangled_Ring ?n_Tangled_TooGreat ?n_Tangled_Twice ?o_Caught ?t_Caught ?o_NoName ?t_NoName ?o_NoPlace ?t_NoPlace ?o_NoRow ?t_NoRow ?o_NoText ?t_NoText ?o_Ring ?t_Ring ?o_Tangled ?t_Tangled ?o_TooGreat ?t_TooGreat ?o_Twice ?t_Twice
    (case a0 => k_is)
    (case l0 => k_is)
    (case c0 => k_is)
    (case k0 => k_is)
    (case a1 => k_is)
    (case l1 => k_is)
    (case c1 => k_is)
    (case k1 => k_is)
    (case a2 => k_is)
    (case l2 => k_is)
    (case c2 => k_is)
    (case k2 => k_is)
    (case a3 => k_is)
    (case l3 => k_is)
    (case c3 => k_is)
    (case k3 => k_is)
    (case a4 => k_is)
    (case l4 => k_is)
    (case c4 => k_is)
    (case k4 => k_is)
    (case a5 => k_is)
    (case l5 => k_is)
    (case c5 => k_is)
    (case k5 => k_is)
    (case a6 => k_is)
    (case l6 => k_is)
    (case c6 => k_is)
    (case k6 => k_is)
    (case a7 => k_is)
    (case l7 => k_is)
    (case c7 => k_is)
    (case k7 => k_is)
    (case a8 => k_is)
    (case l8 => k_is)
    (case c8 => k_is)
    (case k8 => k_is)
    (case a9 => k_is)
    (case l9 => k_is)
    (case c9 => k_is)
    (case k9 => k_is)
    (case a10 => k_is)
    (case l10 => k_is)
    (case c10 => k_is)
    (case k10 => k_is)
    (case a11 => k_is)
    (case l11 => k_is)
    (case c11 => k_is)
    (case k11 => k_is)
    (case a12 => k_is)
    (case l12 => k_is)
    (case c12 => k_is)
    (case k12 => k_is)
    (case a13 => k_is)
    (case l13 => k_is)
    (case c13 => k_is)
    (case k13 => k_is)
    (case a14 => k_is)
    (case l14 => k_is)
    (case c14 => k_is)
    (case k14 => k_is)
    (case a15 => k_is)
    (case l15 => k_is)
    (case c15 => k_is)
    (case k15 => k_is)
    (case a16 => k_is)
    (case l16 => k_is)
    (case c16 => k_is)
    (case k16 => k_is)
    (case a17 => k_is)
    (case l17 => k_is)
    (case c17 => k_is)
    (case k17 => k_is)
    (case a18 => k_is)
    (case l18 => k_is)
    (case c18 => k_is)
    (case k18 => k_is)
    (case a19 => k_is)
    (case l19 => k_is)
    (case c19 => k_is)
    (case k19 => k_is)
    (case z_ValueError => k_is)
    (case z_all => k_is)
    (case z_enumerate => k_is)
    (case z_isinstance => k_is)
    (case z_len => k_is)
    (case z_range => k_is)
    (case z_sorted => k_is)
    (case y_MOST_BEGINNINGS => k_is)
    (case g_Caught => k_is)
    (case g_NoName => k_is)
    (case g_NoPlace => k_is)
    (case g_NoRow => k_is)
    (case g_NoText => k_is)
    (case g_PathError => k_is)
    (case g_Ring => k_is)
    (case g_Tangled => k_is)
    (case g_TooGreat => k_is)
    (case g_Twice => k_is)
    (case x_PathError => k_exc)
    (case x_Tangled => k_exc)
    (case hn0 => k_is)
    (case ht0 => k_is)
    (case p_Tangled => k_is)
    (case pa_Tangled => k_is)
    (case pb_Tangled => k_is)
    (case q_Tangled => k_is)
    (case m_Tangled => k_is)
    (case w_Tangled => k_is)
    (case u_Tangled_PathError => k_is)
    (case r_Tangled_Caught => k_is)
    (case r_Tangled_NoName => k_is)
    (case r_Tangled_NoPlace => k_is)
    (case r_Tangled_NoRow => k_is)
    (case r_Tangled_NoText => k_is)
    (case r_Tangled_Ring => k_is)
    (case r_Tangled_Tangled => k_is)
    (case r_Tangled_TooGreat => k_is)
    (case r_Tangled_Twice => k_is)
    (case n_Tangled_Caught => rfl)
    (case n_Tangled_NoName => rfl)
    (case n_Tangled_NoPlace => rfl)
    (case n_Tangled_NoRow => rfl)
    (case n_Tangled_NoText => rfl)
    (case n_Tangled_Ring => rfl)
    (case n_Tangled_TooGreat => rfl)
    (case n_Tangled_Twice => rfl)
    (case o_Caught => k_is)
    (case t_Caught => k_is)
    (case o_NoName => k_is)
    (case t_NoName => k_is)
    (case o_NoPlace => k_is)
    (case t_NoPlace => k_is)
    (case o_NoRow => k_is)
    (case t_NoRow => k_is)
    (case o_NoText => k_is)
    (case t_NoText => k_is)
    (case o_Ring => k_is)
    (case t_Ring => k_is)
    (case o_Tangled => k_is)
    (case t_Tangled => k_is)
    (case o_TooGreat => k_is)
    (case t_TooGreat => k_is)
    (case o_Twice => k_is)
    (case t_Twice => k_is)
